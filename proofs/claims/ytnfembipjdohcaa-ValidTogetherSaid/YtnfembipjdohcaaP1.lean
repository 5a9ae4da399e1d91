/-
  What the plain functions are. No condition.
-/
import Derived.Test.YtnfembipjdohcaaS1
import Derived.Test.YtnfembipjdohcaaK2
namespace Go.Proofs.Ytnfembipjdohcaa
open Go
def cont (c : UInt8) : Bool := decide (128 ≤ c.toNat ∧ c.toNat < 192)
def is1 : List UInt8 → Bool
 | a :: _ => decide (a.toNat < 128)
 | _ => false
def is2 : List UInt8 → Bool
 | a :: b :: _ => decide (194 ≤ a.toNat ∧ a.toNat < 224 ∧ cont b = true)
 | _ => false
def is3 : List UInt8 → Bool
 | a :: b :: c :: _ => decide (224 ≤ a.toNat ∧ a.toNat < 240 ∧ cont b = true ∧ cont c = true ∧ (a.toNat = 224 → 160 ≤ b.toNat) ∧ (a.toNat = 237 → b.toNat < 160))
 | _ => false
def is4 : List UInt8 → Bool
 | a :: b :: c :: d :: _ => decide (240 ≤ a.toNat ∧ a.toNat < 245 ∧ cont b = true ∧ cont c = true ∧ cont d = true ∧ (a.toNat = 240 → 144 ≤ b.toNat) ∧ (a.toNat = 244 → b.toNat < 144))
 | _ => false
def nxt (l : List UInt8) : Nat := if is1 l then 1 else if is2 l then 2 else if is3 l then 3 else if is4 l then 4 else 0
def isN (n : Nat) (l : List UInt8) : Bool := match n with
 | 1 => is1 l
 | 2 => is2 l
 | 3 => is3 l
 | 4 => is4 l
 | _ => false
theorem zdS {n : Nat} {l : List UInt8} (h : isN n l = true) : ∃ a t, l = a :: t ∧ n ≤ l.length ∧ (n = 1 ∧ a.toNat < 128 ∨ n = 2 ∧ 194 ≤ a.toNat ∧ a.toNat < 224 ∨ n = 3 ∧ 224 ≤ a.toNat ∧ a.toNat < 240 ∨ n = 4 ∧ 240 ≤ a.toNat) := by
 match n, l with
 | 1, a :: t => simp only [isN, is1, decide_eq_true_eq] at h; exact ⟨a, t, rfl, by simp, .inl ⟨rfl, h⟩⟩
 | 2, a :: b :: t => simp only [isN, is2, decide_eq_true_eq] at h; exact ⟨a, _, rfl, by simp, .inr (.inl ⟨rfl, h.1, h.2.1⟩)⟩
 | 3, a :: b :: c :: t => simp only [isN, is3, decide_eq_true_eq] at h; exact ⟨a, _, rfl, by simp, .inr (.inr (.inl ⟨rfl, h.1, h.2.1⟩))⟩
 | 4, a :: b :: c :: d :: t => simp only [isN, is4, decide_eq_true_eq] at h; exact ⟨a, _, rfl, by simp, .inr (.inr (.inr ⟨rfl, h.1⟩))⟩
 | 0, _ => cases h
 | 1, [] => cases h
 | 2, [] => cases h
 | 2, [_] => cases h
 | 3, [] => cases h
 | 3, [_] => cases h
 | 3, [_, _] => cases h
 | 4, [] => cases h
 | 4, [_] => cases h
 | 4, [_, _] => cases h
 | 4, [_, _, _] => cases h
 | _ + 5, _ => cases h
theorem zrV {n m : Nat} {l : List UInt8} (h : isN n l = true) (h' : isN m l = true) : n = m := by
 obtain ⟨a, t, e, _, g⟩ := zdS h
 obtain ⟨a', t', e', _, g'⟩ := zdS h'
 rw [e] at e'
 cases e'
 omega
theorem ztp {n : Nat} {l : List UInt8} (h : isN n l = true) : nxt l = n := by
 obtain ⟨_, _, _, _, g⟩ := zdS h
 have k : ∀ m, m ≠ n → isN m l = false := fun m hm => by
  cases hh : isN m l with
  | false => rfl
  | true => exact absurd (zrV hh h) hm
 have hn : n = 1 ∨ n = 2 ∨ n = 3 ∨ n = 4 := by omega
 rcases hn with rfl | rfl | rfl | rfl
 ·simp only [isN] at h; simp [nxt, h]
 ·have j1 := k 1 (by omega); simp only [isN] at h j1; simp [nxt, h, j1]
 ·have j1 := k 1 (by omega); have j2 := k 2 (by omega); simp only [isN] at h j1 j2; simp [nxt, h, j1, j2]
 ·have j1 := k 1 (by omega); have j2 := k 2 (by omega); have j3 := k 3 (by omega); simp only [isN] at h j1 j2 j3; simp [nxt, h, j1, j2, j3]
theorem zjc {l : List UInt8} (h : nxt l ≠ 0) : isN (nxt l) l = true := by
 unfold nxt at h ⊢
 by_cases h1 : is1 l = true
 ·simp [h1, isN]
 ·by_cases h2 : is2 l = true
  ·simp [h1, h2, isN]
  ·by_cases h3 : is3 l = true
   ·simp [h1, h2, h3, isN]
   ·by_cases h4 : is4 l = true
    ·simp [h1, h2, h3, h4, isN]
    ·simp [h1, h2, h3, h4] at h
theorem zjX (l : List UInt8) : nxt l ≤ l.length := by
 by_cases h : nxt l = 0
 ·omega
 ·obtain ⟨_, _, _, g, _⟩ := zdS (zjc h); exact g
theorem zsm (l : List UInt8) : nxt l ≤ 4 := by
 by_cases h : nxt l = 0
 ·omega
 ·obtain ⟨_, _, _, _, g⟩ := zdS (zjc h); omega
def fst4 (m : Int) (l : List UInt8) : Nat × Nat :=
 if h : nxt l = 0 ∨ (nxt l : Int) > m then (0, 0) else (nxt l + (fst4 (m - nxt l) (l.drop (nxt l))).1, (fst4 (m - nxt l) (l.drop (nxt l))).2 + 1)
termination_by l.length
decreasing_by all_goals (have := zjX l; simp only [List.length_drop]; omega)
theorem zhS {m : Int} {l : List UInt8} (h : nxt l = 0 ∨ (nxt l : Int) > m) : fst4 m l = (0, 0) := by rw [fst4, dif_pos h]
theorem zlS {m : Int} {l : List UInt8} (h : ¬ (nxt l = 0 ∨ (nxt l : Int) > m)) : fst4 m l = (nxt l + (fst4 (m - nxt l) (l.drop (nxt l))).1, (fst4 (m - nxt l) (l.drop (nxt l))).2 + 1) := by rw [fst4, dif_neg h]
def pre4 (l : List UInt8) : Nat × Nat := fst4 l.length l
theorem zqp {m : Int} {l : List UInt8} (h : (l.length : Int) ≤ m) : fst4 m l = pre4 l := by
 have key : ∀ (n : Nat) (l : List UInt8) (m m' : Int), l.length = n → (l.length : Int) ≤ m → (l.length : Int) ≤ m' → fst4 m l = fst4 m' l := by
  intro n
  induction n using Nat.strongRecOn with
  | _ n ih =>
   intro l m m' hn hm hm'
   have hle := zjX l
   by_cases h : nxt l = 0
   ·rw [zhS (.inl h), zhS (.inl h)]
   ·rw [zlS (m := m) (l := l) (by omega), zlS (m := m') (l := l) (by omega), ih _ (by simp only [List.length_drop]; omega) (l.drop (nxt l)) (m - nxt l) (m' - nxt l) rfl (by simp only [List.length_drop]; omega) (by simp only [List.length_drop]; omega)]
 exact key _ l m l.length rfl h (Int.le_refl _)
theorem zpz {l : List UInt8} (h : nxt l = 0) : pre4 l = (0, 0) := zhS (.inl h)
theorem zsq {l : List UInt8} (h : nxt l ≠ 0) : pre4 l = (nxt l + (pre4 (l.drop (nxt l))).1, (pre4 (l.drop (nxt l))).2 + 1) := by
 have hle := zjX l
 unfold pre4
 rw [zlS (by omega), zqp (m := (l.length : Int) - nxt l) (by simp only [List.length_drop]; omega)]
 rfl
theorem zrh (P : List UInt8 → Prop) (h0 : ∀ l, nxt l = 0 → P l) (h1 : ∀ l, nxt l ≠ 0 → P (l.drop (nxt l)) → P l) (l : List UInt8) : P l := by
 generalize hn : l.length = n
 induction n using Nat.strongRecOn generalizing l with
 | _ n ih =>
  by_cases h : nxt l = 0
  ·exact h0 l h
  ·have := zjX l
   exact h1 l h (ih _ (by simp only [List.length_drop]; omega) _ rfl)
def zdY (l : List UInt8) : Bool := decide ((pre4 l).1 = l.length)
end Go.Proofs.Ytnfembipjdohcaa
namespace Go.Proofs.Ytnfembipjdohcaa
open Go
def enc (v : Nat) : List UInt8 := if v < 128 then [UInt8.ofNat v] else UInt8.ofNat (128 + v % 128) :: enc (v / 128)
termination_by v
decreasing_by omega
def scan : Nat → Nat → List UInt8 → Unit ⊕ (Int × Int × Int)
 | _, _, [] => .inl ()
 | i, acc, c :: t => if i = 9 ∧ 1 < c.toNat then .inr (0, 0, 4) else if c.toNat < 128 then .inr (((acc + c.toNat % 128 * 128 ^ i : Nat) : Int), ((i + 1 : Nat) : Int), 0) else scan (i + 1) (acc + c.toNat % 128 * 128 ^ i) t
def rdR : Unit ⊕ (Int × Int × Int) → Int × Int × Int
 | .inl _ => (0, 0, 3)
 | .inr r => r
def rd (b : List UInt8) : Int × Int × Int := rdR (scan 0 0 (b.take 10))
def hor : List UInt8 → Nat
 | [] => 0
 | c :: t => c.toNat % 128 + 128 * hor t
def lead : Nat → List UInt8 → Nat
 | 0, _ => 0
 | _ + 1, [] => 0
 | k + 1, c :: t => if 128 ≤ c.toNat then lead k t + 1 else 0
theorem zsP (i : Nat) : 2 ^ (7 * i) = 128 ^ i := by rw [Nat.pow_mul]
theorem zrN (c : Nat) : c &&& 127 = c % 128 := Nat.and_two_pow_sub_one_eq_mod c 7
theorem zpC {acc i c : Nat} (hi : i ≤ 9) (hacc : acc < 128 ^ i) (hc : c < 256) (h9 : i = 9 → c ≤ 1) :
  orI .u64 (acc : Int) (shlI .u64 (IntKind.u64.wrap (andI .u8 (c : Int) 127)) ((7 * i : Nat) : Int)) = ((acc + c % 128 * 128 ^ i : Nat) : Int) := by
 have e1 : andI .u8 (c : Int) 127 = ((c % 128 : Nat) : Int) := by
  have := zmu (k := .u8) rfl (a := c) (b := 127) (by simpa [IntKind.bits] using hc) (by simp [IntKind.bits])
  rw [zrN] at this; exact this
 have hp : 128 ^ i ≤ 128 ^ 9 := Nat.pow_le_pow_right (by omega) hi
 have hlt : c % 128 * 128 ^ i < 18446744073709551616 := by
  by_cases h : i = 9
  ·subst h
   have := h9 rfl
   have h2 : c % 128 ≤ 1 := by omega
   have := Nat.mul_le_mul_right (128 ^ 9) h2
   omega
  ·have h3 : 128 ^ i ≤ 128 ^ 8 := Nat.pow_le_pow_right (by omega) (by omega)
   have := Nat.mul_le_mul (show c % 128 ≤ 127 by omega) h3
   omega
 have e2 : shlI .u64 (IntKind.u64.wrap ((c % 128 : Nat) : Int)) ((7 * i : Nat) : Int) = ((c % 128 * 128 ^ i : Nat) : Int) := by
  unfold shlI
  rw [zhJ rfl (by simp [IntKind.bits]; omega), Int.toNat_natCast, Nat.min_eq_left (by simp [IntKind.bits]; omega)]
  have h4 : ((c % 128 : Nat) : Int) * 2 ^ (7 * i) = ((c % 128 * 128 ^ i : Nat) : Int) := by rw [← zsP]; push_cast; rfl
  rw [h4]
  exact zhJ rfl (by simpa [IntKind.bits] using hlt)
 rw [e1, e2, zoW rfl (by simp [IntKind.bits]; omega) (by simpa [IntKind.bits] using hlt)]
 congr 1
 rw [← zsP] at hacc ⊢
 exact znb _ _ _ hacc
theorem zpB : ∀ (t : List UInt8) (v : List UInt8) (i acc : Nat), v.drop i = t → i + t.length = v.length → v.length ≤ 10 → acc < 128 ^ i → zbA v acc i = some (scan i acc t) := by
 intro t
 induction t with
 | nil =>
  intro v i acc _ hl _ _
  refine zcy ?_
  unfold zar
  rw [itF (by simp at hl ⊢; omega)]
  rfl
 | cons c t ih =>
  intro v i acc hd hl hv hacc
  simp only [List.length_cons] at hl
  have hget : v[i]'(by omega) = c := by
   have h1 : v.drop i = v[i]'(by omega) :: v.drop (i + 1) := List.drop_eq_getElem_cons (by omega)
   rw [hd] at h1; exact (List.cons.inj h1).1.symm
  have hd' : v.drop (i + 1) = t := by rw [← List.drop_drop, hd]; rfl
  have hc := c.toNat_lt
  have hb : zar v acc i = if i = 9 ∧ 1 < c.toNat then some (.inr (.inr (0, 0, 4))) else if c.toNat < 128 then some (.inr (.inr (((acc + c.toNat % 128 * 128 ^ i : Nat) : Int), ((i + 1 : Nat) : Int), 0))) else some (.inl (((acc + c.toNat % 128 * 128 ^ i : Nat) : Int), ((i + 1 : Nat) : Int))) := by
   unfold zar
   rw [itT (by simp; omega), zbk rfl (show i < v.length by omega), sb, hget]
   by_cases h9 : i = 9 ∧ 1 < c.toNat
   ·rw [if_pos h9, itT (by simp; omega)]
   ·rw [if_neg h9, itF (by simp; omega), zX (by omega)]
    have e : ((7 : Int) * (i : Int)) = ((7 * i : Nat) : Int) := by push_cast; rfl
    rw [e, zrp, sb, zpC (by omega) hacc (by omega) (by omega), zX (by omega)]
    by_cases h8 : c.toNat < 128
    ·rw [if_pos h8, itT (by simp; omega)]; push_cast; rfl
    ·rw [if_neg h8, itF (by simp; omega)]; push_cast; rfl
  rw [scan]
  split at hb
  ·rename_i h9; rw [if_pos h9]; exact zcy hb
  ·rename_i h9
   rw [if_neg h9]
   split at hb
   ·rename_i h8; rw [if_pos h8]; exact zcy hb
   ·rename_i h8
    rw [if_neg h8, zgY hb]
    refine ih v (i + 1) _ hd' (by omega) hv ?_
    rw [Nat.pow_succ]
    have := Nat.mul_le_mul_right (128 ^ i) (show c.toNat % 128 ≤ 127 by omega)
    omega
theorem zmf (b : List UInt8) : zcb b = some (rd b) := by
 unfold zcb rd
 have e : (if (10 : Int) < (b.length : Int) then (10 : Int) else (b.length : Int)) = ((min 10 b.length : Nat) : Int) := by split <;> omega
 have e2 : b.take (min 10 b.length) = b.take 10 := by rw [List.take_eq_take_iff]; omega
 rw [e, zqi rfl (by omega), sb, e2]
 have h := zpB (b.take 10) (b.take 10) 0 0 rfl (by simp) (by simp; omega) (by simp)
 have h' : zbA (b.take 10) 0 0 = some (scan 0 0 (b.take 10)) := h
 rw [h', sb]
 cases scan 0 0 (b.take 10) <;> rfl
theorem zoX (b : List UInt8) : zcF b = some ((rd b).2.1, (rd b).2.2) := by unfold zcF; rw [zmf, sb]
theorem zoO : ∀ (k : Nat) (l : List UInt8), lead k l ≤ k ∧ lead k l ≤ l.length
 | 0, _ => ⟨Nat.le_refl _, Nat.zero_le _⟩
 | _ + 1, [] => ⟨Nat.zero_le _, Nat.le_refl _⟩
 | k + 1, c :: t => by
  have := zoO k t
  rw [lead]; split <;> simp <;> omega
theorem zpG : ∀ (l : List UInt8) (i acc : Nat), i + l.length ≤ 10 → i ≤ 9 →
  scan i acc l = if i + lead (10 - i) l = 10 then .inr (0, 0, 4) else if lead (10 - i) l = l.length then .inl () else if i + lead (10 - i) l = 9 ∧ 1 < (l.getD (lead (10 - i) l) 0).toNat then .inr (0, 0, 4) else
   .inr (((acc + hor (l.take (lead (10 - i) l + 1)) * 128 ^ i : Nat) : Int), ((i + lead (10 - i) l + 1 : Nat) : Int), 0) := by
 intro l
 induction l with
 | nil =>
  intro i acc _ hi
  obtain ⟨k, hk⟩ : ∃ k, 10 - i = k + 1 := ⟨9 - i, by omega⟩
  rw [hk]
  simp only [lead, scan, List.length_nil]
  rw [if_neg (by omega), if_pos trivial]
 | cons c t ih =>
  intro i acc hl hi
  obtain ⟨k, hk⟩ : ∃ k, 10 - i = k + 1 := ⟨9 - i, by omega⟩
  simp only [List.length_cons] at hl
  rw [scan]
  by_cases hc : 128 ≤ c.toNat
  ·have e : lead (10 - i) (c :: t) = lead k t + 1 := by rw [hk, lead, if_pos hc]
   rw [e]
   by_cases h9 : i = 9
   ·have : k = 0 := by omega
    subst this
    rw [if_pos ⟨h9, by omega⟩, lead, if_pos (by omega)]
   ·rw [if_neg (by omega), if_neg (by omega), ih (i + 1) _ (by omega) (by omega), show 10 - (i + 1) = k by omega]
    by_cases h1 : i + 1 + lead k t = 10
    ·rw [if_pos h1, if_pos (show i + (lead k t + 1) = 10 by omega)]
    ·rw [if_neg h1, if_neg (show ¬ i + (lead k t + 1) = 10 by omega)]
     by_cases h2 : lead k t = t.length
     ·rw [if_pos h2, if_pos (show lead k t + 1 = (c :: t).length by simp; omega)]
     ·rw [if_neg h2, if_neg (show ¬ lead k t + 1 = (c :: t).length by simp; omega)]
      have eg : (c :: t).getD (lead k t + 1) 0 = t.getD (lead k t) 0 := by simp [List.getD]
      rw [eg]
      by_cases h3 : i + 1 + lead k t = 9 ∧ 1 < (t.getD (lead k t) 0).toNat
      ·rw [if_pos h3, if_pos (show i + (lead k t + 1) = 9 ∧ 1 < (t.getD (lead k t) 0).toNat by omega)]
      ·rw [if_neg h3, if_neg (show ¬ (i + (lead k t + 1) = 9 ∧ 1 < (t.getD (lead k t) 0).toNat) by omega)]
       rw [List.take_succ_cons, hor, Nat.pow_succ]
       have e5 : acc + c.toNat % 128 * 128 ^ i + hor (t.take (lead k t + 1)) * (128 ^ i * 128) = acc + (c.toNat % 128 + 128 * hor (t.take (lead k t + 1))) * 128 ^ i := by
        rw [Nat.add_mul, Nat.mul_assoc 128, Nat.mul_comm (128 ^ i) 128, ← Nat.mul_assoc, Nat.mul_comm _ 128, Nat.mul_assoc]; omega
       rw [e5]
       congr 3
       omega
  ·have e : lead (10 - i) (c :: t) = 0 := by rw [hk, lead, if_neg hc]
   rw [e]
   simp only [Nat.add_zero, List.length_cons, List.getD_cons_zero]
   rw [if_neg (show ¬ i = 10 by omega), if_neg (show ¬ 0 = t.length + 1 by omega)]
   by_cases h9 : i = 9 ∧ 1 < c.toNat
   ·rw [if_pos h9, if_pos h9]
   ·rw [if_neg h9, if_neg h9, if_pos (show c.toNat < 128 by omega)]
    simp [hor]
theorem znN (x y : List UInt8) : hor (x ++ y) = hor x + 128 ^ x.length * hor y := by
 induction x with
 | nil => simp [hor]
 | cons c t ih => simp only [List.cons_append, hor, ih, List.length_cons, Nat.pow_succ, Nat.mul_add]; rw [Nat.mul_comm (128 ^ t.length) 128, Nat.mul_assoc]; omega
theorem ztb (l : List UInt8) : hor l < 128 ^ l.length := by
 induction l with
 | nil => simp [hor]
 | cons c t ih => simp only [hor, List.length_cons, Nat.pow_succ]; omega
theorem ztw {n C X : Nat} (hn : n ≤ 9) (hC : C < 256) (h9 : ¬ (n = 9 ∧ 1 < C)) (hX : X < 128 ^ n) : X + 128 ^ n * (C % 128) < 18446744073709551616 := by
 by_cases h9' : n = 9
 ·subst h9'
  have : C % 128 ≤ 1 := by omega
  have := Nat.mul_le_mul_left (128 ^ 9) this
  omega
 ·have h5 : 128 ^ n ≤ 128 ^ 8 := Nat.pow_le_pow_right (by omega) (by omega)
  have h6 : C % 128 ≤ 127 := by omega
  have := Nat.mul_le_mul h5 h6
  omega
theorem zlk : ∀ (k : Nat) (l : List UInt8), lead k (l.take k) = lead k l
 | 0, _ => rfl
 | _ + 1, [] => rfl
 | k + 1, c :: t => by simp only [List.take_succ_cons, lead, zlk k t]
theorem zlj : ∀ (k : Nat) (l : List UInt8), (∀ y ∈ l.take (lead k l), 128 ≤ y.toNat) ∧ ∀ (h : lead k l < l.length), lead k l < k → (l[lead k l]).toNat < 128
 | 0, _ => ⟨fun y hy => by simp [lead] at hy, fun _ h => by omega⟩
 | _ + 1, [] => ⟨fun y hy => by simp at hy, fun h => by simp at h⟩
 | k + 1, c :: t => by
  obtain ⟨h1, h2⟩ := zlj k t
  by_cases hc : 128 ≤ c.toNat
  ·have e : lead (k + 1) (c :: t) = lead k t + 1 := by rw [lead, if_pos hc]
   constructor
   ·rw [e, List.take_succ_cons]
    intro y hy
    cases hy with
    | head => exact hc
    | tail _ hy => exact h1 y hy
   ·simp only [e, List.getElem_cons_succ, List.length_cons]
    intro h hk; exact h2 (by omega) (by omega)
  ·have e : lead (k + 1) (c :: t) = 0 := by rw [lead, if_neg hc]
   constructor
   ·rw [e]; intro y hy; simp at hy
   ·simp only [e]; intro _ _; simp; omega
theorem zhy (b : List UInt8) : rd b = (0, 0, 4) ∨ (rd b = (0, 0, 3) ∧ b.length ≤ 9) ∨
  ∃ x c y, b = x ++ c :: y ∧ (∀ z ∈ x, 128 ≤ z.toNat) ∧ c.toNat < 128 ∧ x.length ≤ 9 ∧ hor (x ++ [c]) < 18446744073709551616 ∧ rd b = (((hor (x ++ [c]) : Nat) : Int), ((x.length + 1 : Nat) : Int), 0) := by
 have hle := zoO 10 b
 have hs := zpG (b.take 10) 0 0 (by simp; omega) (by omega)
 simp only [Nat.zero_add, Nat.sub_zero, zlk, Nat.pow_zero, Nat.mul_one] at hs
 unfold rd
 rw [hs]
 by_cases h10 : lead 10 b = 10
 ·rw [if_pos h10]; exact .inl rfl
 ·rw [if_neg h10]
  by_cases hl : lead 10 b = (b.take 10).length
  ·rw [if_pos hl]; refine .inr (.inl ⟨rfl, ?_⟩); rw [List.length_take] at hl; omega
  ·rw [if_neg hl]
   rw [List.length_take] at hl
   have hlt : lead 10 b < b.length := by omega
   have hg : (b.take 10).getD (lead 10 b) 0 = b[lead 10 b] := by
    rw [List.getD_eq_getElem?_getD, List.getElem?_take, if_pos (by omega), List.getElem?_eq_getElem hlt]; rfl
   rw [hg, List.take_take, Nat.min_eq_left (by omega)]
   have hc := (b[lead 10 b]).toNat_lt
   by_cases h9 : lead 10 b = 9 ∧ 1 < (b[lead 10 b]).toNat
   ·rw [if_pos h9]; exact .inl rfl
   ·rw [if_neg h9]
    obtain ⟨hf1, hf2⟩ := zlj 10 b
    have hsp : b.take (lead 10 b + 1) = b.take (lead 10 b) ++ [b[lead 10 b]] := by
     rw [List.take_add_one, List.getElem?_eq_getElem hlt]; rfl
    have hlen : (b.take (lead 10 b)).length = lead 10 b := by rw [List.length_take]; omega
    refine .inr (.inr ⟨b.take (lead 10 b), b[lead 10 b], b.drop (lead 10 b + 1), ?_, hf1, hf2 hlt (by omega), by omega, ?_, ?_⟩)
    ·rw [← List.drop_eq_getElem_cons hlt, List.take_append_drop]
    ·rw [znN]
     have h3 := ztb (b.take (lead 10 b))
     rw [hlen] at h3 ⊢
     simp only [hor, Nat.mul_zero, Nat.add_zero]
     exact ztw (by omega) (by omega) h9 h3
    ·rw [hsp, hlen]; simp [rdR]
theorem zsZ {v : Nat} (h : v < 128) : enc v = [UInt8.ofNat v] := by rw [enc, if_pos h]
theorem zsY {v : Nat} (h : ¬ v < 128) : enc v = UInt8.ofNat (128 + v % 128) :: enc (v / 128) := by rw [enc, if_neg h]
theorem zoC : ∀ (v : Nat), (enc v).length = lenN v := by
 intro v
 induction v using Nat.strongRecOn with
 | _ v ih =>
  by_cases h : v < 128
  ·rw [zsZ h, ziZ h]; rfl
  ·rw [zsY h, ziY h, List.length_cons, ih _ (by omega)]
theorem zsR (v : Nat) : shrI .u64 (v : Int) 7 = ((v / 128 : Nat) : Int) := zkq (k := .u64) (a := v) (b := 7) (by simp [IntKind.bits])
theorem zqO : ∀ (w n : Nat), n + w < 9223372036854775808 + w → n + lz w ≤ 1152921504606846976 → zcz w n = some ((n + lz w : Nat) : Int) := by
 intro w
 induction w using Nat.strongRecOn with
 | _ w ih =>
  intro n hn hl
  by_cases h : w = 0
  ·subst h
   refine ziI ?_
   unfold zaZ
   rw [itF (by simp)]; rfl
  ·have e := ztm h
   refine (ziH (wv2' := ((w / 128 : Nat) : Int)) (n' := ((n + 1 : Nat) : Int)) ?_).trans ?_
   ·unfold zaZ
    rw [itT (by simp; omega), zsR, zX (by omega)]; rfl
   ·rw [ih (w / 128) (by omega) (n + 1) (by omega) (by omega)]
    congr 2; omega
theorem ztj {v : Nat} (h : v < 18446744073709551616) : zfB (v : Int) = some ((lenN v : Nat) : Int) := by
 unfold zfB
 have h1 := ztl v
 have h2 := zqN h
 have h3 := zqO (v / 128) 1 (by omega) (by omega)
 have h3' : zcz ((v / 128 : Nat) : Int) 1 = some ((1 + lz (v / 128) : Nat) : Int) := h3
 rw [zsR, h3', sb, h1]
end Go.Proofs.Ytnfembipjdohcaa
namespace Go.Proofs.Ytnfembipjdohcaa
open Go
def zcx (n w : Int) : Bool := decide (1 ≤ n ∧ n ≤ 536870911 ∧ (w = 0 ∨ w = 1 ∨ w = 2 ∨ w = 5))
def tgR (r : Int × Int × Int) : Int × Int × Int × Int :=
 if r.2.2 ≠ 0 then (0, 0, 0, r.2.2) else if 4294967295 < r.1 ∨ zcx (r.1 / 8) (r.1 % 8) = false then (0, 0, 0, 5) else (r.1 / 8, r.1 % 8, r.2.1, 0)
def tg (l : List UInt8) : Int × Int × Int × Int := tgR (rd l)
theorem zol {n w : Int} : zcx n w = true ↔ 1 ≤ n ∧ n ≤ 536870911 ∧ (w = 0 ∨ w = 1 ∨ w = 2 ∨ w = 5) := by simp [zcx]
theorem zeF (l : List UInt8) : 0 ≤ (rd l).1 ∧ (rd l).1 < 18446744073709551616 ∧ 0 ≤ (rd l).2.1 ∧ (rd l).2.1 ≤ 10 ∧ (rd l).2.1 ≤ l.length ∧ ((rd l).2.2 = 0 ∨ (rd l).2.2 = 3 ∨ (rd l).2.2 = 4) ∧ ((rd l).2.2 = 0 → 1 ≤ (rd l).2.1) := by
 rcases zhy l with h | ⟨h, _⟩ | ⟨x, c, y, e, _, _, hl, hv, h⟩
 ·rw [h]; simp
 ·rw [h]; simp
 ·have : l.length = x.length + 1 + y.length := by rw [e]; simp; omega
  rw [h]
  refine ⟨?_, ?_, ?_, ?_, ?_, .inl rfl, fun _ => ?_⟩ <;> simp only <;> omega
theorem zsQ (x : List UInt8) (c : UInt8) (y : List UInt8) (hx : ∀ z ∈ x, 128 ≤ z.toNat) (hc : c.toNat < 128) (hl : x.length ≤ 9) (hv : hor (x ++ [c]) < 18446744073709551616) :
  rd (x ++ c :: y) = (((hor (x ++ [c]) : Nat) : Int), ((x.length + 1 : Nat) : Int), 0) := by
 have key : ∀ (x : List UInt8) (z : List UInt8) (i acc : Nat), (∀ z ∈ x, 128 ≤ z.toNat) → i + x.length ≤ 9 → acc + hor (x ++ [c]) * 128 ^ i < 18446744073709551616 → scan i acc (x ++ c :: z) = .inr (((acc + hor (x ++ [c]) * 128 ^ i : Nat) : Int), ((i + x.length + 1 : Nat) : Int), 0) := by
  intro x
  induction x with
  | nil =>
   intro z i acc _ hi hv
   have e1 : hor ([] ++ [c]) = c.toNat := by simp [hor]; omega
   rw [e1] at hv ⊢
   rw [List.nil_append, scan, if_neg, if_pos hc, Nat.mod_eq_of_lt hc]
   ·rfl
   ·rintro ⟨rfl, h2⟩
    have := Nat.mul_le_mul_right (128 ^ 9) (show 2 ≤ c.toNat by omega)
    omega
  | cons d x ih =>
   intro z i acc hx hi hv
   simp only [List.length_cons] at hi
   have hd := hx d List.mem_cons_self
   have e5 : acc + hor ((d :: x) ++ [c]) * 128 ^ i = acc + d.toNat % 128 * 128 ^ i + hor (x ++ [c]) * 128 ^ (i + 1) := by
    rw [List.cons_append, hor, Nat.pow_succ, Nat.add_mul, Nat.mul_comm (128 ^ i) 128, ← Nat.mul_assoc, Nat.mul_comm (hor (x ++ [c])) 128]; omega
   rw [e5] at hv ⊢
   rw [List.cons_append, scan, if_neg (by omega), if_neg (by omega), ih z (i + 1) _ (fun z hz => hx z (List.mem_cons_of_mem _ hz)) (by omega) hv, List.length_cons]
   congr 3
   omega
 unfold rd
 have e2 : (x ++ c :: y).take 10 = x ++ c :: y.take (9 - x.length) := by
  rw [List.take_append, List.take_of_length_le (by omega), show 10 - x.length = (9 - x.length) + 1 by omega, List.take_succ_cons]
 rw [e2, key x _ 0 0 hx (by omega) (by simpa using hv)]
 simp [rdR]
theorem zii (l m : List UInt8) (h : (rd l).2.2 = 0) : rd (l ++ m) = rd l := by
 rcases zhy l with h' | ⟨h', _⟩ | ⟨x, c, y, e, hx, hc, hl, hv, h'⟩
 ·rw [h'] at h; cases h
 ·rw [h'] at h; cases h
 ·rw [h', e, List.append_assoc, List.cons_append, zsQ x c _ hx hc hl hv]
theorem zpL (l m : List UInt8) (h : (rd l).2.2 = 0) : tg (l ++ m) = tg l := by unfold tg; rw [zii l m h]
theorem zpa {r : Int × Int × Int} (h : r.2.2 ≠ 0) : tgR r = (0, 0, 0, r.2.2) := if_pos h
theorem zkv {r : Int × Int × Int} (h : r.2.2 = 0) (h2 : 4294967295 < r.1 ∨ zcx (r.1 / 8) (r.1 % 8) = false) : tgR r = (0, 0, 0, 5) := by unfold tgR; rw [if_neg (by simp [h]), if_pos h2]
theorem zrw {r : Int × Int × Int} (h : r.2.2 = 0) (h2 : ¬ (4294967295 < r.1 ∨ zcx (r.1 / 8) (r.1 % 8) = false)) : tgR r = (r.1 / 8, r.1 % 8, r.2.1, 0) := by unfold tgR; rw [if_neg (by simp [h]), if_neg h2]
theorem zno (l : List UInt8) : (∃ c, tg l = (0, 0, 0, c) ∧ (c = 3 ∨ c = 4 ∨ c = 5)) ∨ ∃ n w k, tg l = (n, w, k, 0) ∧ zcx n w = true ∧ 1 ≤ k ∧ k ≤ 10 ∧ k ≤ l.length ∧ rd l = (8 * n + w, k, 0) := by
 obtain ⟨h1, h2, h3, h4, h5, h6, h7⟩ := zeF l
 unfold tg
 by_cases h : (rd l).2.2 = 0
 ·by_cases hg : 4294967295 < (rd l).1 ∨ zcx ((rd l).1 / 8) ((rd l).1 % 8) = false
  ·exact .inl ⟨5, zkv h hg, by omega⟩
  ·refine .inr ⟨_, _, _, zrw h hg, ?_, h7 h, h4, h5, ?_⟩
   ·cases ht : zcx ((rd l).1 / 8) ((rd l).1 % 8)
    ·exact absurd (.inr ht) hg
    ·rfl
   ·refine Prod.ext ?_ (Prod.ext rfl h)
    simp only; omega
 ·exact .inl ⟨_, zpa h, by omega⟩
end Go.Proofs.Ytnfembipjdohcaa
namespace Go.Proofs.Ytnfembipjdohcaa
open Go
set_option linter.unusedVariables false
abbrev Rec := zo
def zdP (w : Int) (k : Nat) (m : List UInt8) : Int ⊕ (Nat × Nat) :=
 if w = 0 then (if (rd m).2.2 ≠ 0 then .inl (rd m).2.2 else .inr (k, k + (rd m).2.1.toNat))
 else if w = 2 then (if (rd m).2.2 ≠ 0 then .inl (rd m).2.2 else if (m.length : Int) - (rd m).2.1 < (rd m).1 then .inl 3 else .inr (k + (rd m).2.1.toNat, k + (rd m).2.1.toNat + (rd m).1.toNat))
 else if m.length < (if w = 5 then 4 else 8) then .inl 3 else .inr (k, k + (if w = 5 then 4 else 8))
def rec5 (l : List UInt8) : Int ⊕ (Int × Int × Nat × Nat) :=
 if (tg l).2.2.2 ≠ 0 then .inl (tg l).2.2.2 else match zdP (tg l).2.1 (tg l).2.2.1.toNat (l.drop (tg l).2.2.1.toNat) with
  | .inl c => .inl c
  | .inr p => .inr ((tg l).1, (tg l).2.1, p.1, p.2)
theorem ziu (w : Int) (k : Nat) (m : List UInt8) : (∃ c, zdP w k m = .inl c ∧ (c = 3 ∨ c = 4)) ∨
  ∃ a t, zdP w k m = .inr (a, t) ∧ k ≤ a ∧ a ≤ t ∧ t ≤ k + m.length ∧
   (w = 0 ∧ a = k ∧ (rd m).2.2 = 0 ∧ ((t - k : Nat) : Int) = (rd m).2.1 ∧ k < t ∨ w = 2 ∧ (rd m).2.2 = 0 ∧ ((a - k : Nat) : Int) = (rd m).2.1 ∧ ((t - a : Nat) : Int) = (rd m).1 ∨ w ≠ 0 ∧ w ≠ 2 ∧ a = k ∧ t = k + (if w = 5 then 4 else 8)) := by
 obtain ⟨h1, h2, h3, h4, h5, h6, h7⟩ := zeF m
 unfold zdP
 by_cases w0 : w = 0
 ·rw [if_pos w0]
  by_cases h : (rd m).2.2 = 0
  ·have := h7 h
   rw [if_neg (by simpa using h)]
   exact .inr ⟨_, _, rfl, Nat.le_refl _, by omega, by omega, .inl ⟨w0, rfl, h, by omega, by omega⟩⟩
  ·rw [if_pos h]; exact .inl ⟨_, rfl, by omega⟩
 ·rw [if_neg w0]
  by_cases w2 : w = 2
  ·rw [if_pos w2]
   by_cases h : (rd m).2.2 = 0
   ·rw [if_neg (by simpa using h)]
    by_cases h8 : (m.length : Int) - (rd m).2.1 < (rd m).1
    ·rw [if_pos h8]; exact .inl ⟨_, rfl, by omega⟩
    ·rw [if_neg h8]
     exact .inr ⟨_, _, rfl, by omega, by omega, by omega, .inr (.inl ⟨w2, h, by omega, by omega⟩)⟩
   ·rw [if_pos h]; exact .inl ⟨_, rfl, by omega⟩
  ·rw [if_neg w2]
   by_cases h8 : m.length < (if w = 5 then 4 else 8)
   ·rw [if_pos h8]; exact .inl ⟨_, rfl, by omega⟩
   ·rw [if_neg h8]
    exact .inr ⟨_, _, rfl, Nat.le_refl _, by omega, by omega, .inr (.inr ⟨w0, w2, rfl, rfl⟩)⟩
theorem zlJ (w : Int) (k : Nat) (m z : List UInt8) {p : Nat × Nat} (h : zdP w k m = .inr p) : zdP w k (m ++ z) = .inr p := by
 unfold zdP at h ⊢
 by_cases w0 : w = 0
 ·rw [if_pos w0] at h ⊢
  by_cases h0 : (rd m).2.2 = 0
  ·rw [zii m z h0]; exact h
  ·rw [if_pos h0] at h; cases h
 ·rw [if_neg w0] at h ⊢
  by_cases w2 : w = 2
  ·rw [if_pos w2] at h ⊢
   by_cases h0 : (rd m).2.2 = 0
   ·rw [zii m z h0]
    rw [if_neg (by simpa using h0)] at h ⊢
    by_cases h8 : (m.length : Int) - (rd m).2.1 < (rd m).1
    ·rw [if_pos h8] at h; cases h
    ·rw [if_neg h8] at h
     rw [if_neg (by simp only [List.length_append]; omega)]; exact h
   ·rw [if_pos h0] at h; cases h
  ·rw [if_neg w2] at h ⊢
   by_cases h8 : m.length < (if w = 5 then 4 else 8)
   ·rw [if_pos h8] at h; cases h
   ·rw [if_neg h8] at h
    rw [if_neg (by simp only [List.length_append]; omega)]; exact h
theorem zgR (l : List UInt8) : (∃ c, rec5 l = .inl c ∧ (c = 3 ∨ c = 4 ∨ c = 5)) ∨
  ∃ (n w : Int) (k a t : Nat), rec5 l = .inr (n, w, a, t) ∧ tg l = (n, w, (k : Int), 0) ∧ zcx n w = true ∧ zdP w k (l.drop k) = .inr (a, t) ∧ 1 ≤ k ∧ k ≤ l.length ∧ k ≤ a ∧ a ≤ t ∧ t ≤ l.length ∧ rd l = (8 * n + w, (k : Int), 0) := by
 rcases zno l with ⟨c, h, hc⟩ | ⟨n, w, k, h, hr, k1, k2, k3, hrd⟩
 ·refine .inl ⟨c, ?_, hc⟩
  unfold rec5; rw [h, if_pos (by simp only; omega)]
 ·obtain ⟨k, rfl⟩ : ∃ j : Nat, k = j := ⟨k.toNat, by omega⟩
  have e : rec5 l = match zdP w k (l.drop k) with
   | .inl c => .inl c
   | .inr p => .inr (n, w, p.1, p.2) := by unfold rec5; rw [h]; simp
  rcases ziu w k (l.drop k) with ⟨c, h2, hc⟩ | ⟨a, t, h2, g1, g2, g3, _⟩
  ·exact .inl ⟨c, by rw [e, h2], by omega⟩
  ·simp only [List.length_drop] at g3
   exact .inr ⟨n, w, k, a, t, by rw [e, h2], h, hr, h2, by omega, by omega, g1, g2, by omega, hrd⟩
theorem zne (l z : List UInt8) {r : Int × Int × Nat × Nat} (h : rec5 l = .inr r) : rec5 (l ++ z) = .inr r := by
 rcases zgR l with ⟨c, h', _⟩ | ⟨n, w, k, a, t, h', htg, _, hb, _, hk, _, _, _, hrd⟩
 ·rw [h'] at h; cases h
 ·rw [h'] at h
  have e : tg (l ++ z) = (n, w, (k : Int), 0) := by rw [zpL l z (by rw [hrd]), htg]
  unfold rec5
  rw [e]
  simp only [ne_eq, not_true_eq_false, if_false, Int.toNat_natCast]
  rw [List.drop_append_of_le_length hk, zlJ _ _ _ _ hb]
  exact h
def zrec : Rec := ⟨0, 0, 0, 0, 0⟩
def zcT (b : List UInt8) (at5 : Int) : Rec × Int := if at5 < 0 ∨ at5 ≥ b.length then (zrec, 2) else match rec5 (b.drop at5.toNat) with
 | .inl c => (zrec, c)
 | .inr (n, w, a, t) => (⟨n, w, at5, at5 + a, at5 + t⟩, 0)
def spl (base : Nat) (l : List UInt8) : List Rec × Option (Nat × Int) :=
 if hl : l = [] then ([], none) else match h : rec5 l with
  | .inl c => ([], some (base, c))
  | .inr (n, w, a, t) => (⟨n, w, base, (base + a : Nat), (base + t : Nat)⟩ :: (spl (base + t) (l.drop t)).1, (spl (base + t) (l.drop t)).2)
termination_by l.length
decreasing_by
 all_goals
  rcases zgR l with ⟨c', h', _⟩ | ⟨n', w', k', a', t', h', _, _, _, g1, g2, g3, g4, g5, _⟩
  ·rw [h'] at h; cases h
  ·rw [h'] at h; cases h; simp only [List.length_drop]; omega
theorem zdl (base : Nat) : spl base [] = ([], none) := by rw [spl, dif_pos rfl]
theorem zgn {base : Nat} {l : List UInt8} {c : Int} (hl : l ≠ []) (h : rec5 l = .inl c) : spl base l = ([], some (base, c)) := by
 rw [spl, dif_neg hl]
 split
 ·rename_i c' h'; rw [h] at h'; cases h'; rfl
 ·rename_i h'; rw [h] at h'; cases h'
theorem zcp {base : Nat} {l : List UInt8} {n w : Int} {a t : Nat} (hl : l ≠ []) (h : rec5 l = .inr (n, w, a, t)) :
  spl base l = (⟨n, w, base, (base + a : Nat), (base + t : Nat)⟩ :: (spl (base + t) (l.drop t)).1, (spl (base + t) (l.drop t)).2) := by
 rw [spl, dif_neg hl]
 split
 ·rename_i c' h'; rw [h] at h'; cases h'
 ·rename_i n' w' a' t' h'; rw [h] at h'; cases h'; rfl
theorem zhF (P : Nat → List UInt8 → Prop) (h0 : ∀ base, P base []) (he : ∀ base l c, l ≠ [] → rec5 l = .inl c → (c = 3 ∨ c = 4 ∨ c = 5) → P base l)
  (hc : ∀ base l (n w : Int) (a t : Nat), l ≠ [] → rec5 l = .inr (n, w, a, t) → zcx n w = true → 1 ≤ a → a ≤ t → t ≤ l.length → P (base + t) (l.drop t) → P base l) (base : Nat) (l : List UInt8) : P base l := by
 generalize hn : l.length = m
 induction m using Nat.strongRecOn generalizing base l with
 | _ m ih =>
  by_cases hl : l = []
  ·subst hl; exact h0 base
  ·rcases zgR l with ⟨c, h, hc'⟩ | ⟨n, w, k, a, t, h, _, hr, _, g1, g2, g3, g4, g5, _⟩
   ·exact he base l c hl h hc'
   ·exact hc base l n w a t hl h hr (by omega) g4 g5 (ih _ (by simp only [List.length_drop]; omega) _ _ rfl)
def zfV (d : Nat) (r : Rec) : Rec := ⟨r.Number, r.Wire, r.From + d, r.At + d, r.To + d⟩
theorem zpI (d : Nat) (base : Nat) (l : List UInt8) : spl (base + d) l = ((spl base l).1.map (zfV d), (spl base l).2.map fun p => (p.1 + d, p.2)) := by
 refine zhF (fun base l => spl (base + d) l = ((spl base l).1.map (zfV d), (spl base l).2.map fun p => (p.1 + d, p.2))) ?_ ?_ ?_ base l
 ·intro base; rw [zdl, zdl]; rfl
 ·intro base l c hl h _; rw [zgn hl h, zgn hl h]; rfl
 ·intro base l n w a t hl h _ g1 g2 g3 ih
  rw [zcp hl h, zcp hl h, show base + d + t = base + t + d by omega, ih]
  simp only [List.map_cons, zfV, Prod.mk.injEq, List.cons.injEq, zo.mk.injEq, true_and, and_true]
  push_cast
  omega
theorem zkt (m : List UInt8) (base : Nat) (l : List UInt8) : (spl base l).2 = none → spl base (l ++ m) = ((spl base l).1 ++ (spl (base + l.length) m).1, (spl (base + l.length) m).2) := by
 refine zhF (fun base l => (spl base l).2 = none → spl base (l ++ m) = ((spl base l).1 ++ (spl (base + l.length) m).1, (spl (base + l.length) m).2)) ?_ ?_ ?_ base l
 ·intro base _; rw [zdl]; simp
 ·intro base l c hl h _ h2; rw [zgn hl h] at h2; cases h2
 ·intro base l n w a t hl h _ g1 g2 g3 ih h2
  rw [zcp hl h] at h2 ⊢
  rw [zcp (by simp [hl]) (zne l m h), List.drop_append_of_le_length g3, ih h2]
  simp only [List.length_drop, List.cons_append, show base + t + (l.length - t) = base + l.length by omega]
def zmH (w : Int) (v : List UInt8) : Bool :=
 if w = 0 then decide ((rd v).2.2 = 0 ∧ (rd v).2.1 = v.length) else decide (w = 2 ∨ w = 1 ∧ v.length = 8 ∨ w = 5 ∧ v.length = 4)
end Go.Proofs.Ytnfembipjdohcaa
namespace Go.Proofs.Ytnfembipjdohcaa
open Go
set_option linter.unusedVariables false
theorem zmY (w : Int) : zcX w = some (w % 4294967296) := by unfold zcX; rw [znw]
theorem zpH (w : Int) : zdm w = some (sgnS w) := by
 unfold zdm
 rw [zmY, sb, zpX]
 unfold sgnS
 congr 1
 split <;> split <;> omega
theorem zpV {n : Int} (h : -2147483648 ≤ n ∧ n ≤ 2147483647) : zdn n = some (zlz n) := by
 unfold zdn
 rw [zX (by omega), zge]
 unfold zlz
 congr 1
 split <;> omega
end Go.Proofs.Ytnfembipjdohcaa
namespace Go.Proofs.Ytnfembipjdohcaa
open Go
set_option linter.unusedVariables false
def zbO (k : Int) : Bool := decide (1 ≤ k ∧ k ≤ 17)
def kNum (k : Int) : Bool := decide (1 ≤ k ∧ k ≤ 14)
def zcS (k : Int) : Int := if 15 ≤ k then 2 else if 12 ≤ k then 1 else if 9 ≤ k then 5 else 0
def zcY (k w : Int) : Int :=
 if k = 1 ∨ k = 8 then zlz (sgnS w) else if k = 3 ∨ k = 5 ∨ k = 9 ∨ k = 10 ∨ k = 11 then w % 4294967296 else if k = 7 then (if 0 < w then 1 else 0) else w
theorem zmy (k : Int) {w : Int} (h : 0 ≤ w ∧ w ≤ 18446744073709551615) : 0 ≤ zcY k w ∧ zcY k w ≤ 18446744073709551615 := by
 have hs := zro w
 unfold zcY
 split
 ·exact zsB (by omega)
 ·split
  ·omega
  ·split
   ·split <;> omega
   ·exact h
end Go.Proofs.Ytnfembipjdohcaa
namespace Go.Proofs.Ytnfembipjdohcaa
open Go
set_option linter.unusedVariables false
def rawW (k : Int) (b : List UInt8) : Int := if zcS k = 0 then (rd b).1 else (word (b.take 8) : Nat)
def zoi (k : Int) (c : Nat) : List UInt8 := if 12 ≤ k then zjO 8 c else if 9 ≤ k then zjO 4 c else enc c
def sPut (k w : Int) : List UInt8 := zoi k (zcY k w).toNat
theorem zjL {k : Int} : kNum k = true ↔ 1 ≤ k ∧ k ≤ 14 := by simp [kNum]
end Go.Proofs.Ytnfembipjdohcaa
namespace Go.Proofs.Ytnfembipjdohcaa
open Go
set_option linter.unusedVariables false
def zfX (k : Int) (l : List UInt8) : Int ⊕ Nat :=
 if k < 9 then (if (rd l).2.2 ≠ 0 then .inl (rd l).2.2 else .inr (rd l).2.1.toNat) else if l.length < (if k < 12 then 4 else 8) then .inl 3 else .inr (if k < 12 then 4 else 8)
theorem zfY (k : Int) (l : List UInt8) : (∃ c, zfX k l = .inl c ∧ (c = 3 ∨ c = 4)) ∨ ∃ n, zfX k l = .inr n ∧ 1 ≤ n ∧ n ≤ l.length ∧ n ≤ 10 ∧ (k < 9 ∧ (rd l).2.2 = 0 ∧ (rd l).2.1 = (n : Int) ∨ ¬ k < 9 ∧ n = (if k < 12 then 4 else 8)) := by
 obtain ⟨h1, h2, h3, h4, h5, h6, h7⟩ := zeF l
 unfold zfX
 by_cases h : k < 9
 ·rw [if_pos h]
  by_cases h0 : (rd l).2.2 = 0
  ·have := h7 h0
   rw [if_neg (by simpa using h0)]
   exact .inr ⟨_, rfl, by omega, by omega, by omega, .inl ⟨h, h0, by omega⟩⟩
  ·rw [if_pos h0]; exact .inl ⟨_, rfl, by omega⟩
 ·rw [if_neg h]
  by_cases h8 : l.length < (if k < 12 then 4 else 8)
  ·rw [if_pos h8]; exact .inl ⟨_, rfl, by omega⟩
  ·rw [if_neg h8]
   exact .inr ⟨_, rfl, by split <;> omega, by omega, by split <;> omega, .inr ⟨h, rfl⟩⟩
def pcs (k : Int) (l : List UInt8) : List (List UInt8) × Int :=
 if hl : l = [] then ([], 0) else match h : zfX k l with
  | .inl c => ([], c)
  | .inr n => (l.take n :: (pcs k (l.drop n)).1, (pcs k (l.drop n)).2)
termination_by l.length
decreasing_by
 all_goals
  rcases zfY k l with ⟨c', h', _⟩ | ⟨n', h', g1, g2, _⟩
  ·rw [h'] at h; cases h
  ·rw [h'] at h; cases h; simp only [List.length_drop]; omega
theorem zjg (k : Int) : pcs k [] = ([], 0) := by rw [pcs, dif_pos rfl]
theorem zje {k : Int} {l : List UInt8} {c : Int} (hl : l ≠ []) (h : zfX k l = .inl c) : pcs k l = ([], c) := by
 rw [pcs, dif_neg hl]
 split
 ·rename_i c' h'; rw [h] at h'; cases h'; rfl
 ·rename_i h'; rw [h] at h'; cases h'
theorem zhw {k : Int} {l : List UInt8} {n : Nat} (hl : l ≠ []) (h : zfX k l = .inr n) : pcs k l = (l.take n :: (pcs k (l.drop n)).1, (pcs k (l.drop n)).2) := by
 rw [pcs, dif_neg hl]
 split
 ·rename_i c' h'; rw [h] at h'; cases h'
 ·rename_i n' h'; rw [h] at h'; cases h'; rfl
theorem zjf (k : Int) (P : List UInt8 → Prop) (h0 : P []) (he : ∀ l c, l ≠ [] → zfX k l = .inl c → (c = 3 ∨ c = 4) → P l)
  (hc : ∀ l n, l ≠ [] → zfX k l = .inr n → 1 ≤ n → n ≤ l.length → n ≤ 10 → P (l.drop n) → P l) (l : List UInt8) : P l := by
 generalize hn : l.length = m
 induction m using Nat.strongRecOn generalizing l with
 | _ m ih =>
  by_cases hl : l = []
  ·subst hl; exact h0
  ·rcases zfY k l with ⟨c, h, hc'⟩ | ⟨n, h, g1, g2, g3, _⟩
   ·exact he l c hl h hc'
   ·exact hc l n hl h g1 g2 g3 (ih _ (by simp only [List.length_drop]; omega) _ rfl)
theorem znd (k : Int) (l : List UInt8) : (pcs k l).2 = 0 ∨ (pcs k l).2 = 3 ∨ (pcs k l).2 = 4 := by
 refine zjf k (fun l => (pcs k l).2 = 0 ∨ (pcs k l).2 = 3 ∨ (pcs k l).2 = 4) ?_ ?_ ?_ l
 ·rw [zjg]; exact .inl rfl
 ·intro l c hl h hc; rw [zje hl h]; exact .inr hc
 ·intro l n hl h _ _ _ ih; rw [zhw hl h]; exact ih
theorem zsp (k : Int) (l : List UInt8) : (pcs k l).1.length ≤ l.length := by
 refine zjf k (fun l => (pcs k l).1.length ≤ l.length) ?_ ?_ ?_ l
 ·rw [zjg]; simp
 ·intro l c hl h _; rw [zje hl h]; simp
 ·intro l n hl h _ _ _ ih
  rw [zhw hl h]
  simp only [List.length_cons, List.length_drop] at ih ⊢
  have := List.length_pos_iff.2 hl
  omega
theorem zoo {k : Int} (hk : kNum k = true) {l : List UInt8} {n : Nat} (h : zfX k l = .inr n) : zmH (zcS k) (l.take n) = true := by
 have hk' := zjL.1 hk
 rcases zfY k l with ⟨c, h', _⟩ | ⟨n', h', g1, g2, g3, hcase⟩
 ·rw [h'] at h; cases h
 ·rw [h'] at h; cases h
  have hlen : (l.take n).length = n := by simp; omega
  unfold zmH
  rcases hcase with ⟨h9, f1, f2⟩ | ⟨h9, f1⟩
  ·have e : zcS k = 0 := by unfold zcS; rw [if_neg (by omega), if_neg (by omega), if_neg (by omega)]
   rw [if_pos e]
   rcases zhy l with h6 | ⟨h6, _⟩ | ⟨x, c, y, e, hx, hc, hl, hv, h6⟩
   ·rw [h6] at f1; cases f1
   ·rw [h6] at f1; cases f1
   ·rw [h6] at f2
    have e7 : n = (x ++ [c]).length := by simp at f2 ⊢; omega
    have e8 : l.take n = x ++ c :: [] := by rw [e7, e, List.append_cons x c y, List.take_left]
    rw [e8, zsQ x c [] hx hc hl hv]
    simp
  ·have h12 : zcS k = 1 ∧ 12 ≤ k ∨ zcS k = 5 ∧ k < 12 := by
    unfold zcS
    rw [if_neg (by omega)]
    by_cases hh : 12 ≤ k
    ·rw [if_pos hh]; exact .inl ⟨rfl, hh⟩
    ·rw [if_neg hh, if_pos (by omega)]; exact .inr ⟨rfl, by omega⟩
   rw [if_neg (by omega), hlen, f1]
   refine decide_eq_true ?_
   rcases h12 with ⟨e, hh⟩ | ⟨e, hh⟩
   ·rw [e, if_neg (by omega)]; right; left; exact ⟨rfl, rfl⟩
   ·rw [e, if_pos hh]; right; right; exact ⟨rfl, rfl⟩
theorem zrd {k : Int} (hk : kNum k = true) (l : List UInt8) : ∀ p ∈ (pcs k l).1, zmH (zcS k) p = true ∧ 1 ≤ p.length ∧ p.length ≤ 10 := by
 refine zjf k (fun l => ∀ p ∈ (pcs k l).1, zmH (zcS k) p = true ∧ 1 ≤ p.length ∧ p.length ≤ 10) ?_ ?_ ?_ l
 ·rw [zjg]; intro p hp; cases hp
 ·intro l c hl h _; rw [zje hl h]; intro p hp; cases hp
 ·intro l n hl h g1 g2 g3 ih
  rw [zhw hl h]
  intro p hp
  cases hp with
  | head => exact ⟨zoo hk h, by simp; omega, by simp; omega⟩
  | tail _ hp => exact ih p hp
def zrG (k : Int) (p : List UInt8) : Int := zcY k (rawW k p)
def ends (base : Nat) : List (List UInt8) → List Int
 | [] => []
 | p :: ps => ((base + p.length : Nat) : Int) :: ends (base + p.length) ps
def zgw (k : Int) (b : List UInt8) : List Int × Int := if kNum k = false then ([], 2) else if (pcs k b).2 = 0 then (ends 0 (pcs k b).1, 0) else ([], (pcs k b).2)
def zcm (k : Int) (b : List UInt8) : List Int × Int := if kNum k = false then ([], 2) else if (pcs k b).2 = 0 then ((pcs k b).1.map (zrG k), 0) else ([], (pcs k b).2)
end Go.Proofs.Ytnfembipjdohcaa
namespace Go.Proofs.Ytnfembipjdohcaa
open Go
set_option linter.unusedVariables false
abbrev Fld := ze
abbrev Mes := zr
def zeY {α : Type} (p : α → Bool) (l : List α) : Int := match l.findIdx? p with
 | some i => (i : Int)
 | none => -1
theorem ziv {α : Type} {p : α → Bool} {l : List α} (h : l.findIdx? p = none) : zeY p l = -1 := by unfold zeY; rw [h]
theorem ziw {α : Type} {p : α → Bool} {l : List α} {i : Nat} (h : l.findIdx? p = some i) : zeY p l = (i : Int) := by unfold zeY; rw [h]
theorem zkY {α : Type} (p : α → Bool) (l : List α) (F : Int → Option (Unit ⊕ Int)) (h0 : F (l.length : Int) = some (.inl ())) (hs : ∀ (i : Nat) (h : i < l.length), F (i : Int) = if p l[i] then some (.inr (i : Int)) else F ((i + 1 : Nat) : Int)) :
  ∀ (d i : Nat), i + d = l.length → (∀ j (h : j < l.length), j < i → p l[j] = false) → F (i : Int) = some (match l.findIdx? p with | some k => .inr (k : Int) | none => .inl ()) := by
 intro d
 induction d with
 | zero =>
  intro i hi hj
  have : i = l.length := by omega
  subst this
  have hn : l.findIdx? p = none := by
   rw [List.findIdx?_eq_none_iff]
   intro x hx
   obtain ⟨j, hj', rfl⟩ := List.getElem_of_mem hx
   exact hj j hj' hj'
  rw [h0, hn]
 | succ d ih =>
  intro i hi hj
  have hil : i < l.length := by omega
  rw [hs i hil]
  by_cases hp : p l[i] = true
  ·have hf : l.findIdx? p = some i := by
    rw [List.findIdx?_eq_some_iff_getElem]
    exact ⟨hil, hp, fun j hji => by simpa using hj j (by omega) hji⟩
   rw [if_pos hp, hf]
  ·rw [if_neg hp]
   refine ih (i + 1) (by omega) fun j h hji => ?_
   by_cases e : j = i
   ·subst e; simpa using hp
   ·exact hj j h (by omega)
def fldI (m : Mes) (number : Int) : Int := zeY (fun f : Fld => f.Number == number) m.Fields
def nmc (i : Nat) (c : UInt8) : Bool := decide (65 ≤ c.toNat ∧ c.toNat ≤ 90 ∨ 97 ≤ c.toNat ∧ c.toNat ≤ 122 ∨ c.toNat = 95 ∨ 0 < i ∧ 48 ≤ c.toNat ∧ c.toNat ≤ 57)
def nmA : Nat → List UInt8 → Bool
 | _, [] => true
 | i, c :: l => nmc i c && nmA (i + 1) l
def zck (s : List UInt8) : Bool := nmA 0 s && decide (1 ≤ s.length ∧ s.length ≤ 60)
theorem zgI {α : Type} {l t : List α} {x : α} {k : Nat} (h : l.drop k = x :: t) : ∃ hk : k < l.length, l[k] = x ∧ l.drop (k + 1) = t := by
 have hk : k < l.length := by
  rcases Nat.lt_or_ge k l.length with h' | h'
  ·exact h'
  ·rw [List.drop_eq_nil_of_le h'] at h; cases h
 rw [List.drop_eq_getElem_cons hk] at h
 injection h with h1 h2
 exact ⟨hk, h1, h2⟩
theorem zhP {α : Type} {l : List α} {k : Nat} (h : l.drop k = []) : l.length ≤ k := by have := congrArg List.length h; simp at this; omega
def zaB (n : Int) (prev : List Fld) (f : Fld) : Int :=
 if zck f.Name = false then 5 else if prev.any (fun g => g.Name == f.Name) = true then 6
 else if f.Number < 1 ∨ f.Number > 536870911 ∨ (19000 ≤ f.Number ∧ f.Number < 20000) then 7
 else if prev.any (fun g => g.Number == f.Number) = true then 8 else if zbO f.Kind = false then 9
 else if f.Packed = true ∧ ¬ (f.Repeated = true ∧ kNum f.Kind = true) then 10
 else if f.Kind = 17 ∧ (f.Of < 0 ∨ f.Of ≥ n) ∨ f.Kind ≠ 17 ∧ f.Of ≠ 0 then 11 else 0
theorem zmD (n : Int) (prev : List Fld) (f : Fld) : 0 ≤ zaB n prev f ∧ zaB n prev f ≤ 11 := by
 unfold zaB
 repeat' split
 all_goals omega
def msgF (n : Int) (prev : List Fld) : List Fld → Option (Nat × Int)
 | [] => none
 | f :: l => if 0 < zaB n prev f then some (prev.length, zaB n prev f) else msgF n (prev ++ [f]) l
def chkF (n : Int) (prev : List Mes) : List Mes → Option (Nat × Int × Int)
 | [] => none
 | m :: l => if zck m.Name = false then some (prev.length, -1, 2) else if prev.any (fun g => g.Name == m.Name) = true then some (prev.length, -1, 3)
  else if 200 < m.Fields.length then some (prev.length, -1, 4) else match msgF n [] m.Fields with
   | some (k, w) => some (prev.length, (k : Int), w)
   | none => chkF n (prev ++ [m]) l
def zdQ (s : List Mes) : Int × Int × Int := if s.length = 0 ∨ 100 < s.length then (-1, -1, 1) else match chkF s.length [] s with
 | none => (0, 0, 0)
 | some (i, k, w) => ((i : Int), k, w)
def zio (s : List Mes) : Bool := decide ((zdQ s).2.2 = 0)
def WS (s : List Mes) : Prop := s.length ≤ 140737488351232 ∧ ∀ m ∈ s, m.Name.length ≤ 140737488351232 ∧ m.Fields.length ≤ 140737488351232 ∧ ∀ f ∈ m.Fields, f.Name.length ≤ 140737488351232
theorem zic {n : Int} : ∀ (l prev : List Fld), msgF n prev l = none ↔ ∀ (k : Nat) (f : Fld), l[k]? = some f → zaB n (prev ++ l.take k) f = 0
 | [], prev => by simp [msgF]
 | f :: l, prev => by
  have hb := zmD n prev f
  rw [msgF]
  by_cases h : 0 < zaB n prev f
  ·rw [if_pos h]
   refine ⟨(fun h' => nomatch h'), fun h' => ?_⟩
   have := h' 0 f rfl
   simp at this; omega
  ·rw [if_neg h, zic l (prev ++ [f])]
   constructor
   ·intro h' k g hg
    cases k with
    | zero => simp at hg; subst hg; simp; omega
    | succ k => have := h' k g (by simpa using hg); simpa using this
   ·intro h' k g hg
    have := h' (k + 1) g (by simpa using hg)
    simpa using this
theorem zkV {n : Int} : ∀ (l prev : List Mes), chkF n prev l = none ↔ ∀ (i : Nat) (m : Mes), l[i]? = some m → zck m.Name = true ∧ (prev ++ l.take i).any (fun g => g.Name == m.Name) = false ∧ m.Fields.length ≤ 200 ∧ msgF n [] m.Fields = none
 | [], prev => by simp [chkF]
 | m :: l, prev => by
  rw [chkF]
  by_cases h1 : zck m.Name = false
  ·rw [if_pos h1]
   refine ⟨(fun h' => nomatch h'), fun h' => ?_⟩
   have := (h' 0 m rfl).1
   rw [h1] at this; cases this
  ·rw [if_neg h1]
   by_cases h2 : prev.any (fun g => g.Name == m.Name) = true
   ·rw [if_pos h2]
    refine ⟨(fun h' => nomatch h'), fun h' => ?_⟩
    have := (h' 0 m rfl).2.1
    simp only [List.take_zero, List.append_nil] at this
    rw [h2] at this; cases this
   ·rw [if_neg h2]
    by_cases h3 : 200 < m.Fields.length
    ·rw [if_pos h3]
     refine ⟨(fun h' => nomatch h'), fun h' => ?_⟩
     have := (h' 0 m rfl).2.2.1
     omega
    ·rw [if_neg h3]
     cases h4 : msgF n [] m.Fields with
     | some p =>
      refine ⟨(fun h' => nomatch h'), fun h' => ?_⟩
      have := (h' 0 m rfl).2.2.2
      rw [h4] at this; cases this
     | none =>
      simp only
      rw [zkV l (prev ++ [m])]
      constructor
      ·intro h' i g hg
       cases i with
       | zero => simp at hg; subst hg; exact ⟨by simpa using h1, by simpa using h2, by omega, h4⟩
       | succ i => have := h' i g (by simpa using hg); simpa using this
      ·intro h' i g hg
       have := h' (i + 1) g (by simpa using hg)
       simpa using this
theorem zsl : ∀ (n : Int) (l prev : List Fld) (k : Nat) (w : Int), msgF n prev l = some (k, w) → 0 < w := by
 intro n l
 induction l with
 | nil => intro prev k w h; cases h
 | cons f l ih =>
  intro prev k w h
  rw [msgF] at h
  split at h
  ·cases h; assumption
  ·exact ih _ _ _ h
theorem zoy : ∀ (n : Int) (l prev : List Mes) (i : Nat) (k w : Int), chkF n prev l = some (i, k, w) → 0 < w := by
 intro n l
 induction l with
 | nil => intro prev i k w h; cases h
 | cons m l ih =>
  intro prev i k w h
  rw [chkF] at h
  split at h
  ·cases h; omega
  ·split at h
   ·cases h; omega
   ·split at h
    ·cases h; omega
    ·split at h
     ·rename_i k' w' h'; cases h; exact zsl _ _ _ _ _ h'
     ·exact ih _ _ _ _ h
structure zsI (n : Int) (f : Fld) : Prop where
 name : zck f.Name = true
 lo : 1 ≤ f.Number
 hi : f.Number ≤ 536870911
 kind : zbO f.Kind = true
 packed : f.Packed = true → f.Repeated = true ∧ kNum f.Kind = true
 sub : f.Kind = 17 → 0 ≤ f.Of ∧ f.Of < n
 noSub : f.Kind ≠ 17 → f.Of = 0
theorem zjx {n : Int} {prev : List Fld} {f : Fld} (h : zaB n prev f = 0) : zsI n f ∧ prev.any (fun g => g.Name == f.Name) = false ∧ prev.any (fun g => g.Number == f.Number) = false := by
 unfold zaB at h
 split at h
 ·omega
 ·rename_i h1
  split at h
  ·omega
  ·rename_i h2
   split at h
   ·omega
   ·rename_i h3
    split at h
    ·omega
    ·rename_i h4
     split at h
     ·omega
     ·rename_i h5
      split at h
      ·omega
      ·rename_i h6
       split at h
       ·omega
       ·rename_i h7
        refine ⟨⟨by simpa using h1, by omega, by omega, by simpa using h5, fun hp => ?_, fun hk => by omega, fun hk => by omega⟩, by simpa using h2, by simpa using h4⟩
        by_cases hq : f.Repeated = true ∧ kNum f.Kind = true
        ·exact hq
        ·exact absurd ⟨hp, hq⟩ h6
structure zlE (s : List Mes) : Prop where
 len : 1 ≤ s.length ∧ s.length ≤ 100
 name : ∀ m ∈ s, zck m.Name = true
 names : ∀ (i j : Nat) (a b : Mes), i < j → s[i]? = some a → s[j]? = some b → a.Name ≠ b.Name
 few : ∀ m ∈ s, m.Fields.length ≤ 200
 fld : ∀ m ∈ s, ∀ f ∈ m.Fields, zsI s.length f
 nums : ∀ m ∈ s, ∀ (i j : Nat) (f g : Fld), i < j → m.Fields[i]? = some f → m.Fields[j]? = some g → f.Number ≠ g.Number ∧ f.Name ≠ g.Name
theorem zhM {α : Type} {l : List α} {p : α → Bool} (h : l.any p = false) {x : α} (hx : x ∈ l) : p x = false := by
 rw [List.any_eq_false] at h
 simpa using h x hx
theorem zpD {s : List Mes} (h : zio s = true) : zlE s := by
 have h0 : (zdQ s).2.2 = 0 := by simpa [zio] using h
 have h1 : ¬ (s.length = 0 ∨ 100 < s.length) := fun hh => by unfold zdQ at h0; rw [if_pos hh] at h0; simp at h0
 have h2 : chkF s.length [] s = none := by
  cases h4 : chkF s.length [] s with
  | none => rfl
  | some p =>
   exfalso
   obtain ⟨i, k, w⟩ := p
   have h5 : (zdQ s).2.2 = w := by unfold zdQ; rw [if_neg h1, h4]
   have := zoy _ _ _ _ _ _ h4
   omega
 have h3 := (zkV s []).1 h2
 have at' : ∀ m ∈ s, zck m.Name = true ∧ m.Fields.length ≤ 200 ∧ msgF s.length [] m.Fields = none := fun m hm => by
  obtain ⟨i, hi, rfl⟩ := List.getElem_of_mem hm
  have := h3 i _ (List.getElem?_eq_getElem hi)
  exact ⟨this.1, this.2.2.1, this.2.2.2⟩
 refine ⟨by omega, fun m hm => (at' m hm).1, fun i j a b hij ha hb => ?_, fun m hm => (at' m hm).2.1, fun m hm f hf => ?_, fun m hm i j f g hij hf hg => ?_⟩
 ·have := (h3 j b hb).2.1
  have hai : a ∈ ([] ++ s.take j : List Mes) := by
   rw [List.nil_append]
   exact List.mem_of_getElem? (i := i) (by rw [List.getElem?_take, if_pos hij]; exact ha)
  simpa using zhM this hai
 ·have h4 := (zic m.Fields []).1 (at' m hm).2.2
  obtain ⟨i, hi, rfl⟩ := List.getElem_of_mem hf
  exact (zjx (h4 i _ (List.getElem?_eq_getElem hi))).1
 ·have h4 := (zic m.Fields []).1 (at' m hm).2.2
  obtain ⟨_, k1, k2⟩ := zjx (h4 j g hg)
  have hai : f ∈ ([] ++ m.Fields.take j : List Fld) := by
   rw [List.nil_append]
   exact List.mem_of_getElem? (i := i) (by rw [List.getElem?_take, if_pos hij]; exact hf)
  exact ⟨by simpa using zhM k2 hai, by simpa using zhM k1 hai⟩
theorem zpf {s : List Mes} {i : Nat} {m : Mes} (hi : ∃ h : i < s.length, s[i] = m) (hb : m.Fields.length ≤ 140737488351232) : ∀ (d k : Nat) (n : Int), k + d = m.Fields.length → ∃ r, zaF i s n k = some r := by
 obtain ⟨hil, hm⟩ := hi
 have e1 : idx s (i : Int) = some m := by rw [zbk rfl hil, hm]
 intro d
 induction d with
 | zero =>
  intro k n hk
  refine ⟨n, zez ?_⟩
  unfold zaa
  rw [e1, sb, itF (by simp; omega)]
 | succ d ih =>
  intro k n hk
  obtain ⟨r, hr⟩ := ih (k + 1) (IntKind.i64.wrap (n + (IntKind.i64.wrap (Int.tdiv (((m.Fields[k]'(by omega)).Name.length : Int)) 100)))) (by omega)
  refine ⟨r, (zey (k' := ((k + 1 : Nat) : Int)) ?_).trans hr⟩
  unfold zaa
  rw [e1, sb, itT (by simp; omega), sb, zbk rfl (by omega), sb, zX (x := (k : Int) + 1) (by omega)]
  push_cast; rfl
theorem zta {s : List Mes} (hw : WS s) : ∃ b, zbx s = some b := by
 obtain ⟨hs, hm⟩ := hw
 have key : ∀ (d i : Nat) (n : Int), i + d = s.length → ∃ r, zaE s n i = some r := by
  intro d
  induction d with
  | zero =>
   intro i n hi
   refine ⟨n, zex ?_⟩
   unfold zZ
   rw [itF (by simp; omega)]
  | succ d ih =>
   intro i n hi
   have hil : i < s.length := by omega
   obtain ⟨q, hq⟩ := zpf (s := s) (i := i) (m := s[i]) ⟨hil, rfl⟩ (hm _ (List.getElem_mem hil)).2.1 (s[i]).Fields.length 0
    (IntKind.i64.wrap ((IntKind.i64.wrap ((IntKind.i64.wrap (n + 1)) + (IntKind.i64.wrap (Int.tdiv ((s[i]).Name.length : Int) 100)))) + ((s[i]).Fields.length : Int))) (by omega)
   have hq' : zaF i s (IntKind.i64.wrap ((IntKind.i64.wrap ((IntKind.i64.wrap (n + 1)) + (IntKind.i64.wrap (Int.tdiv ((s[i]).Name.length : Int) 100)))) + ((s[i]).Fields.length : Int))) 0 = some q := hq
   obtain ⟨r, hr⟩ := ih (i + 1) q (by omega)
   refine ⟨r, (zew (i' := ((i + 1 : Nat) : Int)) ?_).trans hr⟩
   unfold zZ
   rw [itT (by simp; omega), zbk rfl hil, sb, sb, hq', sb, zX (x := (i : Int) + 1) (by omega)]
   push_cast; rfl
 obtain ⟨r, hr⟩ := key s.length 0 0 (by omega)
 have hr' : zaE s 0 0 = some r := hr
 exact ⟨_, by unfold zbx; rw [hr', sb]⟩
def zsM (m : Mes) (p : Int) : Int := (m.Fields.getD p.toNat ⟨[], 0, 0, false, false, 0⟩).Number
def zsW (κ : Int → Int) (a b : Int) : Prop := κ a < κ b ∨ κ a = κ b ∧ a < b
end Go.Proofs.Ytnfembipjdohcaa
namespace Go.Proofs.Ytnfembipjdohcaa
open Go
set_option linter.unusedVariables false
abbrev Vw := zkE
def zvw : Vw := ⟨zrec, 0, false⟩
def zba (m : Mes) (i : Int) : Fld := m.Fields.getD i.toNat ⟨[], 0, 0, false, false, 0⟩
def vw (m : Mes) (n w : Int) : Int ⊕ (Int × Bool) :=
 if fldI m n < 0 then .inr (-1, false)
 else if (zba m (fldI m n)).Repeated = true ∧ kNum (zba m (fldI m n)).Kind = true ∧ w = 2 then .inr (fldI m n, true)
 else if zbO (zba m (fldI m n)).Kind = false ∨ zcS (zba m (fldI m n)).Kind ≠ w then .inl 6 else .inr (fldI m n, false)
theorem zjE (m : Mes) (n : Int) : fldI m n = -1 ∧ (∀ f ∈ m.Fields, f.Number ≠ n) ∨ ∃ (i : Nat) (h : i < m.Fields.length), fldI m n = i ∧ m.Fields[i].Number = n ∧ ∀ (j : Nat) (h : j < m.Fields.length), j < i → m.Fields[j].Number ≠ n := by
 unfold fldI
 cases h : m.Fields.findIdx? (fun f : Fld => f.Number == n) with
 | none =>
  left
  rw [List.findIdx?_eq_none_iff] at h
  exact ⟨ziv (List.findIdx?_eq_none_iff.2 h), fun f hf => by simpa using h f hf⟩
 | some i =>
  right
  have h' := h
  rw [List.findIdx?_eq_some_iff_getElem] at h
  obtain ⟨hi, hp, hj⟩ := h
  exact ⟨i, hi, ziw h', by simpa using hp, fun j hjl hji => by simpa using hj j hji⟩
theorem zjD {m : Mes} {i : Nat} (h : i < m.Fields.length) : zba m (i : Int) = m.Fields[i] := by
 unfold zba; rw [Int.toNat_natCast, List.getD_eq_getElem?_getD, List.getElem?_eq_getElem h]; rfl
theorem zgd (m : Mes) (n w : Int) : vw m n w = .inl 6 ∨ vw m n w = .inr (-1, false) ∧ fldI m n = -1 ∨ ∃ (i : Nat) (run : Bool), vw m n w = .inr ((i : Int), run) ∧ fldI m n = i ∧ i < m.Fields.length := by
 unfold vw
 rcases zjE m n with ⟨h, _⟩ | ⟨i, hi, h, _⟩
 ·right; left; rw [h, if_pos (by omega)]; exact ⟨rfl, rfl⟩
 ·rw [h, if_neg (by omega)]
  split
  ·right; right; exact ⟨i, true, rfl, rfl, hi⟩
  ·split
   ·left; rfl
   ·right; right; exact ⟨i, false, rfl, rfl, hi⟩
def zcL (m : Mes) (b : List UInt8) (at5 : Int) : Vw × Int :=
 if (zcT b at5).2 ≠ 0 then (zvw, (zcT b at5).2) else match vw m (zcT b at5).1.Number (zcT b at5).1.Wire with
  | .inl c => (zvw, c)
  | .inr (i, run) => (⟨(zcT b at5).1, i, run⟩, 0)
end Go.Proofs.Ytnfembipjdohcaa
namespace Go.Proofs.Ytnfembipjdohcaa
open Go
set_option linter.unusedVariables false
def zT (s : List Mes) (i : Int) : Mes := s.getD i.toNat ⟨[], []⟩
theorem zhs {s : List Mes} {i : Nat} (h : i < s.length) : zT s (i : Int) = s[i] := by
 unfold zT; rw [Int.toNat_natCast, List.getD_eq_getElem?_getD, List.getElem?_eq_getElem h]; rfl
def valB (b : List UInt8) (r : Rec) : List UInt8 := (b.drop r.At.toNat).take (r.To.toNat - r.At.toNat)
abbrev zdO := Option (Int → List UInt8 → Option (Int × Int))
def zfc (f : Fld) (run : Bool) (sub : zdO) (r : Rec) (v : List UInt8) : Option (Int × Int) :=
 if run = true then (if (zgw f.Kind v).2 ≠ 0 then some (r.From, (zgw f.Kind v).2) else none)
 else if f.Kind = 15 ∧ zdY v = false then some (r.From, 7)
 else if f.Kind = 17 then (match sub with
  | none => some (r.From, 8)
  | some g => match g f.Of v with
   | some (p, c) => some (r.At + p, c)
   | none => none)
 else none
def zaM (m : Mes) (sub : zdO) (b : List UInt8) (r : Rec) : Option (Int × Int) := match vw m r.Number r.Wire with
 | .inl c => some (r.From, c)
 | .inr (i, run) => if i < 0 then none else zfc (zba m i) run sub r (valB b r)
def zap (m : Mes) (sub : zdO) (b : List UInt8) (x : List Rec × Option (Nat × Int)) : Option (Int × Int) := match x.1.findSome? (zaM m sub b) with
 | some p => some p
 | none => x.2.map fun p => ((p.1 : Int), p.2)
def zR (s : List Mes) : Nat → Int → List UInt8 → Option (Int × Int)
 | 0, k, b => zap (zT s k) none b (spl 0 b)
 | d + 1, k, b => zap (zT s k) (some (zR s d)) b (spl 0 b)
def zjl (g : Int → List UInt8 → Option (Int × Int)) : Prop := ∀ k v p c, g k v = some (p, c) → 3 ≤ c ∧ c ≤ 8 ∧ 0 ≤ p ∧ p < v.length
theorem zpe (k : Int) {b : List UInt8} : (zgw k b).2 = 0 ∨ (zgw k b).2 = 2 ∧ kNum k = false ∨ (zgw k b).2 = 3 ∨ (zgw k b).2 = 4 := by
 unfold zgw
 have := znd k b
 split
 ·rename_i h; exact .inr (.inl ⟨rfl, h⟩)
 ·split
  ·exact .inl rfl
  ·rename_i h; simp only; omega
theorem zrE {m : Mes} {n w : Int} {i : Int} (h : vw m n w = .inr (i, true)) : kNum (zba m i).Kind = true ∧ (zba m i).Repeated = true ∧ w = 2 := by
 unfold vw at h
 split at h
 ·cases h
 ·split at h
  ·rename_i h1; cases h; exact ⟨h1.2.1, h1.1, h1.2.2⟩
  ·split at h <;> cases h
theorem zrA {b : List UInt8} {r : Rec} {base a t : Nat} (hr : r.At = ((base + a : Nat) : Int)) (ht : r.To = ((base + t : Nat) : Int)) (h : base + t ≤ b.length) (hat : a ≤ t) : (valB b r).length = t - a := by
 unfold valB; rw [hr, ht]; simp; omega
theorem zlv {m : Mes} {sub : zdO} {b : List UInt8} (hg : ∀ g, sub = some g → zjl g) {n w : Int} {base a t : Nat} (h1 : 1 ≤ a) (hat : a ≤ t) (ht : base + t ≤ b.length) {p c : Int}
  (h : zaM m sub b ⟨n, w, base, (base + a : Nat), (base + t : Nat)⟩ = some (p, c)) : 3 ≤ c ∧ c ≤ 8 ∧ 0 ≤ p ∧ p < b.length := by
 unfold zaM at h
 rcases zgd m n w with hv | ⟨hv, _⟩ | ⟨i, run, hv, _, hi⟩
 ·simp only [hv] at h; cases h; (try dsimp only); omega
 ·simp only [hv] at h; rw [if_pos (by omega)] at h; cases h
 ·simp only [hv] at h
  rw [if_neg (by omega)] at h
  unfold zfc at h
  split at h
  ·rename_i hr
   subst hr
   have hk := zrE hv
   split at h
   ·cases h
    have := zpe (zba m i).Kind (b := valB b ⟨n, w, base, (base + a : Nat), (base + t : Nat)⟩)
    rw [hk.1] at this
    simp only [Bool.true_eq_false, and_false, false_or] at this
    (try dsimp only)
    omega
   ·cases h
  ·split at h
   ·cases h; (try dsimp only); omega
   ·split at h
    ·cases sub with
     | none => simp only at h; cases h; (try dsimp only); omega
     | some g =>
      simp only at h
      have hl := zrA (b := b) (r := ⟨n, w, base, (base + a : Nat), (base + t : Nat)⟩) rfl rfl ht hat
      cases hgv : g (zba m i).Of (valB b ⟨n, w, base, (base + a : Nat), (base + t : Nat)⟩) with
      | none => rw [hgv] at h; cases h
      | some q =>
       obtain ⟨q1, q2⟩ := q
       rw [hgv] at h
       have := hg g rfl _ _ _ _ hgv
       cases h
       (try dsimp only)
       omega
    ·cases h
theorem zlc {m : Mes} {sub : zdO} {b : List UInt8} (hg : ∀ g, sub = some g → zjl g) (base : Nat) (l : List UInt8) : l = b.drop base → base ≤ b.length → ∀ p c, zap m sub b (spl base l) = some (p, c) → 3 ≤ c ∧ c ≤ 8 ∧ 0 ≤ p ∧ p < b.length := by
 refine zhF (fun base l => l = b.drop base → base ≤ b.length → ∀ p c, zap m sub b (spl base l) = some (p, c) → 3 ≤ c ∧ c ≤ 8 ∧ 0 ≤ p ∧ p < b.length) ?_ ?_ ?_ base l
 ·intro base _ _ p c h
  unfold zap at h; rw [zdl] at h; cases h
 ·intro base l c' hl h hc hld hb p c h2
  have hlt : base < b.length := by subst hld; have := List.length_pos_iff.2 hl; simp at this; omega
  unfold zap at h2; rw [zgn hl h] at h2
  simp only [List.findSome?_nil, Option.map_some] at h2
  cases h2; omega
 ·intro base l n w a t hl h _ g1 g2 g3 ih hld hb p c h2
  have hbl : base + t ≤ b.length := by subst hld; simp at g3; omega
  unfold zap at h2 ih
  rw [zcp hl h] at h2
  simp only [List.findSome?_cons] at h2
  cases hs : zaM m sub b ⟨n, w, base, (base + a : Nat), (base + t : Nat)⟩ with
  | some q => rw [hs] at h2; cases h2; exact zlv hg g1 g2 hbl hs
  | none =>
   rw [hs] at h2
   exact ih (by rw [hld, List.drop_drop]) hbl p c h2
theorem zeZ (s : List Mes) : ∀ (d : Nat), zjl (zR s d)
 | 0 => fun k v p c h => zlc (fun g hg => by cases hg) 0 v rfl (Nat.zero_le _) p c h
 | d + 1 => fun k v p c h => zlc (fun g hg => by cases hg; exact zeZ s d) 0 v rfl (Nat.zero_le _) p c h
def argS (s : List Mes) (root d : Int) : Int := if zio s = false then 9 else if root < 0 ∨ root ≥ s.length ∨ d < 0 ∨ d > 64 then 2 else 0
def zcJ (s : List Mes) (root : Int) (b : List UInt8) (d : Int) : Int × Int := if argS s root d ≠ 0 then (0, argS s root d) else (zR s d.toNat root b).getD (0, 0)
theorem zhN {s : List Mes} {root d : Int} (h : argS s root d = 0) : zlE s ∧ 0 ≤ root ∧ root < s.length ∧ 0 ≤ d ∧ d ≤ 64 := by
 unfold argS at h
 split at h
 ·omega
 ·rename_i h1
  split at h
  ·omega
  ·rename_i h2
   exact ⟨zpD (by simpa using h1), by omega⟩
def is11 (s : List Mes) (root : Int) (b : List UInt8) (d : Int) : Bool := (zcJ s root b d).2 == 0
def zax (s : List Mes) (root : Int) (b : List UInt8) : Nat := ((List.range 64).find? fun d => is11 s root b (d : Nat)).getD 64
def zsT (a b : zdO) : Prop := ∀ g, a = some g → ∃ g', b = some g' ∧ ∀ k v, g k v = none → g' k v = none
theorem zpJ {m : Mes} {a c : zdO} (h : zsT a c) {b : List UInt8} {r : Rec} (hn : zaM m a b r = none) : zaM m c b r = none := by
 unfold zaM at hn ⊢
 cases hv : vw m r.Number r.Wire with
 | inl x => rw [hv] at hn; cases hn
 | inr p =>
  obtain ⟨i, run⟩ := p
  rw [hv] at hn
  simp only at hn ⊢
  by_cases hi : i < 0
  ·rw [if_pos hi]
  ·rw [if_neg hi] at hn ⊢
   unfold zfc at hn ⊢
   by_cases hr : run = true
   ·rw [if_pos hr] at hn ⊢; exact hn
   ·rw [if_neg hr] at hn ⊢
    by_cases h15 : (zba m i).Kind = 15 ∧ zdY (valB b r) = false
    ·rw [if_pos h15] at hn; cases hn
    ·rw [if_neg h15] at hn ⊢
     by_cases h17 : (zba m i).Kind = 17
     ·rw [if_pos h17] at hn ⊢
      cases a with
      | none => cases hn
      | some g =>
       obtain ⟨g', rfl, hg⟩ := h g rfl
       simp only at hn ⊢
       cases hgv : g (zba m i).Of (valB b r) with
       | some q => rw [hgv] at hn; cases hn
       | none => rw [hg _ _ hgv]
     ·rw [if_neg h17]
theorem zbl {m : Mes} {sub : zdO} {b : List UInt8} {x : List Rec × Option (Nat × Int)} : zap m sub b x = none ↔ (∀ r ∈ x.1, zaM m sub b r = none) ∧ x.2 = none := by
 unfold zap
 cases h : x.1.findSome? (zaM m sub b) with
 | some p =>
  refine ⟨(fun h' => nomatch h'), fun ⟨h1, _⟩ => ?_⟩
  obtain ⟨r, hr, hs⟩ := List.exists_of_findSome?_eq_some h
  rw [h1 r hr] at hs; cases hs
 | none =>
  rw [List.findSome?_eq_none_iff] at h
  cases hx : x.2 with
  | none => exact ⟨fun _ => ⟨h, rfl⟩, fun _ => rfl⟩
  | some p => exact ⟨(fun h' => nomatch h'), fun ⟨_, h2⟩ => nomatch h2⟩
theorem zle {m : Mes} {a c : zdO} (h : zsT a c) {b : List UInt8} {x : List Rec × Option (Nat × Int)} (hn : zap m a b x = none) : zap m c b x = none := by
 rw [zbl] at hn ⊢
 exact ⟨fun r hr => zpJ h (hn.1 r hr), hn.2⟩
theorem zjB (s : List Mes) : ∀ (d : Nat) (k : Int) (b : List UInt8), zR s d k b = none → zR s (d + 1) k b = none
 | 0, k, b, h => zle (a := none) (fun g hg => nomatch hg) h
 | d + 1, k, b, h => zle (a := some (zR s d)) (fun g hg => by cases hg; exact ⟨_, rfl, fun k v hv => zjB s d k v hv⟩) h
theorem zmG (s : List Mes) {d e : Nat} (hde : d ≤ e) (k : Int) (b : List UInt8) (h : zR s d k b = none) : zR s e k b = none := by
 induction hde with
 | refl => exact h
 | step _ ih => exact zjB s _ k b ih
theorem ziF {b : List UInt8} (z : List UInt8) {r : Rec} (h0 : 0 ≤ r.To) (h : r.To ≤ b.length) : valB (b ++ z) r = valB b r := by
 unfold valB
 by_cases ha : r.At.toNat ≤ b.length
 ·rw [List.drop_append_of_le_length ha, List.take_append_of_le_length (by simp; omega)]
 ·have e : r.To.toNat - r.At.toNat = 0 := by omega
  rw [e, List.take_zero, List.take_zero]
theorem zkw (a b : List UInt8) {r : Rec} (h0 : 0 ≤ r.At) (h1 : r.At ≤ r.To) : valB (a ++ b) (zfV a.length r) = valB b r := by
 unfold valB zfV
 simp only
 have e1 : (r.At + (a.length : Int)).toNat = a.length + r.At.toNat := by omega
 have e2 : (r.To + (a.length : Int)).toNat - (a.length + r.At.toNat) = r.To.toNat - r.At.toNat := by omega
 rw [e1, e2, ← List.drop_drop, List.drop_left]
theorem zhH {m : Mes} {sub : zdO} {b b' : List UInt8} {r r' : Rec} (hn : r'.Number = r.Number) (hw : r'.Wire = r.Wire) (hv : valB b' r' = valB b r) : zaM m sub b' r' = none ↔ zaM m sub b r = none := by
 unfold zaM
 rw [hn, hw, hv]
 cases vw m r.Number r.Wire with
 | inl c => simp
 | inr p =>
  simp only
  by_cases hi : p.1 < 0
  ·simp [hi]
  ·rw [if_neg hi, if_neg hi]
   unfold zfc
   by_cases hr : p.2 = true
   ·rw [if_pos hr, if_pos hr]
    by_cases he : (zgw (zba m p.1).Kind (valB b r)).2 ≠ 0
    ·rw [if_pos he, if_pos he]; simp
    ·rw [if_neg he, if_neg he]
   ·rw [if_neg hr, if_neg hr]
    by_cases h15 : (zba m p.1).Kind = 15 ∧ zdY (valB b r) = false
    ·rw [if_pos h15, if_pos h15]; simp
    ·rw [if_neg h15, if_neg h15]
     by_cases h17 : (zba m p.1).Kind = 17
     ·rw [if_pos h17, if_pos h17]
      cases sub with
      | none => simp
      | some g => simp only; cases g (zba m p.1).Of (valB b r) <;> simp
     ·rw [if_neg h17, if_neg h17]
theorem zmk (base : Nat) (l : List UInt8) : ∀ r ∈ (spl base l).1, (base : Int) ≤ r.From ∧ r.From < r.At ∧ r.At ≤ r.To ∧ r.To ≤ base + l.length := by
 refine zhF (fun base l => ∀ r ∈ (spl base l).1, (base : Int) ≤ r.From ∧ r.From < r.At ∧ r.At ≤ r.To ∧ r.To ≤ base + l.length) ?_ ?_ ?_ base l
 ·intro base r hr; rw [zdl] at hr; cases hr
 ·intro base l c hl h _ r hr; rw [zgn hl h] at hr; cases hr
 ·intro base l n w a t hl h _ g1 g2 g3 ih r hr
  rw [zcp hl h] at hr
  rcases List.mem_cons.1 hr with rfl | hr
  ·simp only; omega
  ·have := ih r hr
   simp only [List.length_drop] at this
   omega
theorem ziy {m : Mes} {sub : zdO} {a : List UInt8} (z : List UInt8) (h : zap m sub a (spl 0 a) = none) : zap m sub (a ++ z) (spl 0 (a ++ z)) = none ↔ zap m sub z (spl 0 z) = none := by
 rw [zbl] at h
 have hap := zkt z 0 a h.2
 have hsh := zpI a.length 0 z
 rw [Nat.zero_add] at hap hsh
 rw [hsh] at hap
 rw [zbl, zbl, hap]
 simp only [List.mem_append, List.mem_map]
 constructor
 ·rintro ⟨h1, h2⟩
  refine ⟨fun r hr => ?_, by cases hz : (spl 0 z).2 with | none => rfl | some p => rw [hz] at h2; cases h2⟩
  have hb := zmk 0 z r hr
  have := h1 (zfV a.length r) (.inr ⟨r, hr, rfl⟩)
  exact (zhH (r := r) (r' := zfV a.length r) rfl rfl (zkw a z (by omega) (by omega))).1 this
 ·rintro ⟨h1, h2⟩
  refine ⟨fun r hr => ?_, by rw [h2]; rfl⟩
  rcases hr with hr | ⟨r, hr, rfl⟩
  ·have hb := zmk 0 a r hr
   exact (zhH (r := r) (r' := r) rfl rfl (ziF z (by omega) (by omega))).2 (h.1 r hr)
  ·have hb := zmk 0 z r hr
   exact (zhH (r := r) (r' := zfV a.length r) rfl rfl (zkw a z (by omega) (by omega))).2 (h1 r hr)
theorem zlQ (s : List Mes) (d : Nat) (k : Int) {a : List UInt8} (z : List UInt8) (h : zR s d k a = none) : zR s d k (a ++ z) = none ↔ zR s d k z = none := by
 cases d with
 | zero => exact ziy z h
 | succ d => exact ziy z h
theorem zaS {s : List Mes} {root : Int} {b : List UInt8} {d : Int} : is11 s root b d = true ↔ argS s root d = 0 ∧ zR s d.toNat root b = none := by
 unfold is11 zcJ
 by_cases h : argS s root d = 0
 ·rw [if_neg (by simpa using h)]
  cases hf : zR s d.toNat root b with
  | none => simp [h]
  | some p =>
   obtain ⟨p, c⟩ := p
   have := zeZ s d.toNat root b p c hf
   simp only [Option.getD_some, h, true_and]
   simp; omega
 ·rw [if_pos h]
  simp [h]
theorem zgG {s : List Mes} {root d e : Int} (h : argS s root d = 0) (he : 0 ≤ e ∧ e ≤ 64) : argS s root e = 0 := by
 unfold argS at h ⊢
 split at h
 ·omega
 ·rename_i h1
  rw [if_neg h1]
  split at h
  ·omega
  ·rw [if_neg (by omega)]
theorem zcZ {s : List Mes} {root : Int} {b : List UInt8} : zax s root b ≤ 64 := by
 unfold zax
 cases h : (List.range 64).find? fun d => is11 s root b (d : Nat) with
 | none => simp
 | some d => have := List.mem_of_find?_eq_some h; simp at this ⊢; omega
theorem zbT {s : List Mes} {root : Int} {b : List UInt8} (h : is11 s root b 64 = true) {d : Nat} (hd : d ≤ 64) : is11 s root b (d : Nat) = true ↔ zax s root b ≤ d := by
 obtain ⟨ha, hf⟩ := zaS.1 h
 have iff : ∀ e : Nat, e ≤ 64 → (is11 s root b (e : Nat) = true ↔ zR s e root b = none) := fun e he => by
  rw [zaS, Int.toNat_natCast]
  exact ⟨fun h => h.2, fun h => ⟨zgG ha (by omega), h⟩⟩
 unfold zax
 cases hx : (List.range 64).find? fun d => is11 s root b (d : Nat) with
 | none =>
  simp only [Option.getD_none]
  rw [List.find?_eq_none] at hx
  constructor
  ·intro hi
   rcases Nat.lt_or_ge d 64 with h' | h'
   ·have := hx d (by simpa using h'); rw [hi] at this; exact absurd rfl this
   ·exact h'
  ·intro h'
   have : d = 64 := by omega
   subst this; exact h
 | some e =>
  simp only [Option.getD_some]
  rw [List.find?_range_eq_some] at hx
  obtain ⟨h1, h2, h3⟩ := hx
  have he : e < 64 := by simpa using h2
  constructor
  ·intro hi
   rcases Nat.lt_or_ge d e with h' | h'
   ·have := h3 d h'; rw [hi] at this; cases this
   ·exact h'
  ·intro h'
   rw [iff d hd]
   exact zmG s h' root b ((iff e (by omega)).1 h1)
end Go.Proofs.Ytnfembipjdohcaa
namespace Go.Proofs.Ytnfembipjdohcaa
open Go
set_option linter.unusedVariables false
def zoA (s : List Mes) (root : Int) (b : List UInt8) : Int × Int := if (zcJ s root b 64).2 ≠ 0 then (0, (zcJ s root b 64).2) else ((zax s root b : Nat), 0)
theorem zju {s : List Mes} {root : Int} {b : List UInt8} (h : is11 s root b 64 = true) : zoA s root b = (((zax s root b : Nat) : Int), 0) := by
 have : (zcJ s root b 64).2 = 0 := by unfold is11 at h; simpa using h
 unfold zoA; rw [if_neg (by simpa using this)]
theorem zld {m : Mes} {sub : zdO} {a z : List UInt8} (ha : (spl 0 a).2 = none) (h : zap m sub (a ++ z) (spl 0 (a ++ z)) = none) : zap m sub a (spl 0 a) = none := by
 rw [zbl] at h ⊢
 have hap := zkt z 0 a ha
 rw [hap] at h
 refine ⟨fun r hr => ?_, ha⟩
 have hb := zmk 0 a r hr
 exact (zhH (r := r) (r' := r) rfl rfl (ziF z (by omega) (by omega))).1 (h.1 r (List.mem_append_left _ hr))
theorem zjA (s : List Mes) (d : Nat) (k : Int) {a z : List UInt8} (ha : (spl 0 a).2 = none) (h : zR s d k (a ++ z) = none) : zR s d k a = none := by
 cases d with
 | zero => exact zld ha h
 | succ d => exact zld ha h
theorem zpg (s : List Mes) (d : Nat) (k : Int) {a : List UInt8} (h : zR s d k a = none) : (spl 0 a).2 = none := by
 cases d with
 | zero => exact (zbl.1 h).2
 | succ d => exact (zbl.1 h).2
theorem zek {s : List Mes} {root d : Int} {a : List UInt8} (b : List UInt8) (h : is11 s root a d = true) : is11 s root (a ++ b) d = is11 s root b d := by
 obtain ⟨h1, h2⟩ := zaS.1 h
 rw [Bool.eq_iff_iff, zaS, zaS, zlQ s _ _ b h2]
theorem zpm {s : List Mes} {root d e : Int} {a b : List UInt8} (h : is11 s root a e = true) (hb : is11 s root (a ++ b) d = true) : is11 s root a d = true := by
 obtain ⟨h1, h2⟩ := zaS.1 h
 obtain ⟨k1, k2⟩ := zaS.1 hb
 exact zaS.2 ⟨k1, zjA s _ _ (zpg s _ _ h2) k2⟩
theorem zhU {s : List Mes} {root d e : Int} {a : List UInt8} (h : is11 s root a d = true) (he : d ≤ e) (h64 : e ≤ 64) : is11 s root a e = true := by
 obtain ⟨h1, h2⟩ := zaS.1 h
 have := zhN h1
 exact zaS.2 ⟨zgG h1 (by omega), zmG s (by omega) _ _ h2⟩
theorem zlL {s : List Mes} {root : Int} {a b : List UInt8} (ha : is11 s root a 64 = true) (hb : is11 s root b 64 = true) : is11 s root (a ++ b) 64 = true ∧ zax s root (a ++ b) = max (zax s root a) (zax s root b) := by
 have hab : is11 s root (a ++ b) 64 = true := by rw [zek b ha]; exact hb
 refine ⟨hab, ?_⟩
 have key : ∀ d : Nat, d ≤ 64 → (zax s root (a ++ b) ≤ d ↔ zax s root a ≤ d ∧ zax s root b ≤ d) := fun d hd => by
  rw [← zbT hab hd, ← zbT ha hd, ← zbT hb hd]
  constructor
  ·intro h
   have hl := zpm ha h
   rw [zek b hl] at h
   exact ⟨hl, h⟩
  ·rintro ⟨h1, h2⟩
   rw [zek b h1]; exact h2
 have l1 := zcZ (s := s) (root := root) (b := a)
 have l2 := zcZ (s := s) (root := root) (b := b)
 have l3 := zcZ (s := s) (root := root) (b := a ++ b)
 have k1 := (key _ l3).1 (Nat.le_refl _)
 have k2 := (key (max (zax s root a) (zax s root b)) (by omega)).2 (by omega)
 omega
end Go.Proofs.Ytnfembipjdohcaa
namespace Go.Proofs.Ytnfembipjdohcaa
open Go
theorem zsn : ∀ a < 256, zhI ((a : Nat) : Int) = some (if a < 128 then (1, (a : Int)) else if a / 32 = 6 then (2, ((a % 32 : Nat) : Int)) else if a / 16 = 14 then (3, ((a % 16 : Nat) : Int)) else if a / 8 = 30 then (4, ((a % 8 : Nat) : Int)) else (0, 0)) := by decide +kernel
theorem zmj (w k : Nat) (h : k ≤ 32) : shrI .u32 (w : Int) (k : Int) = ((w / 2 ^ k : Nat) : Int) := zkq (k := .u32) (a := w) (b := k) (by simpa [IntKind.bits] using h)
theorem zja (w : Nat) : zeT (w : Int) = some (if w < 128 then 1 else if w < 2048 then 2 else if 55296 ≤ w ∧ w ≤ 57343 then 0 else if w < 65536 then 3 else if w ≤ 1114111 then 4 else 0) := by
 unfold zeT
 have e7 : shrI .u32 (w : Int) 7 = ((w / 128 : Nat) : Int) := zmj w 7 (by omega)
 have e11 : shrI .u32 (w : Int) 11 = ((w / 2048 : Nat) : Int) := zmj w 11 (by omega)
 have e16 : shrI .u32 (w : Int) 16 = ((w / 65536 : Nat) : Int) := zmj w 16 (by omega)
 rw [e7, e11, e16]
 by_cases h1 : w < 128
 ·rw [itT (by simp; omega), if_pos h1]
 ·rw [itF (by simp; omega), if_neg h1]
  by_cases h2 : w < 2048
  ·rw [itT (by simp; omega), if_pos h2]
  ·rw [itF (by simp; omega), if_neg h2]
   by_cases h3 : 55296 ≤ w ∧ w ≤ 57343
   ·rw [itT (by simp; omega), if_pos h3]
   ·rw [itF (by simp; omega), if_neg h3]
    by_cases h4 : w < 65536
    ·rw [itT (by simp; omega), if_pos h4]
    ·rw [itF (by simp; omega), if_neg h4]
     by_cases h5 : w ≤ 1114111
     ·rw [itT (by simp; omega), if_pos h5]
     ·rw [itF (by simp; omega), if_neg h5]
theorem zps : ∀ c < 256, shrI .u8 ((c : Nat) : Int) 6 = ((c / 64 : Nat) : Int) ∧ IntKind.u32.wrap (andI .u8 ((c : Nat) : Int) 63) = ((c % 64 : Nat) : Int) := by decide +kernel
theorem zdL {v : List UInt8} {w i : Nat} (h : i < v.length) (hv : v.length ≤ 1000) (hw : w ≤ 1000000) :
  zat v w i = if cont v[i] then zat v ((64 * w + v[i].toNat % 64 : Nat) : Int) ((i + 1 : Nat) : Int) else some (.inr ()) := by
 have hc := v[i].toNat_lt
 obtain ⟨e1, e2⟩ := zps v[i].toNat (by omega)
 have hb : zaV v w i = if cont v[i] then some (.inl (((64 * w + v[i].toNat % 64 : Nat) : Int), ((i + 1 : Nat) : Int))) else some (.inr (.inr ())) := by
  unfold zaV
  rw [itT (by simp; omega), zbk rfl h, sb, e1, e2]
  by_cases hk : cont v[i] = true
  ·rw [if_pos hk]
   unfold cont at hk
   simp only [decide_eq_true_eq] at hk
   rw [itF (by simp; omega), zX (by omega)]
   have e3 : shlI .u32 (w : Int) 6 = ((w * 64 : Nat) : Int) := by
    have : shlI .u32 (w : Int) 6 = ((w * 64 % 4294967296 : Nat) : Int) := by simp [shlI, IntKind.bits, znw]
    rw [this, Nat.mod_eq_of_lt (by omega)]
   rw [e3, zoW rfl (by simp [IntKind.bits]; omega) (by simp [IntKind.bits]; omega), Nat.or_comm, znb _ w 6 (by omega)]
   have e4 : v[i].toNat % 64 + w * 2 ^ 6 = 64 * w + v[i].toNat % 64 := by omega
   rw [e4]; rfl
  ·rw [if_neg hk]
   unfold cont at hk
   simp only [decide_eq_true_eq] at hk
   rw [itT (by simp; omega)]
 by_cases hk : cont v[i] = true
 ·rw [if_pos hk] at hb ⊢; exact ziO hb
 ·rw [if_neg hk] at hb ⊢; exact zft hb
theorem zhp {v : List UInt8} {w i : Nat} (h : v.length ≤ i) : zat v w i = some (.inl (w : Int)) := by
 refine zft ?_
 unfold zaV
 rw [itF (by simp; omega)]
theorem ztG {w : Nat} {b : UInt8} (hw : w ≤ 100) : zat [b] w 0 = if cont b then some (.inl ((64 * w + b.toNat % 64 : Nat) : Int)) else some (.inr ()) := by
 have h := zdL (v := [b]) (w := w) (i := 0) (by simp) (by simp) (by omega)
 refine Eq.trans h ?_
 simp only [List.getElem_cons_zero]
 rw [zhp (by simp)]
theorem ztH {w : Nat} {b c : UInt8} (hw : w ≤ 100) : zat [b, c] w 0 = if cont b then (if cont c then some (.inl ((64 * (64 * w + b.toNat % 64) + c.toNat % 64 : Nat) : Int)) else some (.inr ())) else some (.inr ()) := by
 have h := zdL (v := [b, c]) (w := w) (i := 0) (by simp) (by simp) (by omega)
 refine Eq.trans h ?_
 rw [zdL (i := 0 + 1) (by simp) (by simp) (by omega)]
 simp only [List.getElem_cons_zero, List.getElem_cons_succ, Nat.zero_add]
 rw [zhp (by simp)]
theorem ztI {w : Nat} {b c d : UInt8} (hw : w ≤ 100) : zat [b, c, d] w 0 = if cont b then (if cont c then (if cont d then some (.inl ((64 * (64 * (64 * w + b.toNat % 64) + c.toNat % 64) + d.toNat % 64 : Nat) : Int)) else some (.inr ())) else some (.inr ())) else some (.inr ()) := by
 have h := zdL (v := [b, c, d]) (w := w) (i := 0) (by simp) (by simp) (by omega)
 refine Eq.trans h ?_
 rw [zdL (i := 0 + 1) (by simp) (by simp) (by omega), zdL (i := 0 + 1 + 1) (by simp) (by simp) (by omega)]
 simp only [List.getElem_cons_zero, List.getElem_cons_succ, Nat.zero_add]
 rw [zhp (by simp)]
theorem zrb (n : Nat) {l : List UInt8} (h : ∀ m, m ≠ n → isN m l = false) : nxt l = if isN n l then n else 0 := by
 by_cases hn : isN n l = true
 ·rw [if_pos hn, ztp hn]
 ·rw [if_neg hn]
  by_cases h0 : nxt l = 0
  ·exact h0
  ·have h1 := zjc h0
   by_cases h2 : nxt l = n
   ·rw [h2] at h1; exact absurd h1 hn
   ·rw [h _ h2] at h1; cases h1
theorem zeE (n : Nat) {a : UInt8} {t : List UInt8} (h : n = 1 ∧ a.toNat < 128 ∨ n = 2 ∧ 192 ≤ a.toNat ∧ a.toNat < 224 ∨ n = 3 ∧ 224 ≤ a.toNat ∧ a.toNat < 240 ∨ n = 4 ∧ 240 ≤ a.toNat) : nxt (a :: t) = if isN n (a :: t) then n else 0 := by
 refine zrb n fun m hm => ?_
 cases hh : isN m (a :: t) with
 | false => rfl
 | true =>
  obtain ⟨a', t', e, _, g⟩ := zdS hh
  cases e
  omega
theorem zoN (b : List UInt8) : zeS b = some ((nxt b : Nat) : Int) := by
 cases b with
 | nil => rfl
 | cons a t =>
  have ha := a.toNat_lt
  unfold zeS
  have e00 : idx (a :: t) (0 : Int) = some a := zbk (n := 0) rfl (by simp)
  rw [itF (by simp; omega), e00, sb]
  rw [zsn _ (by omega), sb]
  by_cases h1 : a.toNat < 128
  ·rw [zeE 1 (.inl ⟨rfl, h1⟩), if_pos h1]
   simp only
   rw [itF (by simp; omega), zep (i := 1) (j := 1) (a := 1) (b := 1) rfl rfl (by omega) (by simp), sb]
   have e0 : zat (((a :: t).drop 1).take (1 - 1)) (a.toNat : Int) 0 = some (.inl (a.toNat : Int)) := zhp (i := 0) (by simp)
   rw [e0, sb]
   simp only
   rw [zja, sb, if_pos h1, itF (by rfl)]
   simp [isN, is1, h1]
  ·rw [if_neg h1]
   by_cases h2 : a.toNat / 32 = 6
   ·rw [zeE 2 (.inr (.inl ⟨rfl, by omega, by omega⟩)), if_pos h2]
    simp only
    match t with
    | [] => rw [itT (by simp)]; rfl
    | b :: t =>
     rw [itF (by simp; omega), zep (i := 1) (j := 2) (a := 1) (b := 2) rfl rfl (by omega) (by simp), sb]
     have e0 := ztG (w := a.toNat % 32) (b := b) (by omega)
     have e0' : zat (((a :: b :: t).drop 1).take (2 - 1)) ((a.toNat % 32 : Nat) : Int) 0 = _ := e0
     rw [e0']
     have hb := b.toNat_lt
     by_cases c1 : cont b = true
     ·rw [if_pos c1, sb]
      simp only
      have hn := zja (64 * (a.toNat % 32) + b.toNat % 64)
      simp only [isN, is2, c1, and_true, decide_eq_true_eq]
      simp only [cont, decide_eq_true_eq] at c1
      by_cases h : 194 ≤ a.toNat
      ·rw [if_neg (by omega), if_pos (by omega)] at hn
       rw [hn, sb, itF (by rfl), if_pos (by omega)]; rfl
      ·rw [if_pos (by omega)] at hn
       rw [hn, sb, itT (by rfl), if_neg (by omega)]; rfl
     ·rw [if_neg c1, sb]
      simp only
      simp [isN, is2, c1]
   ·rw [if_neg h2]
    by_cases h3 : a.toNat / 16 = 14
    ·rw [zeE 3 (.inr (.inr (.inl ⟨rfl, by omega, by omega⟩))), if_pos h3]
     simp only
     match t with
     | [] => rw [itT (by simp)]; rfl
     | [b] => rw [itT (by simp)]; rfl
     | b :: c :: t =>
      rw [itF (by simp; omega), zep (i := 1) (j := 3) (a := 1) (b := 3) rfl rfl (by omega) (by simp), sb]
      have e0 := ztH (w := a.toNat % 16) (b := b) (c := c) (by omega)
      have e0' : zat (((a :: b :: c :: t).drop 1).take (3 - 1)) ((a.toNat % 16 : Nat) : Int) 0 = _ := e0
      rw [e0']
      have hb := b.toNat_lt
      have hc := c.toNat_lt
      by_cases c1 : cont b = true
      ·rw [if_pos c1]
       by_cases c2 : cont c = true
       ·rw [if_pos c2, sb]
        simp only
        have hn := zja (64 * (64 * (a.toNat % 16) + b.toNat % 64) + c.toNat % 64)
        simp only [isN, is3, c1, c2, true_and, decide_eq_true_eq]
        simp only [cont, decide_eq_true_eq] at c1 c2
        by_cases h : (a.toNat = 224 → 160 ≤ b.toNat) ∧ (a.toNat = 237 → b.toNat < 160)
        ·rw [if_neg (by omega), if_neg (by omega), if_neg (by omega), if_pos (by omega)] at hn
         rw [hn, sb, itF (by rfl), if_pos (by omega)]; rfl
        ·by_cases g : 64 * (64 * (a.toNat % 16) + b.toNat % 64) + c.toNat % 64 < 2048
         ·by_cases g' : 64 * (64 * (a.toNat % 16) + b.toNat % 64) + c.toNat % 64 < 128
          ·rw [if_pos g'] at hn
           rw [hn, sb, itT (by rfl), if_neg (by omega)]; rfl
          ·rw [if_neg g', if_pos g] at hn
           rw [hn, sb, itT (by rfl), if_neg (by omega)]; rfl
         ·rw [if_neg (by omega), if_neg g, if_pos (by omega)] at hn
          rw [hn, sb, itT (by rfl), if_neg (by omega)]; rfl
       ·rw [if_neg c2, sb]
        simp only
        simp [isN, is3, c2]
      ·rw [if_neg c1, sb]
       simp only
       simp [isN, is3, c1]
    ·rw [if_neg h3]
     by_cases h4 : a.toNat / 8 = 30
     ·rw [zeE 4 (.inr (.inr (.inr ⟨rfl, by omega⟩))), if_pos h4]
      simp only
      match t with
      | [] => rw [itT (by simp)]; rfl
      | [b] => rw [itT (by simp)]; rfl
      | [b, c] => rw [itT (by simp)]; rfl
      | b :: c :: d :: t =>
       rw [itF (by simp; omega), zep (i := 1) (j := 4) (a := 1) (b := 4) rfl rfl (by omega) (by simp), sb]
       have e0 := ztI (w := a.toNat % 8) (b := b) (c := c) (d := d) (by omega)
       have e0' : zat (((a :: b :: c :: d :: t).drop 1).take (4 - 1)) ((a.toNat % 8 : Nat) : Int) 0 = _ := e0
       rw [e0']
       have hb := b.toNat_lt
       have hc := c.toNat_lt
       have hd := d.toNat_lt
       by_cases c1 : cont b = true
       ·rw [if_pos c1]
        by_cases c2 : cont c = true
        ·rw [if_pos c2]
         by_cases c3 : cont d = true
         ·rw [if_pos c3, sb]
          simp only
          have hn := zja (64 * (64 * (64 * (a.toNat % 8) + b.toNat % 64) + c.toNat % 64) + d.toNat % 64)
          simp only [isN, is4, c1, c2, c3, true_and, decide_eq_true_eq]
          simp only [cont, decide_eq_true_eq] at c1 c2 c3
          by_cases h : a.toNat < 245 ∧ (a.toNat = 240 → 144 ≤ b.toNat) ∧ (a.toNat = 244 → b.toNat < 144)
          ·rw [if_neg (by omega), if_neg (by omega), if_neg (by omega), if_neg (by omega), if_pos (by omega)] at hn
           rw [hn, sb, itF (by rfl), if_pos (by omega)]; rfl
          ·have hw : ¬ (65536 ≤ 64 * (64 * (64 * (a.toNat % 8) + b.toNat % 64) + c.toNat % 64) + d.toNat % 64 ∧ 64 * (64 * (64 * (a.toNat % 8) + b.toNat % 64) + c.toNat % 64) + d.toNat % 64 ≤ 1114111) := by omega
           generalize 64 * (64 * (64 * (a.toNat % 8) + b.toNat % 64) + c.toNat % 64) + d.toNat % 64 = w at hn hw
           have hx : ∃ x : Int, zeT w = some x ∧ x ≠ 4 := ⟨_, hn, by (repeat' split) <;> omega⟩
           obtain ⟨x, hx, h4⟩ := hx
           rw [hx, sb, itT (by simp; omega), if_neg (by omega)]; rfl
         ·rw [if_neg c3, sb]
          simp only
          simp [isN, is4, c3]
        ·rw [if_neg c2, sb]
         simp only
         simp [isN, is4, c2]
       ·rw [if_neg c1, sb]
        simp only
        simp [isN, is4, c1]
     ·rw [if_neg h4, itT (by rfl)]
      by_cases h5 : 240 ≤ a.toNat
      ·rw [zeE 4 (.inr (.inr (.inr ⟨rfl, h5⟩)))]
       cases hh : isN 4 (a :: t) with
       | false => rfl
       | true =>
        match t, hh with
        | b :: c :: d :: t, hh => simp only [isN, is4, decide_eq_true_eq] at hh; omega
      ·by_cases h0 : nxt (a :: t) = 0
       ·rw [h0]; rfl
       ·obtain ⟨a', t', e, _, g⟩ := zdS (zjc h0)
        cases e
        omega
theorem zpU {b : List UInt8} (hb : b.length ≤ 1152921504606846976) (l : List UInt8) : ∀ (a c : Nat), c ≤ a → a ≤ b.length → l = b.drop a →
  zbZ b a c ((nxt l : Nat) : Int) = some (((a + (pre4 l).1 : Nat) : Int), ((c + (pre4 l).2 : Nat) : Int)) := by
 refine zrh (fun l => ∀ (a c : Nat), c ≤ a → a ≤ b.length → l = b.drop a → zbZ b a c ((nxt l : Nat) : Int) = some (((a + (pre4 l).1 : Nat) : Int), ((c + (pre4 l).2 : Nat) : Int))) ?_ ?_ l
 ·intro l h a c hc ha hl
  rw [h, zpz h]
  refine ziQ ?_
  unfold zbc
  rw [itF (by rfl)]; rfl
 ·intro l h ih a c hc ha hl
  subst hl
  have h4 := zsm (b.drop a)
  have hle := zjX (b.drop a)
  simp only [List.length_drop] at hle
  have e1 : (b.drop a).drop (nxt (b.drop a)) = b.drop (a + nxt (b.drop a)) := by rw [List.drop_drop]
  refine (ziP (atv' := ((a + nxt (b.drop a) : Nat) : Int)) (points' := ((c + 1 : Nat) : Int)) (size' := ((nxt (b.drop (a + nxt (b.drop a))) : Nat) : Int)) ?_).trans ?_
  ·unfold zbc
   rw [itT (by simp; omega), zX (by omega), zhf (a := a + nxt (b.drop a)) (by push_cast; rfl) rfl (by omega), sb, zoN, sb, zX (by omega)]; rfl
  ·rw [← e1, ih (a + nxt (b.drop a)) (c + 1) (by omega) (by omega) e1, zsq h]
   simp only [Nat.add_assoc, Nat.add_comm 1]
theorem zrz {b : List UInt8} (hb : b.length ≤ 1152921504606846976) : zfZ b = some (((pre4 b).1 : Int), ((pre4 b).2 : Int)) := by
 unfold zfZ
 rw [zoN, sb]
 have h := zpU hb b 0 0 (Nat.le_refl _) (Nat.zero_le _) rfl
 simp only [Nat.zero_add] at h
 have h' : zbZ b 0 0 ((nxt b : Nat) : Int) = some (((pre4 b).1 : Int), ((pre4 b).2 : Int)) := h
 rw [h', sb]
theorem zpN {b : List UInt8} (hb : b.length ≤ 1152921504606846976) : zeR b = some ((pre4 b).1 : Int) := by
 unfold zeR
 rw [zrz hb, sb]
theorem zpO {b : List UInt8} (hb : b.length ≤ 1152921504606846976) : zdN b = some (zdY b) := by
 unfold zdN zdY
 rw [zpN hb, sb, zrP]
end Go.Proofs.Ytnfembipjdohcaa
namespace Go.Proofs.Ytnfembipjdohcaa
open Go
set_option linter.unusedVariables false
def zto : List Str := [[], [105, 110, 116, 51, 50], [105, 110, 116, 54, 52], [117, 105, 110, 116, 51, 50], [117, 105, 110, 116, 54, 52], [115, 105, 110, 116, 51, 50], [115, 105, 110, 116, 54, 52], [98, 111, 111, 108], [101, 110, 117, 109], [102, 105, 120, 101, 100, 51, 50], [115, 102, 105, 120, 101, 100, 51, 50], [102, 108, 111, 97, 116], [102, 105, 120, 101, 100, 54, 52], [115, 102, 105, 120, 101, 100, 54, 52], [100, 111, 117, 98, 108, 101], [115, 116, 114, 105, 110, 103], [98, 121, 116, 101, 115], [109, 101, 115, 115, 97, 103, 101]]
def zqA (k : Int) : Str := (zto[k.toNat]?).getD []
def kT : List (Int × zm) := [(1, ⟨[105, 110, 116, 51, 50], 0⟩), (2, ⟨[105, 110, 116, 54, 52], 0⟩), (3, ⟨[117, 105, 110, 116, 51, 50], 0⟩), (4, ⟨[117, 105, 110, 116, 54, 52], 0⟩), (5, ⟨[115, 105, 110, 116, 51, 50], 0⟩), (6, ⟨[115, 105, 110, 116, 54, 52], 0⟩), (7, ⟨[98, 111, 111, 108], 0⟩), (8, ⟨[101, 110, 117, 109], 0⟩), (9, ⟨[102, 105, 120, 101, 100, 51, 50], 5⟩), (10, ⟨[115, 102, 105, 120, 101, 100, 51, 50], 5⟩), (11, ⟨[102, 108, 111, 97, 116], 5⟩), (12, ⟨[102, 105, 120, 101, 100, 54, 52], 1⟩), (13, ⟨[115, 102, 105, 120, 101, 100, 54, 52], 1⟩), (14, ⟨[100, 111, 117, 98, 108, 101], 1⟩), (15, ⟨[115, 116, 114, 105, 110, 103], 2⟩), (16, ⟨[98, 121, 116, 101, 115], 2⟩), (17, ⟨[109, 101, 115, 115, 97, 103, 101], 2⟩)]
theorem zmW : zdU = some kT := rfl
theorem ziC {k : Int} (h : zbO k = true) : k = 1 ∨ k = 2 ∨ k = 3 ∨ k = 4 ∨ k = 5 ∨ k = 6 ∨ k = 7 ∨ k = 8 ∨ k = 9 ∨ k = 10 ∨ k = 11 ∨ k = 12 ∨ k = 13 ∨ k = 14 ∨ k = 15 ∨ k = 16 ∨ k = 17 := by
 have := of_decide_eq_true h
 omega
theorem ztf {k : Int} (h : zbO k = true) : mget kT k = some ⟨zqA k, zcS k⟩ := by
 rcases ziC h with rfl | rfl | rfl | rfl | rfl | rfl | rfl | rfl | rfl | rfl | rfl | rfl | rfl | rfl | rfl | rfl | rfl <;> rfl
theorem zrY {e : Int × zm} (h : e ∈ kT) : zbO e.1 = true ∧ e.2 = ⟨zqA e.1, zcS e.1⟩ := by
 have : kT.all (fun e => zbO e.1 && decide (e.2 = ⟨zqA e.1, zcS e.1⟩)) = true := by decide
 have h1 := List.all_eq_true.1 this e h
 simp only [Bool.and_eq_true, decide_eq_true_eq] at h1
 exact h1
theorem zrZ {k : Int} (h : zbO k = false) : mget kT k = none := by
 cases hg : mget kT k with
 | none => rfl
 | some x =>
  have mem : ∀ {m : List (Int × zm)} {x : zm}, mget m k = some x → (k, x) ∈ m := fun {m x} hg => by
   induction m with
   | nil => cases hg
   | cons p m ih =>
    rw [mget] at hg
    split at hg
    ·rename_i e; cases hg; rw [e]; exact List.mem_cons_self
    ·exact List.mem_cons_of_mem _ (ih hg)
  have h1 := (zrY (mem hg)).1
  simp only at h1
  rw [h] at h1
  cases h1
theorem zmX (k : Int) : zdK k = some (if zbO k then (zcS k, 0) else (0, 2)) := by
 unfold zdK
 rw [zmW, sb]
 cases h : zbO k with
 | true => rw [ztf h]; rfl
 | false => rw [zrZ h]; rfl
theorem zjM (k : Int) : zcB k = some (kNum k) := by
 unfold zcB
 rw [zmX, sb]
 cases h : zbO k with
 | true =>
  rcases ziC h with rfl | rfl | rfl | rfl | rfl | rfl | rfl | rfl | rfl | rfl | rfl | rfl | rfl | rfl | rfl | rfl | rfl <;> rfl
 | false =>
  have h1 := of_decide_eq_false h
  have : kNum k = false := decide_eq_false (by omega)
  rw [this]
  rfl
theorem zsc : kT.map Prod.fst = [1, 2, 3, 4, 5, 6, 7, 8, 9, 10, 11, 12, 13, 14, 15, 16, 17] := rfl
theorem zsa : zfJ = some [1, 2, 3, 4, 5, 6, 7, 8, 9, 10, 11, 12, 13, 14, 15, 16, 17] := by
 have e : zmU kT = some [1, 2, 3, 4, 5, 6, 7, 8, 9, 10, 11, 12, 13, 14, 15, 16, 17] := by
  unfold zmU
  rw [if_pos ⟨by decide, by decide⟩, zsc, List.mergeSort_of_pairwise (by decide)]
 unfold zfJ
 rw [zmW, sb, e, sb]
theorem zpo (k : Int) {w : Int} (h : 0 ≤ w ∧ w ≤ 18446744073709551615) : zdT k w = some (if kNum k then (zcY k w, 0) else (0, 2)) := by
 have hs := zro w
 have hc := zmy k h
 unfold zdT
 by_cases h1 : k = 1 ∨ k = 8
 ·have e : (if (k == 1) = true then some (k == 1) else some (k == 8)) = some true := by rcases h1 with rfl | rfl <;> rfl
  have hn : kNum k = true := decide_eq_true (by omega)
  rw [e, sb, itT rfl, zpH, sb, zpV (by omega), sb, hn]
  unfold zcY
  rw [if_pos h1]
  rfl
 ·have e : (if (k == 1) = true then some (k == 1) else some (k == 8)) = some false := by rw [itF (by simp; omega)]; simp; omega
  rw [e, sb, itF rfl]
  by_cases h2 : k = 3 ∨ k = 5 ∨ k = 9 ∨ k = 10 ∨ k = 11
  ·have e2 : (if (k == 3) = true then some (k == 3) else if (k == 5) = true then some (k == 5) else if (k == 9) = true then some (k == 9) else if (k == 10) = true then some (k == 10) else some (k == 11)) = some true := by
    rcases h2 with rfl | rfl | rfl | rfl | rfl <;> rfl
   have hn : kNum k = true := decide_eq_true (by omega)
   have hw : IntKind.u64.wrap (w % 4294967296) = w % 4294967296 := by rw [zge]; omega
   rw [e2, sb, itT rfl, zmY, sb, hn, hw]
   unfold zcY
   rw [if_neg h1, if_pos h2]
   rfl
  ·have e2 : (if (k == 3) = true then some (k == 3) else if (k == 5) = true then some (k == 5) else if (k == 9) = true then some (k == 9) else if (k == 10) = true then some (k == 10) else some (k == 11)) = some false := by
    rw [itF (by simp; omega), itF (by simp; omega), itF (by simp; omega), itF (by simp; omega)]; simp; omega
   rw [e2, sb, itF rfl]
   by_cases h7 : k = 7
   ·have hn : kNum k = true := decide_eq_true (by omega)
    rw [itT (by simpa using h7), hn]
    unfold zfb zcY
    rw [sb, if_neg h1, if_neg h2, if_pos h7]
    by_cases h0 : 0 < w
    ·rw [if_pos h0]
     by_cases h10 : 1 < w
     ·rw [if_pos h10]; rfl
     ·rw [if_neg h10, show w = 1 by omega]; rfl
    ·rw [if_neg h0, if_neg (by omega), show w = 0 by omega]; rfl
   ·rw [itF (by simpa using h7)]
    by_cases hn : kNum k = true
    ·have hk := of_decide_eq_true hn
     have e3 : (if (k == 2) = true then some (k == 2) else if (k == 4) = true then some (k == 4) else if (k == 6) = true then some (k == 6) else if (k == 12) = true then some (k == 12) else if (k == 13) = true then some (k == 13) else some (k == 14)) = some true := by
      have : k = 2 ∨ k = 4 ∨ k = 6 ∨ k = 12 ∨ k = 13 ∨ k = 14 := by omega
      rcases this with rfl | rfl | rfl | rfl | rfl | rfl <;> rfl
     rw [e3, sb, itT rfl, hn]
     unfold zcY
     rw [if_neg h1, if_neg h2, if_neg h7]
     rfl
    ·have hn : kNum k = false := by simpa using hn
     have hk := of_decide_eq_false hn
     have e3 : (if (k == 2) = true then some (k == 2) else if (k == 4) = true then some (k == 4) else if (k == 6) = true then some (k == 6) else if (k == 12) = true then some (k == 12) else if (k == 13) = true then some (k == 13) else some (k == 14)) = some false := by
      rw [itF (by simp; omega), itF (by simp; omega), itF (by simp; omega), itF (by simp; omega), itF (by simp; omega)]; simp; omega
     rw [e3, sb, itF rfl, hn]
     rfl
end Go.Proofs.Ytnfembipjdohcaa
namespace Go.Proofs.Ytnfembipjdohcaa
open Go
set_option linter.unusedVariables false
def lt7 (c : UInt8) : Bool := decide (97 ≤ c.toNat ∧ c.toNat ≤ 122 ∨ 65 ≤ c.toNat ∧ c.toNat ≤ 90 ∨ c.toNat = 95)
def dg7 (c : UInt8) : Bool := decide (48 ≤ c.toNat ∧ c.toNat ≤ 57)
theorem zjI (c : UInt8) : zby (c.toNat : Int) = some (dg7 c) := by
 unfold zby dg7
 congr 1
 rw [Bool.eq_iff_iff]
 simp
 omega
theorem zmN (c : UInt8) : zbJ (c.toNat : Int) = some (lt7 c) := by
 unfold zbJ lt7
 congr 1
 by_cases h1 : (c.toNat : Int) ≥ 97 <;> by_cases h2 : (c.toNat : Int) ≥ 65 <;> simp only [h1, h2, decide_true, decide_false, if_true, if_false, Bool.false_eq_true] <;> rw [Bool.eq_iff_iff] <;> simp <;> omega
theorem zmO (s : List UInt8) (hs : s.length ≤ 1152921504606846976) : ∀ (l : List UInt8) (i : Nat), s.drop i = l → zbe s i = some (if (l.all fun c => lt7 c || dg7 c) = true then .inl () else .inr ()) := by
 intro l
 induction l with
 | nil =>
  intro i hd
  have := zhP hd
  refine zdu ?_
  unfold zah
  rw [itF (by simp; omega)]
  rfl
 | cons c l ih =>
  intro i hd
  obtain ⟨hi, hc, hd'⟩ := zgI hd
  have hb : zah s i = if (lt7 c || dg7 c) = true then some (.inl ((i + 1 : Nat) : Int)) else some (.inr (.inr ())) := by
   unfold zah
   rw [itT (by simp; omega), zbk rfl hi, sb, hc, zmN, sb, sb, zjI, zX (by omega)]
   cases lt7 c <;> cases dg7 c <;> rfl
  rw [List.all_cons]
  cases hk : (lt7 c || dg7 c) with
  | false =>
   rw [hk] at hb
   rw [zdu hb]
   rfl
  | true =>
   rw [hk] at hb
   rw [zfU hb, ih _ hd', Bool.true_and]
theorem zoS : ∀ (l : List UInt8) (i : Nat), 0 < i → nmA i l = l.all fun c => lt7 c || dg7 c
 | [], _, _ => rfl
 | c :: l, i, h => by
  rw [nmA, zoS l (i + 1) (by omega), List.all_cons]
  congr 1
  unfold nmc lt7 dg7
  rw [Bool.eq_iff_iff]
  simp
  omega
theorem zlg {s : List UInt8} (hs : s.length ≤ 1152921504606846976) : zbN s = some (zck s) := by
 unfold zbN zck
 have hl := zmO s hs s 0 rfl
 have hl' : zbe s 0 = _ := hl
 cases s with
 | nil => rfl
 | cons c l =>
  rw [itF (by simp)]
  by_cases h60 : ((c :: l).length : Int) > 60
  ·rw [itT (by simpa using h60), sb, itT rfl]
   have : decide (1 ≤ (c :: l).length ∧ (c :: l).length ≤ 60) = false := by simp only [decide_eq_false_iff_not]; omega
   rw [this, Bool.and_false]
  ·have hd : decide (1 ≤ (c :: l).length ∧ (c :: l).length ≤ 60) = true := by simp only [decide_eq_true_eq]; refine ⟨by simp, by omega⟩
   have hc : idx (c :: l) 0 = some c := by simp [idx]
   rw [itF (by simpa using h60), hc, sb, zjI, sb, sb, hd, Bool.and_true, hl', sb]
   have e : nmA 0 (c :: l) = (lt7 c && l.all fun c => lt7 c || dg7 c) := by
    rw [nmA, zoS l 1 (by omega)]
    congr 1
    unfold nmc lt7
    rw [Bool.eq_iff_iff]
    simp
    omega
   have hx : lt7 c = true → dg7 c = false := by
    unfold lt7 dg7
    simp only [decide_eq_true_eq, decide_eq_false_iff_not]
    omega
   rw [e, List.all_cons]
   cases h1 : lt7 c <;> cases h2 : dg7 c <;> first | (rw [hx h1] at h2; cases h2; done) | skip
   ·rfl
   ·rfl
   ·cases l.all fun c => lt7 c || dg7 c <;> rfl
theorem zqr {l : List Int} (hl : l.length ≤ 1152921504606846976) (v : Int) : zaw l v = some (zeY (fun x => v == x) l) := by
 unfold zaw
 have h := zkY (fun x => v == x) l (fun i => zai l v i) (zbz (by unfold zC; rw [itF (by simp)])) (fun i hi => by
  by_cases hp : (v == l[i]) = true
  ·rw [if_pos hp]; exact zbz (by unfold zC; rw [itT (by simp; omega), zbk rfl hi, sb, itT hp])
  ·rw [if_neg hp]; exact zdf (by unfold zC; rw [itT (by simp; omega), zbk rfl hi, sb, itF (by simpa using hp), zX (by omega)]; rfl)) l.length 0 (by omega) (fun j _ h => by omega)
 have h' : zai l v 0 = _ := h
 rw [h', sb]
 unfold zeY
 cases l.findIdx? (fun x => v == x) <;> rfl
theorem zkH {α : Type} (p : α → Bool) (l : List α) : decide (zeY p l ≥ 0) = l.any p := by
 cases h : l.findIdx? p with
 | none =>
  rw [ziv h]
  rw [List.findIdx?_eq_none_iff] at h
  symm
  rw [List.any_eq_false.2 fun x hx => by simpa using h x hx]
  rfl
 | some i =>
  rw [ziw h]
  rw [List.findIdx?_eq_some_iff_getElem] at h
  obtain ⟨hi, hp, _⟩ := h
  symm
  rw [List.any_eq_true.2 ⟨l[i], List.getElem_mem hi, hp⟩]
  simp
theorem zmA {l : List Int} (hl : l.length ≤ 1152921504606846976) (v : Int) : zaq l v = some (l.any fun x => v == x) := by
 unfold zaq
 rw [zqr hl, sb, zkH]
def K17 : List Int := [1, 2, 3, 4, 5, 6, 7, 8, 9, 10, 11, 12, 13, 14, 15, 16, 17]
theorem zpp (k : Int) : (K17.any fun x => k == x) = zbO k := by
 unfold zbO K17
 rw [Bool.eq_iff_iff]
 simp
 omega
def hasN (m : List (zg × Bool)) (i : Int) (n : Str) : Bool := (mget m (⟨i, n⟩ : zg)).getD false
def hasU (m : List (zh × Bool)) (i : Int) (n : Int) : Bool := (mget m (⟨i, n⟩ : zh)).getD false
theorem zeD (m : List (zg × Bool)) (i j : Int) (n k : Str) : hasN (mput m ⟨i, n⟩ true) j k = (decide (j = i ∧ k = n) || hasN m j k) := by
 unfold hasN
 rw [zgi]
 by_cases h : j = i ∧ k = n
 ·obtain ⟨rfl, rfl⟩ := h; simp
 ·rw [if_neg (fun e => h (by injection e with e1 e2; exact ⟨e1, e2⟩))]; simp [h]
theorem zmK (m : List (zh × Bool)) (i j : Int) (n k : Int) : hasU (mput m ⟨i, n⟩ true) j k = (decide (j = i ∧ k = n) || hasU m j k) := by
 unfold hasU
 rw [zgi]
 by_cases h : j = i ∧ k = n
 ·obtain ⟨rfl, rfl⟩ := h; simp
 ·rw [if_neg (fun e => h (by injection e with e1 e2; exact ⟨e1, e2⟩))]; simp [h]
theorem zmP (n : Int) : zbK n = some (decide ¬ (n < 1 ∨ n > 536870911 ∨ (19000 ≤ n ∧ n < 20000))) := by
 unfold zbK
 congr 1
 rw [Bool.eq_iff_iff]
 simp
 omega
theorem zoa (f : Fld) : zbX f = some (f.Repeated && kNum f.Kind) := by
 unfold zbX
 rw [zjM]
 cases f.Repeated <;> rfl
theorem zqL (n : Int) (K : List Int) (nm : List (zg × Bool)) (nu : List (zh × Bool)) (f : Fld) : zbj ⟨n, K, nm, nu⟩ f = some (decide ¬ (f.Kind = 17 ∧ (f.Of < 0 ∨ f.Of ≥ n) ∨ f.Kind ≠ 17 ∧ f.Of ≠ 0)) := by
 unfold zbj
 by_cases h : f.Kind = 17
 ·rw [itT (by simpa using h)]
  congr 1
  rw [Bool.eq_iff_iff]
  simp [h]
 ·rw [itF (by simpa using h)]
  congr 1
  rw [Bool.eq_iff_iff]
  simp [h]
theorem zql {n i : Int} {nm : List (zg × Bool)} {nu : List (zh × Bool)} {prev : List Fld} {f : Fld} (hf : f.Name.length ≤ 1152921504606846976) (hN : hasN nm i f.Name = prev.any fun g => g.Name == f.Name) (hU : hasU nu i f.Number = prev.any fun g => g.Number == f.Number) :
  zbi ⟨n, K17, nm, nu⟩ i f = some (zaB n prev f, if zaB n prev f = 0 then (mput nm ⟨i, f.Name⟩ true, mput nu ⟨i, f.Number⟩ true) else (nm, nu)) := by
 unfold zbi
 rw [zlg hf, sb]
 have e1 : (mget nm (⟨i, f.Name⟩ : zg)).getD false = hasN nm i f.Name := rfl
 have e2 : (mget nu (⟨i, f.Number⟩ : zh)).getD false = hasU nu i f.Number := rfl
 simp only [e1, e2, hN, hU]
 have hz : ∀ (k : Int) (x y : List (zg × Bool) × List (zh × Bool)), k ≠ 0 → (if k = 0 then x else y) = y := fun k x y h => if_neg h
 by_cases h1 : zck f.Name = false
 ·have hF : zaB n prev f = 5 := by unfold zaB; rw [if_pos h1]
  rw [hF, hz 5 _ _ (by decide), itT (by rw [h1]; rfl)]
 rw [itF (show (!zck f.Name) = false by simpa using h1)]
 by_cases h2 : (prev.any fun g => g.Name == f.Name) = true
 ·have hF : zaB n prev f = 6 := by unfold zaB; rw [if_neg h1, if_pos h2]
  rw [hF, hz 6 _ _ (by decide), itT h2]
 have h2' : (prev.any fun g => g.Name == f.Name) = false := eq_false_of_ne_true h2
 rw [itF h2', zmP, sb]
 by_cases h3 : f.Number < 1 ∨ f.Number > 536870911 ∨ (19000 ≤ f.Number ∧ f.Number < 20000)
 ·have hF : zaB n prev f = 7 := by unfold zaB; rw [if_neg h1, if_neg h2, if_pos h3]
  rw [hF, hz 7 _ _ (by decide), itT (by rw [decide_eq_false (fun h => h h3)]; rfl)]
 rw [itF (by rw [decide_eq_true h3]; rfl)]
 by_cases h4 : (prev.any fun g => g.Number == f.Number) = true
 ·have hF : zaB n prev f = 8 := by unfold zaB; rw [if_neg h1, if_neg h2, if_neg h3, if_pos h4]
  rw [hF, hz 8 _ _ (by decide), itT h4]
 have h4' : (prev.any fun g => g.Number == f.Number) = false := eq_false_of_ne_true h4
 rw [itF h4', zmA (by decide), sb, zpp]
 by_cases h5 : zbO f.Kind = false
 ·have hF : zaB n prev f = 9 := by unfold zaB; rw [if_neg h1, if_neg h2, if_neg h3, if_neg h4, if_pos h5]
  rw [hF, hz 9 _ _ (by decide), itT (by rw [h5]; rfl)]
 rw [itF (show (!zbO f.Kind) = false by simpa using h5), zoa]
 have hg : (if f.Packed = true then (some (f.Repeated && kNum f.Kind) >>= fun rv4 => some (!rv4)) else some false) = some (decide (f.Packed = true ∧ ¬ (f.Repeated = true ∧ kNum f.Kind = true))) := by
  cases f.Packed <;> cases f.Repeated <;> cases kNum f.Kind <;> rfl
 rw [hg, sb]
 by_cases h6 : f.Packed = true ∧ ¬ (f.Repeated = true ∧ kNum f.Kind = true)
 ·have hF : zaB n prev f = 10 := by unfold zaB; rw [if_neg h1, if_neg h2, if_neg h3, if_neg h4, if_neg h5, if_pos h6]
  rw [hF, hz 10 _ _ (by decide), itT (decide_eq_true h6)]
 rw [itF (decide_eq_false h6), zqL, sb]
 by_cases h7 : f.Kind = 17 ∧ (f.Of < 0 ∨ f.Of ≥ n) ∨ f.Kind ≠ 17 ∧ f.Of ≠ 0
 ·have hF : zaB n prev f = 11 := by unfold zaB; rw [if_neg h1, if_neg h2, if_neg h3, if_neg h4, if_neg h5, if_neg h6, if_pos h7]
  rw [hF, hz 11 _ _ (by decide), itT (by rw [decide_eq_false (fun h => h h7)]; rfl)]
 have hF : zaB n prev f = 0 := by unfold zaB; rw [if_neg h1, if_neg h2, if_neg h3, if_neg h4, if_neg h5, if_neg h6, if_neg h7]
 rw [hF, if_pos rfl, itF (by rw [decide_eq_true h7]; rfl)]
theorem zob {n : Int} {nm : List (zg × Bool)} {nu : List (zh × Bool)} {prev : List Mes} {m : Mes} (hm : m.Name.length ≤ 1152921504606846976) (hN : hasN nm (-1) m.Name = prev.any fun g => g.Name == m.Name) :
  zaT ⟨n, K17, nm, nu⟩ m = some (if zck m.Name = false then (2, nm, nu) else if (prev.any fun g => g.Name == m.Name) = true then (3, nm, nu) else if 200 < m.Fields.length then (4, nm, nu) else (0, mput nm ⟨-1, m.Name⟩ true, nu)) := by
 unfold zaT
 rw [zlg hm, sb]
 have e1 : (mget nm (⟨(-1), m.Name⟩ : zg)).getD false = hasN nm (-1) m.Name := rfl
 simp only [e1, hN]
 by_cases h1 : zck m.Name = false
 ·rw [if_pos h1, itT (show (!zck m.Name) = true by rw [h1]; rfl)]
 rw [if_neg h1, itF (show (!zck m.Name) = false by simpa using h1)]
 by_cases h2 : (prev.any fun g => g.Name == m.Name) = true
 ·rw [if_pos h2, itT h2]
 have h2' : (prev.any fun g => g.Name == m.Name) = false := eq_false_of_ne_true h2
 rw [if_neg h2, itF h2']
 by_cases h3 : 200 < m.Fields.length
 ·rw [if_pos h3, itT (show decide ((m.Fields.length : Int) > 200) = true by simp; omega)]
 rw [if_neg h3, itF (show decide ((m.Fields.length : Int) > 200) = false by simp; omega)]
structure Met (nm : List (zg × Bool)) (nu : List (zh × Bool)) (i : Nat) (prev : List Mes) (p : List Fld) : Prop where
 mes : ∀ n, hasN nm (-1) n = prev.any fun g => g.Name == n
 nam : ∀ n, hasN nm i n = p.any fun g => g.Name == n
 num : ∀ n, hasU nu i n = p.any fun g => g.Number == n
 later : ∀ (j : Nat) n, i < j → hasN nm j n = false
 laterU : ∀ (j : Nat) n, i < j → hasU nu j n = false
theorem Met.step {nm : List (zg × Bool)} {nu : List (zh × Bool)} {i : Nat} {prev : List Mes} {p : List Fld} (h : Met nm nu i prev p) (f : Fld) : Met (mput nm ⟨i, f.Name⟩ true) (mput nu ⟨i, f.Number⟩ true) i prev (p ++ [f]) := by
 refine ⟨fun n => ?_, fun n => ?_, fun n => ?_, fun j n hj => ?_, fun j n hj => ?_⟩
 ·rw [zeD, h.mes, decide_eq_false (by omega), Bool.false_or]
 ·rw [zeD, h.nam, List.any_append, Bool.or_comm]
  congr 1
  simp only [List.any_cons, List.any_nil, Bool.or_false]
  rw [Bool.eq_iff_iff]; simp; exact eq_comm
 ·rw [zmK, h.num, List.any_append, Bool.or_comm]
  congr 1
  simp only [List.any_cons, List.any_nil, Bool.or_false]
  rw [Bool.eq_iff_iff]; simp; exact eq_comm
 ·rw [zeD, h.later j n hj, decide_eq_false (by omega)]; rfl
 ·rw [zmK, h.laterU j n hj, decide_eq_false (by omega)]; rfl
theorem zqh {s : List Mes} {i : Nat} {prev : List Mes} {m : Mes} (hb : m.Fields.length ≤ 140737488351232) (hn : ∀ f ∈ m.Fields, f.Name.length ≤ 140737488351232) :
  ∀ (l : List Fld) (k : Nat) (nm : List (zg × Bool)) (nu : List (zh × Bool)), m.Fields.drop k = l → k ≤ m.Fields.length → Met nm nu i prev (m.Fields.take k) →
   (∃ j w, msgF s.length (m.Fields.take k) l = some (j, w) ∧ zaJ K17 s i m k nm nu = some (.inr ((j : Int), w))) ∨
   (msgF s.length (m.Fields.take k) l = none ∧ ∃ nm' nu', zaJ K17 s i m k nm nu = some (.inl (nm', nu')) ∧ Met nm' nu' i prev m.Fields) := by
 intro l
 induction l with
 | nil =>
  intro k nm nu hd hk hM
  have := zhP hd
  have hkl : k = m.Fields.length := by omega
  subst hkl
  refine .inr ⟨rfl, nm, nu, zdE ?_, by simpa using hM⟩
  unfold zag
  rw [itF (by simp)]
 | cons f l ih =>
  intro k nm nu hd hk hM
  obtain ⟨hi, hc, hd'⟩ := zgI hd
  have hf := hn f (by rw [← hc]; exact List.getElem_mem hi)
  have hfld := zql (n := (s.length : Int)) (i := (i : Int)) (nm := nm) (nu := nu) (prev := m.Fields.take k) (f := f) (by omega) (hM.nam _) (hM.num _)
  have htk : m.Fields.take (k + 1) = m.Fields.take k ++ [f] := by rw [List.take_succ_eq_append_getElem hi, hc]
  have hlen : (m.Fields.take k).length = k := by simp; omega
  obtain ⟨bd, _⟩ := zmD (s.length : Int) (m.Fields.take k) f
  rw [msgF]
  by_cases h0 : zaB s.length (m.Fields.take k) f = 0
  ·rw [if_neg (by omega)]
   rw [h0, if_pos rfl] at hfld
   have hstep : zag K17 s i m k nm nu = some (.inl (((k + 1 : Nat) : Int), mput nm ⟨i, f.Name⟩ true, mput nu ⟨i, f.Number⟩ true)) := by
    unfold zag
    rw [itT (by simp; omega), zbk rfl hi, sb, hc, hfld, sb]
    dsimp only
    rw [itF (show ((0 : Int) != 0) = false from rfl), zX (by omega)]
    rfl
   rw [zgt hstep, ← htk]
   exact ih (k + 1) _ _ hd' (by omega) (by rw [htk]; exact hM.step f)
  ·rw [if_pos (by omega)]
   rw [if_neg h0] at hfld
   refine .inl ⟨k, _, by rw [hlen], zdE ?_⟩
   unfold zag
   rw [itT (by simp; omega), zbk rfl hi, sb, hc, hfld, sb]
   dsimp only
   rw [itT (show (zaB (s.length : Int) (m.Fields.take k) f != 0) = true by simpa using h0)]
theorem zqg {s : List Mes} (hw : WS s) : ∀ (l : List Mes) (i : Nat) (nm : List (zg × Bool)) (nu : List (zh × Bool)), s.drop i = l → i ≤ s.length → Met nm nu i (s.take i) [] →
  zbn K17 s i nm nu = some (match chkF s.length (s.take i) l with | some (j, k, w) => .inr ((j : Int), k, w) | none => .inl ()) := by
 intro l
 induction l with
 | nil =>
  intro i nm nu hd hi hM
  have := zhP hd
  refine zaY ?_
  unfold zS
  rw [itF (by simp; omega)]
  rfl
 | cons m l ih =>
  intro i nm nu hd hi hM
  obtain ⟨hil, hc, hd'⟩ := zgI hd
  obtain ⟨w1, w2⟩ := hw
  obtain ⟨m1, m2, m3⟩ := w2 m (by rw [← hc]; exact List.getElem_mem hil)
  have hmes := zob (n := (s.length : Int)) (nm := nm) (nu := nu) (prev := s.take i) (m := m) (by omega) (hM.mes _)
  have htk : s.take (i + 1) = s.take i ++ [m] := by rw [List.take_succ_eq_append_getElem hil, hc]
  have hlen : (s.take i).length = i := by simp; omega
  rw [chkF]
  by_cases h1 : zck m.Name = false
  ·rw [if_pos h1] at hmes ⊢
   refine zaY ?_
   unfold zS
   rw [itT (by simp; omega), zbk rfl hil, sb, hc, hmes, sb]
   dsimp only
   rw [itT (show ((2 : Int) != 0) = true from rfl), hlen]
  rw [if_neg h1] at hmes ⊢
  by_cases h2 : ((s.take i).any fun g => g.Name == m.Name) = true
  ·rw [if_pos h2] at hmes ⊢
   refine zaY ?_
   unfold zS
   rw [itT (by simp; omega), zbk rfl hil, sb, hc, hmes, sb]
   dsimp only
   rw [itT (show ((3 : Int) != 0) = true from rfl), hlen]
  rw [if_neg h2] at hmes ⊢
  by_cases h3 : 200 < m.Fields.length
  ·rw [if_pos h3] at hmes ⊢
   refine zaY ?_
   unfold zS
   rw [itT (by simp; omega), zbk rfl hil, sb, hc, hmes, sb]
   dsimp only
   rw [itT (show ((4 : Int) != 0) = true from rfl), hlen]
  rw [if_neg h3] at hmes ⊢
  have hM0 : Met (mput nm ⟨-1, m.Name⟩ true) nu i (s.take i ++ [m]) (m.Fields.take 0) := by
   refine ⟨fun n => ?_, fun n => ?_, fun n => ?_, fun j n hj => ?_, fun j n hj => hM.laterU j n hj⟩
   ·rw [zeD, hM.mes, List.any_append, Bool.or_comm]
    congr 1
    simp only [List.any_cons, List.any_nil, Bool.or_false]
    rw [Bool.eq_iff_iff]; simp; exact eq_comm
   ·rw [zeD, hM.nam, decide_eq_false (by omega)]; rfl
   ·rw [hM.num]; rfl
   ·rw [zeD, hM.later j n hj, decide_eq_false (by omega)]; rfl
  have hl2 := zqh (s := s) (i := i) m2 m3 m.Fields 0 _ nu rfl (by omega) hM0
  simp only [List.take_zero] at hl2
  rcases hl2 with ⟨j, w, g1, g2⟩ | ⟨g1, nm', nu', g2, g3⟩
  ·rw [g1]
   refine zaY ?_
   unfold zS
   have g2' : zaJ K17 s i m 0 (mput nm ⟨-1, m.Name⟩ true) nu = _ := g2
   rw [itT (by simp; omega), zbk rfl hil, sb, hc, hmes, sb]
   dsimp only
   rw [itF (show ((0 : Int) != 0) = false from rfl), g2', sb]
   simp only [hlen]
  ·rw [g1]
   have hstep : zS K17 s i nm nu = some (.inl (((i + 1 : Nat) : Int), nm', nu')) := by
    unfold zS
    have g2' : zaJ K17 s i m 0 (mput nm ⟨-1, m.Name⟩ true) nu = _ := g2
    rw [itT (by simp; omega), zbk rfl hil, sb, hc, hmes, sb]
    dsimp only
    rw [itF (show ((0 : Int) != 0) = false from rfl), g2', sb]
    dsimp only
    rw [zX (by omega)]
    rfl
   rw [zgs hstep]
   simp only []
   rw [← htk]
   refine ih (i + 1) nm' nu' hd' (by omega) ⟨fun n => ?_, fun n => ?_, fun n => ?_, fun j n hj => g3.later j n (by omega), fun j n hj => g3.laterU j n (by omega)⟩
   ·rw [htk]; exact g3.mes n
   ·rw [g3.later (i + 1) n (by omega)]; rfl
   ·rw [g3.laterU (i + 1) n (by omega)]; rfl
theorem zqf {s : List Mes} (hw : WS s) : zcN s = some (⟨(zdQ s).1, (zdQ s).2.1, (zdQ s).2.2⟩, if (zdQ s).2.2 = 0 then 0 else 9) := by
 unfold zcN zdQ
 by_cases h : s.length = 0 ∨ 100 < s.length
 ·rw [itT (by simp; omega), if_pos h]
  rfl
 ·rw [itF (by simp; omega), if_neg h, zsa, sb]
  have hl := zqg hw s 0 [] [] rfl (by omega) ⟨fun n => rfl, fun n => rfl, fun n => rfl, fun j n _ => rfl, fun j n _ => rfl⟩
  simp only [List.take_zero] at hl
  have hl' : zbn [1, 2, 3, 4, 5, 6, 7, 8, 9, 10, 11, 12, 13, 14, 15, 16, 17] s 0 [] [] = _ := hl
  rw [hl', sb]
  cases hc : chkF s.length [] s with
  | none => rfl
  | some q =>
   obtain ⟨i, k, w⟩ := q
   have := zoy _ _ _ _ _ _ hc
   simp only
   rw [if_neg (by omega)]
theorem zrj {s : List Mes} (hw : WS s) : zcO s = some (zio s) := by
 unfold zcO zio
 rw [zqf hw, sb]
 by_cases h : (zdQ s).2.2 = 0 <;> simp [h]
end Go.Proofs.Ytnfembipjdohcaa
namespace Go.Proofs.Ytnfembipjdohcaa
open Go
set_option linter.unusedVariables false
theorem znv {k : Int} {b : List UInt8} (h : (zcm k b).2 = 0) : kNum k = true ∧ (pcs k b).2 = 0 ∧ (zcm k b).1 = (pcs k b).1.map (zrG k) := by
 unfold zcm at h ⊢
 cases hn : kNum k with
 | false => rw [hn, if_pos rfl] at h; simp at h
 | true =>
  rw [hn, if_neg (by simp)] at h
  rw [if_neg (by simp)]
  by_cases h0 : (pcs k b).2 = 0
  ·rw [if_pos h0]; exact ⟨rfl, h0, rfl⟩
  ·rw [if_neg h0] at h; exact absurd h h0
theorem zot {k : Int} {b : List UInt8} (h : (zcm k b).2 ≠ 0) : (zcm k b).1 = [] ∧ ((zcm k b).2 = 2 ∨ (zcm k b).2 = 3 ∨ (zcm k b).2 = 4) := by
 unfold zcm at h ⊢
 by_cases hn : kNum k = false
 ·rw [if_pos hn]; simp
 ·rw [if_neg hn] at h ⊢
  by_cases h0 : (pcs k b).2 = 0
  ·rw [if_pos h0] at h; exact absurd rfl h
  ·rw [if_neg h0]
   rcases znd k b with h1 | h1 | h1
   ·exact absurd h1 h0
   ·rw [h1]; simp
   ·rw [h1]; simp
end Go.Proofs.Ytnfembipjdohcaa
namespace Go.Proofs.Ytnfembipjdohcaa
open Go
set_option linter.unusedVariables false
def wid (k : Int) : Nat := if 12 ≤ k then 8 else if 9 ≤ k then 4 else 0
theorem zpK (k : Int) : zcM k = some (if kNum k then ((wid k : Int), 0) else (0, 2)) := by
 cases hn : kNum k with
 | true =>
  have h := zjL.1 hn
  have hk : k = 1 ∨ k = 2 ∨ k = 3 ∨ k = 4 ∨ k = 5 ∨ k = 6 ∨ k = 7 ∨ k = 8 ∨ k = 9 ∨ k = 10 ∨ k = 11 ∨ k = 12 ∨ k = 13 ∨ k = 14 := by omega
  rcases hk with rfl | rfl | rfl | rfl | rfl | rfl | rfl | rfl | rfl | rfl | rfl | rfl | rfl | rfl <;> rfl
 | false =>
  have h := of_decide_eq_false hn
  unfold zcM
  have hne : ∀ c : Int, 1 ≤ c → c ≤ 14 → (k == c) = false := fun c h1 h2 => by simp; omega
  simp only [hne 1 (by omega) (by omega), hne 2 (by omega) (by omega), hne 3 (by omega) (by omega), hne 4 (by omega) (by omega), hne 5 (by omega) (by omega), hne 6 (by omega) (by omega), hne 7 (by omega) (by omega), hne 8 (by omega) (by omega), hne 9 (by omega) (by omega), hne 10 (by omega) (by omega), hne 11 (by omega) (by omega), hne 12 (by omega) (by omega), hne 13 (by omega) (by omega), hne 14 (by omega) (by omega)]
  rfl
theorem zrq {k w : Int} (h : 0 ≤ w ∧ w ≤ 18446744073709551615) : zdt k w = some (if kNum k then ((sPut k w).length : Int) else 0) := by
 have hc := zmy k h
 obtain ⟨c, hcc⟩ : ∃ c : Nat, zcY k w = c := ⟨(zcY k w).toNat, by omega⟩
 unfold zdt
 rw [zpK, sb]
 cases hn : kNum k with
 | false => rfl
 | true =>
  simp only [if_true]
  unfold sPut zoi
  rw [hcc, Int.toNat_natCast]
  unfold wid
  by_cases h1 : 12 ≤ k
  ·rw [if_pos h1, if_pos h1, itT (by rfl), zcn]
  ·rw [if_neg h1, if_neg h1]
   by_cases h2 : 9 ≤ k
   ·rw [if_pos h2, if_pos h2, itT (by rfl), zcn]
   ·rw [if_neg h2, if_neg h2, itF (by rfl), zpo k h, sb, hn]
    simp only [if_true]
    rw [hcc, ztj (by omega), sb, zoC]
end Go.Proofs.Ytnfembipjdohcaa
namespace Go.Proofs.Ytnfembipjdohcaa
open Go
set_option linter.unusedVariables false
def wid9 (k : Int) : Int := if kNum k then (if 12 ≤ k then 8 else if 9 ≤ k then 4 else 1) else 0
theorem zkL {k : Int} (hk : kNum k = true) : (((sPut k 0).length : Nat) : Int) = (if 12 ≤ k then 8 else if 9 ≤ k then 4 else 1) := by
 have hk' := zjL.1 hk
 have hc : (zcY k 0).toNat = 0 := by
  have : k = 1 ∨ k = 2 ∨ k = 3 ∨ k = 4 ∨ k = 5 ∨ k = 6 ∨ k = 7 ∨ k = 8 ∨ k = 9 ∨ k = 10 ∨ k = 11 ∨ k = 12 ∨ k = 13 ∨ k = 14 := by omega
  rcases this with h | h | h | h | h | h | h | h | h | h | h | h | h | h <;> subst h <;> decide
 unfold sPut
 rw [hc]
 unfold zoi
 by_cases h1 : 12 ≤ k
 ·rw [if_pos h1, if_pos h1, zcn]; rfl
 ·rw [if_neg h1, if_neg h1]
  by_cases h2 : 9 ≤ k
  ·rw [if_pos h2, if_pos h2, zcn]; rfl
  ·rw [if_neg h2, if_neg h2, zoC]
   simp [lenN]
theorem zpF (k : Int) : zeL k = some (wid9 k) := by
 unfold zeL wid9
 rw [zrq (by omega), sb]
 cases hk : kNum k with
 | false => rfl
 | true => simp only [if_true]; rw [zkL hk]
theorem zpb {k : Int} (hk : kNum k = true) : (k < 9 → wid9 k = 1) ∧ (¬ k < 9 → k < 12 → wid9 k = 4) ∧ (¬ k < 12 → wid9 k = 8) := by
 unfold wid9
 rw [hk, if_pos rfl]
 refine ⟨fun h => ?_, fun h1 h2 => ?_, fun h => ?_⟩
 ·rw [if_neg (show ¬ 12 ≤ k by omega), if_neg (show ¬ 9 ≤ k by omega)]
 ·rw [if_neg (show ¬ 12 ≤ k by omega), if_pos (show 9 ≤ k by omega)]
 ·rw [if_pos (show 12 ≤ k by omega)]
theorem zrF {k : Int} (hk : kNum k = false) : wid9 k = 0 := by unfold wid9; rw [hk]; rfl
theorem zsA {k : Int} (hk : kNum k = true) : (wid9 k == 0) = false := by
 obtain ⟨h1, h2, h3⟩ := zpb hk
 by_cases h9 : k < 9
 ·rw [h1 h9]; rfl
 ·by_cases h12 : k < 12
  ·rw [h2 h9 h12]; rfl
  ·rw [h3 h12]; rfl
theorem zlu {k : Int} (hk : kNum k = true) (b : List UInt8) : zeK (wid9 k) b = some (match zfX k b with | .inl c => (0, c) | .inr n => ((n : Int), 0)) := by
 obtain ⟨w1, w2, w3⟩ := zpb hk
 unfold zeK zfX
 by_cases h9 : k < 9
 ·rw [w1 h9, itT (by rfl), zoX, sb, if_pos h9]
  rcases zhy b with h | ⟨h, _⟩ | ⟨x, c, y, e, hx, hc, hl, hv, h⟩
  ·rw [h]; rfl
  ·rw [h]; rfl
  ·rw [h, if_neg (by simp)]; simp
 ·rw [if_neg h9]
  by_cases h12 : k < 12
  ·rw [w2 h9 h12, itF (by rfl), if_pos h12]
   by_cases hl : b.length < 4
   ·rw [itT (by simp; omega), if_pos hl]
   ·rw [itF (by simp; omega), if_neg hl]; rfl
  ·rw [w3 h12, itF (by rfl), if_neg h12]
   by_cases hl : b.length < 8
   ·rw [itT (by simp; omega), if_pos hl]
   ·rw [itF (by simp; omega), if_neg hl]; rfl
def zgb (k : Int) (b : List UInt8) : List (List UInt8) × Int := if kNum k = false then ([], 2) else pcs k b
def go9 {σ ρ : Type} (kb : σ → (List UInt8 × Int) → Option (σ ⊕ ρ)) : List (List UInt8) → Int → σ → Option (σ ⊕ ρ)
 | [], c, s => if c = 0 then some (.inl s) else kb s ([], c)
 | p :: ps, c, s => match kb s (p, 0) with
  | some (.inl s') => go9 kb ps c s'
  | some (.inr r) => some (.inr r)
  | none => none
theorem zog {σ ρ χ : Type} {kb : σ → χ → Option (σ ⊕ ρ)} {s : σ} {x : χ} {o : σ ⊕ ρ} (h : kb s x = some o) : ∃ c, rnd kb (.inl s) x = some (c, o) ∧ (c = true ∧ (∃ s', o = .inl s') ∨ c = false ∧ ∃ r, o = .inr r) := by
 cases o with
 | inl s' => exact ⟨true, by simp only [rnd, h], .inl ⟨rfl, s', rfl⟩⟩
 | inr r => exact ⟨false, by simp only [rnd, h], .inr ⟨rfl, r, rfl⟩⟩
theorem ztS {σ ρ : Type} (kb : σ → (List UInt8 × Int) → Option (σ ⊕ ρ)) {k : Int} (hk : kNum k = true) (b : List UInt8) : ∀ (s : σ) (o : σ ⊕ ρ), go9 kb (pcs k b).1 (pcs k b).2 s = some o →
  ∃ q, zbm (rnd kb) (wid9 k) b (.inl s) = some q ∧ (q = .inl o ∨ q = .inr o) := by
 refine zjf k (fun b => ∀ (s : σ) (o : σ ⊕ ρ), go9 kb (pcs k b).1 (pcs k b).2 s = some o →
  ∃ q, zbm (rnd kb) (wid9 k) b (.inl s) = some q ∧ (q = .inl o ∨ q = .inr o)) ?_ ?_ ?_ b
 ·intro s o h
  rw [zjg] at h
  have h' : some (.inl s) = some o := h
  refine ⟨.inl o, zcl ?_, .inl rfl⟩
  unfold zaf
  rw [itF (by rfl), ← Option.some.inj h']
 ·intro l c hl hu hc s o h
  rw [zje hl hu] at h
  have h' : kb s ([], c) = some o := by
   have h2 : (if c = 0 then some (.inl s) else kb s ([], c)) = some o := h
   rwa [if_neg (by omega)] at h2
  obtain ⟨t, ht, _⟩ := zog h'
  refine ⟨.inr o, zcl ?_, .inr rfl⟩
  have hp := List.length_pos_iff.2 hl
  unfold zaf
  rw [itT (by simp; omega), zlu hk, sb, hu]
  simp only
  rw [zep (i := 0) (j := 0) (a := 0) (b := 0) rfl rfl (Nat.le_refl _) (Nat.zero_le _), sb]
  simp only [List.drop_zero, Nat.sub_self, List.take_zero]
  rw [ht, sb, itT (by simp; omega)]
 ·intro l n hl hu g1 g2 g3 ih s o h
  rw [zhw hl hu] at h
  have hp := List.length_pos_iff.2 hl
  have hbody : ∀ {t : Bool} {y : σ ⊕ ρ}, rnd kb (.inl s) (l.take n, 0) = some (t, y) → zaf (rnd kb) (wid9 k) l (.inl s) = (if t then some (.inl (l.drop n, y)) else some (.inr (.inr y))) := by
   intro t y ht
   unfold zaf
   rw [itT (by simp; omega), zlu hk, sb, hu]
   simp only
   rw [zep (i := 0) (j := (n : Int)) (a := 0) (b := n) rfl rfl (Nat.zero_le _) g2, sb]
   simp only [List.drop_zero, Nat.sub_zero]
   rw [ht, sb]
   cases t with
   | false => rw [itT (by rfl)]; rfl
   | true => rw [itF (by rfl), zhf (a := n) rfl rfl g2, sb]; rfl
  simp only [go9] at h
  cases hb : kb s (l.take n, 0) with
  | none => rw [hb] at h; cases h
  | some z =>
   rw [hb] at h
   obtain ⟨t, ht, hcase⟩ := zog hb
   have hB := hbody ht
   rcases hcase with ⟨rfl, s', rfl⟩ | ⟨rfl, r, rfl⟩
   ·obtain ⟨q, hq, hq'⟩ := ih s' o h
    exact ⟨q, by rw [zgr hB]; exact hq, hq'⟩
   ·have h' : some (.inr r) = some o := h
    exact ⟨.inr (.inr r), zcl hB, .inr (by rw [Option.some.inj h'])⟩
theorem zsz {σ ρ : Type} (kb : σ → (List UInt8 × Int) → Option (σ ⊕ ρ)) (k : Int) (b : List UInt8) {s : σ} {o : σ ⊕ ρ} (h : go9 kb (zgb k b).1 (zgb k b).2 s = some o) : zbG k b (rnd kb) (.inl s) = some o := by
 unfold zbG
 rw [zpF, sb]
 unfold zgb at h
 cases hk : kNum k with
 | false =>
  rw [hk, if_pos rfl] at h
  have h' : kb s ([], 2) = some o := h
  obtain ⟨t, ht, _⟩ := zog h'
  rw [zrF hk, itT (by rfl), ht, sb]
 | true =>
  rw [hk, if_neg (by simp)] at h
  have hw := zsA hk
  obtain ⟨q, hq, hq'⟩ := ztS kb hk b s o h
  rw [itF hw, hq, sb]
  rcases hq' with rfl | rfl <;> rfl
theorem zop (k : Int) (b : List UInt8) : (zgb k b).2 = (zcm k b).2 ∧ ((zcm k b).2 = 0 → (zgb k b).1 = (pcs k b).1) ∧ (∀ p ∈ (zgb k b).1, zmH (zcS k) p = true ∧ 1 ≤ p.length ∧ p.length ≤ 10) ∧ (zgb k b).1.length ≤ b.length ∧ ((zgb k b).1 = [] ∨ kNum k = true) := by
 unfold zgb zcm
 by_cases hn : kNum k = false
 ·rw [if_pos hn, if_pos hn]; exact ⟨rfl, fun h => by simp at h, (fun p hp => by cases hp), Nat.zero_le _, .inl rfl⟩
 ·have hk : kNum k = true := by simpa using hn
  rw [if_neg hn, if_neg hn]
  refine ⟨?_, fun _ => rfl, zrd hk b, zsp k b, .inr hk⟩
  by_cases h0 : (pcs k b).2 = 0
  ·rw [if_pos h0]; exact h0
  ·rw [if_neg h0]
theorem zmB (c : Int) : ∀ (ps : List (List UInt8)) (n : Nat), n + ps.length ≤ 1048576 →
  go9 (fun (s : Int) (x : List UInt8 × Int) => zbq s x.1 x.2) ps c (n : Int) = some (if c = 0 then .inl ((n + ps.length : Nat) : Int) else .inr (c, ((n + ps.length : Nat) : Int)))
 | [], n, hl => by
  simp only [go9, List.length_nil, Nat.add_zero]
  by_cases h0 : c = 0
  ·rw [if_pos h0, if_pos h0]
  ·rw [if_neg h0, if_neg h0]; unfold zbq; rw [itT (by simpa using h0)]
 | p :: ps, n, hl => by
  simp only [List.length_cons] at hl
  have h1 : zbq (n : Int) p 0 = some (.inl ((n + 1 : Nat) : Int)) := by
   unfold zbq
   rw [itF (by rfl), zX (by omega)]; rfl
  simp only [go9, h1]
  rw [zmB c ps (n + 1) (by omega)]
  simp only [List.length_cons]
  rw [Nat.add_right_comm, Nat.add_assoc]
theorem zpA (k : Int) {b : List UInt8} (hb : b.length ≤ 1048576) : zeJ k b = some (((zcm k b).1.length : Int), (zcm k b).2) := by
 obtain ⟨h1, h2, h3, h4, h5⟩ := zop k b
 unfold zeJ zfl
 rw [sb]
 simp only
 have hgo := zmB (zgb k b).2 (zgb k b).1 0 (by omega)
 rw [zsz (s := (0 : Int)) _ k b hgo, sb, h1]
 by_cases h0 : (zcm k b).2 = 0
 ·rw [if_pos h0, h2 h0]
  simp only
  rw [(znv h0).2.2, h0]
  simp
 ·rw [if_neg h0]
  simp only
  rw [(zot h0).1]
  rfl
end Go.Proofs.Ytnfembipjdohcaa
namespace Go.Proofs.Ytnfembipjdohcaa
open Go
set_option linter.unusedVariables false
abbrev PVw := zb
def prV (v : Vw) : PVw := ⟨v.R, v.Field, v.Run⟩
end Go.Proofs.Ytnfembipjdohcaa
namespace Go.Proofs.Ytnfembipjdohcaa
open Go
theorem zly (t : zY) : zeO t = some (zcx t.Number t.Wire) := by
 have e : zcq t.Wire = some (decide (t.Wire = 0 ∨ t.Wire = 1 ∨ t.Wire = 2 ∨ t.Wire = 5)) := by
  unfold zcq
  by_cases h0 : t.Wire = 0
  ·simp [h0]
  by_cases h1 : t.Wire = 1
  ·simp [h1]
  by_cases h2 : t.Wire = 2
  ·simp [h2]
  by_cases h5 : t.Wire = 5
  ·simp [h5]
  simp [h0, h1, h2, h5]
 unfold zeO zcx
 rw [e]
 by_cases h1 : 1 ≤ t.Number
 ·by_cases h2 : t.Number ≤ 536870911
  ·rw [itT (by simpa using h1), itT (by simpa using h2), sb, sb]; simp [h1, h2]
  ·rw [itT (by simpa using h1), itF (by simpa using h2), sb]; simp [h2]
 ·rw [itF (by simpa using h1), sb]; simp [h1]
theorem ztA (w : Nat) (h : w < 18446744073709551616) : andI .u64 (w : Int) 7 = ((w % 8 : Nat) : Int) := by
 have e := zmu (k := .u64) rfl (a := w) (b := 7) (by simpa [IntKind.bits] using h) (by simp [IntKind.bits])
 have e2 : w &&& 7 = w % 8 := Nat.and_two_pow_sub_one_eq_mod w 3
 rw [e2] at e; exact e
theorem ztL (w : Nat) : shrI .u64 (w : Int) 3 = ((w / 8 : Nat) : Int) := zkq (k := .u64) (a := w) (b := 3) (by simp [IntKind.bits])
theorem zry (b : List UInt8) : zfW b = some ((⟨(tg b).1, (tg b).2.1⟩ : zY), (tg b).2.2.1, (tg b).2.2.2) := by
 obtain ⟨h1, h2, h3, h4, h5, h6, h7⟩ := zeF b
 unfold zfW tg
 rw [zmf, sb]
 by_cases h : (rd b).2.2 = 0
 ·rw [itF (by simpa using h)]
  obtain ⟨w, hw⟩ : ∃ w : Nat, (rd b).1 = w := ⟨(rd b).1.toNat, by omega⟩
  rw [hw] at h2 ⊢
  rw [ztL, ztA w (by omega)]
  have e0 : IntKind.i64.wrap ((w % 8 : Nat) : Int) = (w : Int) % 8 := by rw [zX (by omega)]; omega
  by_cases hg : 4294967295 < w
  ·have e1 : IntKind.i64.wrap (if (536870912 : Int) < ((w / 8 : Nat) : Int) then 536870912 else ((w / 8 : Nat) : Int)) = 536870912 := by
    split
    ·rfl
    ·rw [zX (by omega)]; omega
   rw [e0, e1, zly, sb]
   have e2 : zcx 536870912 ((w : Int) % 8) = false := by simp [zcx]
   simp only [e2]
   rw [itT (by rfl), zkv h (.inl (by rw [hw]; omega))]
  ·have e1 : IntKind.i64.wrap (if (536870912 : Int) < ((w / 8 : Nat) : Int) then 536870912 else ((w / 8 : Nat) : Int)) = (w : Int) / 8 := by
    rw [if_neg (by omega), zX (by omega)]; omega
   rw [e0, e1, zly, sb]
   simp only
   cases ht : zcx ((w : Int) / 8) ((w : Int) % 8)
   ·rw [itT (by rfl), zkv h (.inr (by rw [hw]; exact ht))]
   ·rw [itF (by rfl), zrw h (by rw [hw, ht]; simp; omega), hw]
 ·rw [itT (by simpa using h), zpa h]
end Go.Proofs.Ytnfembipjdohcaa
namespace Go.Proofs.Ytnfembipjdohcaa
open Go
theorem zsx {w : Int} {b : List UInt8} (hw : w = 0 ∨ w = 1 ∨ w = 2 ∨ w = 5) (hb : b.length ≤ 1048576) :
  zds w b = some (match zdP w 0 b with | .inl c => (0, (if w = 0 then (rd b).2.1 else 0), c) | .inr (a, t) => ((a : Int), (t : Int), 0)) := by
 obtain ⟨h1, h2, h3, h4, h5, h6, h7⟩ := zeF b
 unfold zds zdP
 rcases hw with rfl | rfl | rfl | rfl
 ·rw [itT (by rfl), zoX, sb, if_pos rfl]
  by_cases h : (rd b).2.2 = 0
  ·rw [if_neg (by simpa using h)]
   simp only [h, Nat.zero_add]
   congr 3
   simp; omega
  ·rw [if_pos h]; rfl
 ·rw [itF (by rfl), itT (by rfl), sb, itF (by rfl), if_neg (show ¬ ((1 : Int) = 0) by omega), if_neg (show ¬ ((1 : Int) = 2) by omega)]
  simp only
  have e : IntKind.u64.wrap (IntKind.i64.wrap ((b.length : Int) - 0)) = (b.length : Int) := by rw [zX (by omega), zge]; omega
  rw [e]
  by_cases g : b.length < 8
  ·rw [itT (by simp; omega), if_pos (by simpa using g)]; rfl
  ·rw [itF (by simp; omega), if_neg (by simpa using g)]; rfl
 ·rw [itF (by rfl), itF (by rfl), itF (by rfl), itT (by rfl), zmf, sb, sb, if_neg (show ¬ ((2 : Int) = 0) by omega), if_pos (show (2 : Int) = 2 from rfl)]
  by_cases h : (rd b).2.2 = 0
  ·have hk := h7 h
   rw [itF (by simpa using h), if_neg (show ¬ ((rd b).2.2 ≠ 0) from fun g => g h)]
   simp only
   have e : IntKind.u64.wrap (IntKind.i64.wrap ((b.length : Int) - (rd b).2.1)) = (b.length : Int) - (rd b).2.1 := by rw [zX (by omega), zge]; omega
   rw [e]
   by_cases g : (b.length : Int) - (rd b).2.1 < (rd b).1
   ·rw [itT (by simpa using g), if_pos g]; rfl
   ·rw [itF (by simpa using g), if_neg g, zX (x := (rd b).1) (by omega), zX (by omega)]
    simp; omega
  ·rw [itT (by simpa using h), if_pos h]; rfl
 ·rw [itF (by rfl), itF (by rfl), itT (by rfl), sb, itF (by rfl), if_neg (show ¬ ((5 : Int) = 0) by omega), if_neg (show ¬ ((5 : Int) = 2) by omega)]
  simp only
  have e : IntKind.u64.wrap (IntKind.i64.wrap ((b.length : Int) - 0)) = (b.length : Int) := by rw [zX (by omega), zge]; omega
  rw [e]
  by_cases g : b.length < 4
  ·rw [itT (by simp; omega), if_pos (by simpa using g)]; rfl
  ·rw [itF (by simp; omega), if_neg (by simpa using g)]; rfl
theorem zmx (w : Int) (k : Nat) (m : List UInt8) : zdP w k m = match zdP w 0 m with | .inl c => .inl c | .inr (a, t) => .inr (k + a, k + t) := by
 unfold zdP
 repeat' split
 all_goals first
  | rfl
  | (rename_i h1 h2; injection h2 with h3; injection h3 with h4 h5; subst h4 h5; simp <;> omega)
  | simp_all <;> omega
theorem zoQ {b : List UInt8} (hb : b.length ≤ 1048576) (at5 : Int) : zcC b at5 = some (zcT b at5) := by
 unfold zcC zcT
 by_cases h : at5 < 0 ∨ at5 ≥ b.length
 ·rw [itT (by simpa using h), if_pos h]; rfl
 ·rw [itF (by simpa using h), if_neg h]
  obtain ⟨p, rfl⟩ : ∃ p : Nat, at5 = p := ⟨at5.toNat, by omega⟩
  rw [zhf rfl rfl (by omega), sb, zry, sb, Int.toNat_natCast]
  have hdl : (b.drop p).length = b.length - p := by simp
  rcases zno (b.drop p) with ⟨c, ht, hc⟩ | ⟨n, w, k, ht, hr, k1, k2, k3, hrd⟩
  ·have e : rec5 (b.drop p) = .inl c := by unfold rec5; rw [ht, if_pos (by simp only; omega)]
   rw [e, ht, itT (by simp; omega)]; rfl
  ·obtain ⟨k, rfl⟩ : ∃ j : Nat, k = j := ⟨k.toNat, by omega⟩
   have e : rec5 (b.drop p) = match zdP w k ((b.drop p).drop k) with
    | .inl c => .inl c
    | .inr p => .inr (n, w, p.1, p.2) := by unfold rec5; rw [ht]; simp <;> rfl
   have hdd : (b.drop p).drop k = b.drop (p + k) := by rw [List.drop_drop]
   have hml : (b.drop (p + k)).length = b.length - (p + k) := by simp
   have ew : IntKind.i64.wrap ((p : Int) + k) = ((p + k : Nat) : Int) := by rw [zX (by omega)]; push_cast; rfl
   rw [e, ht, itF (by simp), hdd]
   simp only [ew]
   rw [zhf rfl rfl (by omega), sb, zsx (zol.1 hr).2.2 (by omega), sb, zmx w k]
   rcases ziu w 0 (b.drop (p + k)) with ⟨c, hc, hc2⟩ | ⟨a, t, hc, _, _, hle, _⟩
   ·rw [hc]
    simp only
    rw [itT (by simp; omega)]; rfl
   ·rw [hc]
    simp only
    rw [itF (by rfl), zX (by omega), zX (by omega)]
    simp only [Option.some.injEq, Prod.mk.injEq, zo.mk.injEq, true_and, and_true]
    push_cast
    omega
end Go.Proofs.Ytnfembipjdohcaa
namespace Go.Proofs.Ytnfembipjdohcaa
open Go
set_option linter.unusedVariables false
abbrev Head := zz
abbrev Role := zE
def rol (m : Mes) (h : Head) : Role := match vw m h.number h.wire with
 | .inl c => ⟨0, false, c⟩
 | .inr (i, run) => ⟨i, run, 0⟩
theorem zpR {m : Mes} (hm : m.Fields.length ≤ 1152921504606846976) (n : Int) : zef m n = some (fldI m n) := by
 unfold zef zJ
 have h := zkY (fun f : Fld => f.Number == n) m.Fields (fun i => zy m.Fields n i) (zae (by unfold zu; rw [itF (by simp)])) (fun i hi => by
  by_cases hp : (m.Fields[i].Number == n) = true
  ·rw [if_pos hp]; exact zae (by unfold zu zcP; rw [itT (by simp; omega), zbk rfl hi, sb, sb, itT hp])
  ·rw [if_neg hp]; exact zaK (by unfold zu zcP; rw [itT (by simp; omega), zbk rfl hi, sb, sb, itF (eq_false_of_ne_true hp), zX (by omega)]; rfl)) m.Fields.length 0 (by omega) (fun j _ h => by omega)
 have h' : zy m.Fields n 0 = _ := h
 rw [h', sb]
 unfold fldI zeY
 cases m.Fields.findIdx? (fun f : Fld => f.Number == n) with
 | none => rfl
 | some i => rfl
theorem zpS (f : Fld) (w : Int) : zeg f w = some (decide (f.Repeated = true ∧ kNum f.Kind = true ∧ w = 2)) := by
 unfold zeg
 cases f.Repeated
 ·simp [sb]
 ·by_cases hw : w = 2
  ·subst hw
   rw [itT rfl, itT (c := (2 : Int) == 2) rfl, zjM, sb, sb]
   cases kNum f.Kind <;> rfl
  ·rw [itT rfl, itF (by simpa using hw), sb]
   simp [hw]
theorem zrC (k w : Int) : zeV k w = some (decide (¬ (zbO k = false ∨ zcS k ≠ w))) := by
 unfold zeV
 rw [zmX, sb]
 cases zbO k with
 | false => rfl
 | true =>
  by_cases h : zcS k = w <;> simp [h]
theorem zoq {m : Mes} (hm : m.Fields.length ≤ 1152921504606846976) (h : Head) : zcG m h = some (rol m h) := by
 unfold zcG rol
 rw [zpR hm, sb]
 unfold vw
 rcases zjE m h.number with ⟨hf, _⟩ | ⟨i, hi, hf, _⟩
 ·rw [hf, itT (by rfl), if_pos (by decide)]
 ·rw [hf, itF (by simp), if_neg (by omega), zbk rfl hi, sb, zjD hi, zpS, sb]
  by_cases h1 : (m.Fields[i]).Repeated = true ∧ kNum (m.Fields[i]).Kind = true ∧ h.wire = 2
  ·rw [if_pos h1, decide_eq_true h1]
   rfl
  ·rw [if_neg h1, decide_eq_false h1, itT (by rfl), zrC, sb, sb]
   by_cases h2 : zbO (m.Fields[i]).Kind = false ∨ zcS (m.Fields[i]).Kind ≠ h.wire
   ·rw [if_pos h2, itT (by rw [decide_eq_false (fun g => g h2)]; rfl)]
   ·rw [if_neg h2, itF (by rw [decide_eq_true h2]; rfl)]
def zhb (m : Mes) (met : List (Head × Role)) : Prop := ∀ h x, mget met h = some x → x = rol m h
theorem zhb.nil (m : Mes) : zhb m [] := fun h x g => by cases g
theorem zhb.put {m : Mes} {met : List (Head × Role)} (g : zhb m met) (h : Head) : zhb m (mput met h (rol m h)) := fun j x hx => by
 rw [zgi] at hx
 by_cases e : j = h
 ·rw [if_pos e] at hx; rw [e]; exact (Option.some.inj hx).symm
 ·rw [if_neg e] at hx; exact g j x hx
theorem zqW {m : Mes} (hm : m.Fields.length ≤ 1152921504606846976) {b : List UInt8} (hb : b.length ≤ 1048576) (p : Int) {met : List (Head × Role)} (g : zhb m met) :
  ∃ met', zeW m b p met = some (prV (zcL m b p).1, (zcL m b p).2, met') ∧ zhb m met' := by
 unfold zeW zcL
 rw [zoQ hb, sb]
 by_cases h : (zcT b p).2 = 0
 ·rw [itF (by simpa using h), if_neg (show ¬ ((zcT b p).2 ≠ 0) from fun q => q h)]
  generalize (zcT b p).1 = r
  have key : ∃ met', (if (!(mget met (⟨r.Number, r.Wire⟩ : Head)).isSome) then (zcG m (⟨r.Number, r.Wire⟩ : Head) >>= fun rv2 => some ((mput met (⟨r.Number, r.Wire⟩ : Head) rv2), rv2.field, rv2.run, rv2.e))
    else some (met, ((mget met (⟨r.Number, r.Wire⟩ : Head)).getD (⟨0, false, 0⟩ : Role)).field, ((mget met (⟨r.Number, r.Wire⟩ : Head)).getD (⟨0, false, 0⟩ : Role)).run, ((mget met (⟨r.Number, r.Wire⟩ : Head)).getD (⟨0, false, 0⟩ : Role)).e)) = some (met', (rol m ⟨r.Number, r.Wire⟩).field, (rol m ⟨r.Number, r.Wire⟩).run, (rol m ⟨r.Number, r.Wire⟩).e) ∧ zhb m met' := by
   cases hg : mget met (⟨r.Number, r.Wire⟩ : Head) with
   | none =>
    rw [itT (by rfl), zoq hm, sb]
    exact ⟨_, rfl, g.put _⟩
   | some x =>
    rw [itF (by rfl)]
    refine ⟨met, ?_, g⟩
    rw [← g _ x hg]
    rfl
  obtain ⟨met', hk, hM⟩ := key
  refine ⟨met', ?_, hM⟩
  rw [hk, sb]
  unfold rol
  rcases zgd m r.Number r.Wire with hv | ⟨hv, _⟩ | ⟨i, run, hv, _⟩
  ·simp only [hv]; rfl
  ·simp only [hv]; rfl
  ·simp only [hv]; rfl
 ·rw [itT (by simpa using h), if_pos h]
  exact ⟨met, rfl, g⟩
theorem zrD {m : Mes} (hm : m.Fields.length ≤ 1152921504606846976) {b : List UInt8} (hb : b.length ≤ 1048576) (p : Int) : zeU m b p = some (prV (zcL m b p).1, (zcL m b p).2) := by
 obtain ⟨met', h, _⟩ := zqW hm hb p (zhb.nil m)
 unfold zeU
 rw [h, sb]
end Go.Proofs.Ytnfembipjdohcaa
namespace Go.Proofs.Ytnfembipjdohcaa
open Go
set_option linter.unusedVariables false
def zfs (m : Mes) (g : Int → List UInt8 → Nat) (b : List UInt8) (r : Rec) : Nat := match vw m r.Number r.Wire with
 | .inl _ => 0
 | .inr (i, run) => if i < 0 ∨ run = true then 0 else if (zba m i).Kind = 17 then g (zba m i).Of (valB b r) + 1 else 0
def zej (m : Mes) (g : Int → List UInt8 → Nat) (b : List UInt8) : List Rec → Nat
 | [] => 0
 | r :: l => max (zfs m g b r) (zej m g b l)
def zcv (s : List Mes) : Nat → Int → List UInt8 → Nat
 | 0, k, b => zej (zT s k) (fun _ _ => 0) b (spl 0 b).1
 | d + 1, k, b => zej (zT s k) (zcv s d) b (spl 0 b).1
theorem zhl {m : Mes} {g : Int → List UInt8 → Nat} {b : List UInt8} {e : Nat} : ∀ {l : List Rec}, zej m g b l ≤ e ↔ ∀ r ∈ l, zfs m g b r ≤ e
 | [] => by simp [zej]
 | r :: l => by
  have ih := zhl (m := m) (g := g) (b := b) (e := e) (l := l)
  unfold zej
  rw [List.forall_mem_cons, ← ih]; omega
theorem zgo {m : Mes} {a c : zdO} {g : Int → List UInt8 → Nat} {b : List UInt8} {r : Rec} {e : Nat} (h : zaM m a b r = none) (hc0 : c = none ↔ e = 0)
  (hc : ∀ q, a = some q → ∀ q', c = some q' → ∀ k v, q k v = none → (q' k v = none ↔ g k v + 1 ≤ e)) : zaM m c b r = none ↔ zfs m g b r ≤ e := by
 unfold zaM at h ⊢
 unfold zfs
 cases hv : vw m r.Number r.Wire with
 | inl x => rw [hv] at h; cases h
 | inr p =>
  obtain ⟨i, run⟩ := p
  rw [hv] at h
  simp only at h ⊢
  by_cases hi : i < 0
  ·rw [if_pos hi, if_pos (.inl hi)]; simp
  ·rw [if_neg hi] at h ⊢
   unfold zfc at h ⊢
   by_cases hr : run = true
   ·rw [if_pos hr] at h
    rw [if_pos hr, if_pos (show i < 0 ∨ run = true from .inr hr)]
    exact ⟨fun _ => Nat.zero_le _, fun _ => h⟩
   ·rw [if_neg hr] at h ⊢
    rw [if_neg (show ¬ (i < 0 ∨ run = true) from fun q => q.elim hi hr)]
    by_cases h15 : (zba m i).Kind = 15 ∧ zdY (valB b r) = false
    ·rw [if_pos h15] at h; cases h
    ·rw [if_neg h15] at h ⊢
     by_cases h17 : (zba m i).Kind = 17
     ·rw [if_pos h17] at h ⊢
      rw [if_pos h17]
      cases a with
      | none => cases h
      | some q =>
       simp only at h
       cases hq : q (zba m i).Of (valB b r) with
       | some z => rw [hq] at h; cases h
       | none =>
        cases c with
        | none =>
         have := hc0.1 rfl
         simp only
         exact ⟨(fun hh => nomatch hh), (fun hh => by omega)⟩
        | some q' =>
         have := hc q rfl q' rfl _ _ hq
         simp only
         rw [← this]
         cases q' (zba m i).Of (valB b r) <;> simp
     ·rw [if_neg h17, if_neg h17]; simp
theorem zhg (s : List Mes) : ∀ (d e : Nat) (k : Int) (b : List UInt8), e ≤ d → zR s d k b = none → (zR s e k b = none ↔ zcv s d k b ≤ e)
 | 0, e, k, b, he, h => by
  have : e = 0 := by omega
  subst this
  refine ⟨fun _ => zhl.2 (fun r hr => ?_), fun _ => h⟩
  have h' := (zbl.1 h).1 r hr
  exact (zgo (a := none) (c := none) h' (by simp) (fun q hq q' hq' => nomatch hq')).1 h'
 | d + 1, 0, k, b, he, h => by
  have h' : zap (zT s k) (some (zR s d)) b (spl 0 b) = none := h
  rw [zbl] at h'
  show zap (zT s k) none b (spl 0 b) = none ↔ zej _ _ _ _ ≤ 0
  rw [zbl, zhl]
  constructor
  ·intro hh r hr
   exact (zgo (a := some (zR s d)) (c := none) (h'.1 r hr) (by simp) (fun q hq q' hq' => nomatch hq')).1 (hh.1 r hr)
  ·intro hh
   exact ⟨fun r hr => (zgo (a := some (zR s d)) (c := none) (h'.1 r hr) (by simp) (fun q hq q' hq' => nomatch hq')).2 (hh r hr), h'.2⟩
 | d + 1, e + 1, k, b, he, h => by
  have h' : zap (zT s k) (some (zR s d)) b (spl 0 b) = none := h
  rw [zbl] at h'
  show zap (zT s k) (some (zR s e)) b (spl 0 b) = none ↔ zej _ _ _ _ ≤ e + 1
  rw [zbl, zhl]
  have key : ∀ r ∈ (spl 0 b).1, zaM (zT s k) (some (zR s e)) b r = none ↔ zfs (zT s k) (zcv s d) b r ≤ e + 1 := fun r hr =>
   zgo (a := some (zR s d)) (h'.1 r hr) (by simp) (fun q hq q' hq' k v hk => by
    cases hq; cases hq'
    have := zhg s d e k v (by omega) hk
    rw [this]; omega)
  exact ⟨fun hh r hr => (key r hr).1 (hh.1 r hr), fun hh => ⟨fun r hr => (key r hr).2 (hh r hr), h'.2⟩⟩
theorem znJ {s : List Mes} {root : Int} {b : List UInt8} (h : is11 s root b 64 = true) : zax s root b = zcv s 64 root b := by
 obtain ⟨ha, hf⟩ := zaS.1 h
 have hf' : zR s 64 root b = none := hf
 have l1 := zcZ (s := s) (root := root) (b := b)
 have l2 := (zhg s 64 64 root b (Nat.le_refl _) hf').1 hf'
 have iff : ∀ e : Nat, e ≤ 64 → (is11 s root b (e : Nat) = true ↔ zcv s 64 root b ≤ e) := fun e he => by
  rw [zaS, Int.toNat_natCast, ← zhg s 64 e root b he hf']
  exact ⟨fun h => h.2, fun h => ⟨zgG ha (by omega), h⟩⟩
 have k1 := (iff _ l1).1 ((zbT h l1).2 (Nat.le_refl _))
 have k2 := (zbT h l2).1 ((iff _ l2).2 (Nat.le_refl _))
 omega
abbrev zcV := zf
def zbQ (s : List Mes) (met : List (zcV × PVw)) : Prop := ∀ h x, mget met h = some x → vw (zT s h.message) h.number h.wire = .inr (x.Field, x.Run)
theorem zbQ.nil (s : List Mes) : zbQ s [] := fun h x g => by cases g
theorem zbQ.put {s : List Mes} {met : List (zcV × PVw)} (g : zbQ s met) {h : zcV} {v : PVw} (hv : vw (zT s h.message) h.number h.wire = .inr (v.Field, v.Run)) : zbQ s (mput met h v) := fun j x hx => by
 rw [zgi] at hx
 by_cases e : j = h
 ·rw [if_pos e] at hx; cases hx; rw [e]; exact hv
 ·rw [if_neg e] at hx; exact g j x hx
theorem znu {s : List Mes} {k : Nat} (hk : k < s.length) (hm : (zT s k).Fields.length ≤ 1152921504606846976) {b : List UInt8} (hb : b.length ≤ 1048576) (p : Int) {t : Nat} (ht : t ≤ b.length) {met : List (zcV × PVw)} (g : zbQ s met) :
  ∃ met', zbL ⟨s, b, met⟩ k p t = some (prV (zcL (zT s k) (b.take t) p).1, (zcL (zT s k) (b.take t) p).2, met') ∧ zbQ s met' := by
 have hbt : (b.take t).length ≤ 1048576 := by rw [List.length_take]; omega
 have hcut : cut b 0 (t : Int) = some (b.take t) := by
  rw [zep (i := 0) (j := t) rfl rfl (Nat.zero_le _) ht]; simp
 have hidx : idx s (k : Int) = some (zT s k) := by rw [zbk rfl hk, zhs hk]
 have hvl := zrD hm hbt p
 unfold zbL
 simp only
 rw [hcut, sb, zoQ hbt, sb]
 unfold zcL at hvl ⊢
 by_cases h : (zcT (b.take t) p).2 = 0
 ·rw [itF (by simpa using h), if_neg (show ¬ ((zcT (b.take t) p).2 ≠ 0) from fun q => q h)]
  rw [if_neg (show ¬ ((zcT (b.take t) p).2 ≠ 0) from fun q => q h)] at hvl
  generalize (zcT (b.take t) p).1 = r at hvl ⊢
  cases hg : mget met (⟨(k : Int), r.Number, r.Wire⟩ : zcV) with
  | none =>
   rw [itT (by rfl), hidx, sb, hvl, sb]
   cases hv : vw (zT s k) r.Number r.Wire with
   | inl c =>
    have hc : c = 6 := by
     rcases zgd (zT s k) r.Number r.Wire with h' | ⟨h', _⟩ | ⟨_, _, h', _⟩ <;> rw [hv] at h' <;> cases h'
     rfl
    subst hc
    exact ⟨met, by rw [itT (by rfl)]; rfl, g⟩
   | inr q =>
    obtain ⟨i, run⟩ := q
    refine ⟨_, ?_, g.put (h := ⟨(k : Int), r.Number, r.Wire⟩) (v := prV ⟨r, i, run⟩) hv⟩
    rw [itF (by rfl)]
    rfl
  | some x =>
   have hv := g _ _ hg
   simp only at hv
   rw [itF (by rfl), hv]
   exact ⟨met, rfl, g⟩
 ·rw [itT (by simpa using h), if_pos h]
  exact ⟨met, rfl, g⟩
def zfE (f : Fld) (run : Bool) (v : List UInt8) : Int := if run = true then (zgw f.Kind v).2 else if f.Kind = 15 ∧ zdY v = false then 7 else if f.Kind = 17 then 8 else 0
theorem zpQ (f : Fld) (run : Bool) {v : List UInt8} (hv : v.length ≤ 1048576) : zdy f run v = some (zfE f run v) := by
 unfold zdy zfE
 cases run
 ·rw [itF (c := false) rfl, if_neg (show ¬ (false = true) by simp)]
  have e15 : (if (f.Kind == 15) = true then (zdN v >>= fun rv2 => some (!rv2)) else some false) = some (decide (f.Kind = 15 ∧ zdY v = false)) := by
   rw [zpO (by omega), sb]
   by_cases h15 : f.Kind = 15
   ·rw [itT (by simpa using h15)]; cases zdY v <;> simp [h15]
   ·rw [itF (by simpa using h15)]; simp [h15]
  rw [e15, sb]
  by_cases h15 : f.Kind = 15 ∧ zdY v = false
  ·rw [itT (decide_eq_true h15), if_pos h15]
  ·rw [itF (decide_eq_false h15), if_neg h15]
   by_cases h17 : f.Kind = 17
   ·rw [itT (by simpa using h17), if_pos h17]
   ·rw [itF (by simpa using h17), if_neg h17]
 ·rw [itT (c := true) rfl, if_pos (show true = true from rfl), zpA _ hv, sb]
  unfold zcm zgw
  split
  ·rfl
  ·split <;> rfl
abbrev Find := zp
def okR (o : Option (Int × Int)) (a dp : Nat) (r : Find) : Prop := match o with
 | none => r = ⟨(dp : Int), 0, 0⟩
 | some (p, c) => r.place = (a : Int) + p ∧ r.e = c
def zku (s : List Mes) : Nat → zdO
 | 0 => none
 | d + 1 => some (zR s d)
def zhO (s : List Mes) : Nat → Int → List UInt8 → Nat
 | 0 => fun _ _ => 0
 | d + 1 => zcv s d
theorem zph (s : List Mes) (d : Nat) (k : Int) (b : List UInt8) : zR s d k b = zap (zT s k) (zku s d) b (spl 0 b) := by cases d <;> rfl
theorem zrS (s : List Mes) (d : Nat) (k : Int) (b : List UInt8) : zcv s d k b = zej (zT s k) (zhO s d) b (spl 0 b).1 := by cases d <;> rfl
theorem zrv (s : List Mes) (d : Nat) : ∀ g, zku s d = some g → zjl g := fun g h => by
 cases d with
 | zero => cases h
 | succ d => cases h; exact zeZ s d
theorem zso (b : List UInt8) (t a x y : Nat) (h : a + y ≤ t) : (((b.take t).drop a).drop x).take (y - x) = (b.take (a + y)).drop (a + x) := by
 rw [List.drop_drop, List.drop_take, List.drop_take, List.take_take]
 congr 1
 omega
theorem zpW {s : List Mes} {k : Nat} (hk : k < s.length) (hm : (zT s k).Fields.length ≤ 1152921504606846976) {b : List UInt8} (hb : b.length ≤ 1048576) {d : Int} {a t : Nat} (hat : a ≤ t) (ht : t ≤ b.length) {sub : zdO} {gd : Int → List UInt8 → Nat}
  (hg : ∀ g, sub = some g → zjl g) {recv : zG → Int → zb → Int → Option (zp × (List (zf × zb)))} {met0 : List (zcV × PVw)}
  (hval : ∀ met, zbQ s met → ∀ (n w i : Int) (run : Bool) (base x y : Nat), vw (zT s k) n w = .inr (i, run) → 1 ≤ x → x ≤ y → a + base + y ≤ t →
   ∃ R met', recv ⟨s, b, met⟩ k ⟨⟨n, w, ((a + base : Nat) : Int), ((a + (base + x) : Nat) : Int), ((a + (base + y) : Nat) : Int)⟩, i, run⟩ d = some (R, met') ∧ zbQ s met' ∧
    okR (zaM (zT s k) sub ((b.take t).drop a) ⟨n, w, base, (base + x : Nat), (base + y : Nat)⟩) a (zfs (zT s k) gd ((b.take t).drop a) ⟨n, w, base, (base + x : Nat), (base + y : Nat)⟩) R)
  (base : Nat) (l : List UInt8) : ∀ (met : List (zcV × PVw)) (dp : Nat), zbQ s met → l = ((b.take t).drop a).drop base → base ≤ t - a →
  ∃ met' D, zbQ s met' ∧ zan d k recv t ⟨s, b, met0⟩ met ((a + base : Nat) : Int) dp = some (match zap (zT s k) sub ((b.take t).drop a) (spl base l) with
   | none => .inl (met', ((max dp (zej (zT s k) gd ((b.take t).drop a) (spl base l).1) : Nat) : Int))
   | some (p, c) => .inr (met', D, (a : Int) + p, c)) := by
 have hvl : ((b.take t).drop a).length = t - a := by simp; omega
 generalize hvv : (b.take t).drop a = v at hval hvl ⊢
 refine zhF (fun base l => ∀ (met : List (zcV × PVw)) (dp : Nat), zbQ s met → l = v.drop base → base ≤ t - a →
  ∃ met' D, zbQ s met' ∧ zan d k recv t ⟨s, b, met0⟩ met ((a + base : Nat) : Int) dp = some (match zap (zT s k) sub v (spl base l) with
   | none => .inl (met', ((max dp (zej (zT s k) gd v (spl base l).1) : Nat) : Int))
   | some (p, c) => .inr (met', D, (a : Int) + p, c))) ?_ ?_ ?_ base l
 ·intro base met dp g hl hbase
  have : v.length ≤ base := by have := congrArg List.length hl; simp at this; omega
  refine ⟨met, 0, g, ?_⟩
  rw [zdl]
  refine zaL ?_
  unfold zH
  rw [itF (by simp; omega)]
  simp [zap, zej]
 ·intro base l c hl h hc met dp g hld hbase
  have hlt : a + base < t := by have := List.length_pos_iff.2 hl; rw [hld] at this; simp at this; omega
  have hdr : (b.take t).drop (a + base) = l := by rw [hld, ← hvv, List.drop_drop]
  have e : zcT (b.take t) ((a + base : Nat) : Int) = (zrec, c) := by unfold zcT; rw [if_neg (by simp; omega), Int.toNat_natCast, hdr, h]
  have e2 : zcL (zT s k) (b.take t) ((a + base : Nat) : Int) = (zvw, c) := by unfold zcL; rw [e, if_pos (by simp only; omega)]
  obtain ⟨met', hlk, g'⟩ := znu hk hm hb ((a + base : Nat) : Int) ht g
  refine ⟨met', 0, g', ?_⟩
  rw [zgn hl h]
  refine zaL ?_
  unfold zH
  simp only
  rw [itT (by simp; omega), hlk, sb, e2, itT (by simp; omega)]
  simp [zap]
 ·intro base l n w x y hl h _ g1 g2 g3 ih met dp g hld hbase
  have hly : base + y ≤ t - a := by rw [hld] at g3; simp at g3; omega
  have hdr : (b.take t).drop (a + base) = l := by rw [hld, ← hvv, List.drop_drop]
  have e : zcT (b.take t) ((a + base : Nat) : Int) = (⟨n, w, ((a + base : Nat) : Int), ((a + (base + x) : Nat) : Int), ((a + (base + y) : Nat) : Int)⟩, 0) := by
   unfold zcT; rw [if_neg (by simp; omega), Int.toNat_natCast, hdr, h]
   have q1 : ((a + base : Nat) : Int) + x = ((a + (base + x) : Nat) : Int) := by omega
   have q2 : ((a + base : Nat) : Int) + y = ((a + (base + y) : Nat) : Int) := by omega
   simp only [q1, q2]
  obtain ⟨met', hlk, g'⟩ := znu hk hm hb ((a + base : Nat) : Int) ht g
  have hfr : zap (zT s k) sub v (spl base l) = match zaM (zT s k) sub v ⟨n, w, base, (base + x : Nat), (base + y : Nat)⟩ with
    | some p => some p
    | none => zap (zT s k) sub v (spl (base + y) (l.drop y)) := by
   unfold zap
   rw [zcp hl h]
   simp only [List.findSome?_cons]
   cases zaM (zT s k) sub v ⟨n, w, base, (base + x : Nat), (base + y : Nat)⟩ <;> rfl
  have hfd : zej (zT s k) gd v (spl base l).1 = max (zfs (zT s k) gd v ⟨n, w, base, (base + x : Nat), (base + y : Nat)⟩) (zej (zT s k) gd v (spl (base + y) (l.drop y)).1) := by
   rw [zcp hl h]; rfl
  cases hv : vw (zT s k) n w with
  | inl c =>
   have hc : c = 6 := by
    rcases zgd (zT s k) n w with h' | ⟨h', _⟩ | ⟨_, _, h', _⟩ <;> rw [hv] at h' <;> cases h'
    rfl
   subst hc
   have e2 : zcL (zT s k) (b.take t) ((a + base : Nat) : Int) = (zvw, 6) := by unfold zcL; rw [e]; simp only [ne_eq, not_true_eq_false, if_false, hv]
   have hst : zaM (zT s k) sub v ⟨n, w, base, (base + x : Nat), (base + y : Nat)⟩ = some ((base : Int), 6) := by unfold zaM; simp only [hv]
   refine ⟨met', 0, g', ?_⟩
   rw [hfr, hst]
   refine zaL ?_
   unfold zH
   simp only
   rw [itT (by simp; omega), hlk, sb, e2, itT (by rfl)]
   simp
  | inr q =>
   obtain ⟨i, run⟩ := q
   have e2 : zcL (zT s k) (b.take t) ((a + base : Nat) : Int) = (⟨⟨n, w, ((a + base : Nat) : Int), ((a + (base + x) : Nat) : Int), ((a + (base + y) : Nat) : Int)⟩, i, run⟩, 0) := by unfold zcL; rw [e]; simp only [ne_eq, not_true_eq_false, if_false, hv]
   obtain ⟨R, met2, hrv, g2', hok⟩ := hval met' g' n w i run base x y hv g1 g2 (by omega)
   have hpr : prV (⟨⟨n, w, ((a + base : Nat) : Int), ((a + (base + x) : Nat) : Int), ((a + (base + y) : Nat) : Int)⟩, i, run⟩ : Vw) = ⟨⟨n, w, ((a + base : Nat) : Int), ((a + (base + x) : Nat) : Int), ((a + (base + y) : Nat) : Int)⟩, i, run⟩ := rfl
   cases hst : zaM (zT s k) sub v ⟨n, w, base, (base + x : Nat), (base + y : Nat)⟩ with
   | some pc =>
    obtain ⟨p, c⟩ := pc
    have hgd := zlv hg g1 g2 (b := v) (base := base) (by omega) hst
    rw [hst] at hok
    obtain ⟨o1, o2⟩ := hok
    refine ⟨met2, R.depth, g2', ?_⟩
    rw [hfr, hst]
    refine zaL ?_
    unfold zH
    simp only
    rw [itT (by simp; omega), hlk, sb, e2, itF (by rfl), hpr, hrv, sb, itT (by rw [o2]; simp; omega), o1, o2]
   | none =>
    rw [hst] at hok
    have hok' : R = ⟨((zfs (zT s k) gd v ⟨n, w, base, (base + x : Nat), (base + y : Nat)⟩ : Nat) : Int), 0, 0⟩ := hok
    obtain ⟨met3, D, g3', h3⟩ := ih met2 (max dp (zfs (zT s k) gd v ⟨n, w, base, (base + x : Nat), (base + y : Nat)⟩)) g2' (by rw [hld, List.drop_drop]) hly
    refine ⟨met3, D, g3', ?_⟩
    rw [hfr, hst, hfd, ← Nat.max_assoc, ← h3]
    refine zeh ?_
    unfold zH
    simp only
    rw [itT (by simp; omega), hlk, sb, e2, itF (by rfl), hpr, hrv, sb, hok', itF (by rfl)]
    simp only [Option.some.injEq, Sum.inl.injEq, Prod.mk.injEq, true_and]
    split <;> omega
theorem zsH {s : List Mes} (hr : zlE s) {k : Nat} (hk : k < s.length) {b : List UInt8} (hb : b.length ≤ 1048576) {d fuel : Nat} (hd : d ≤ 64) {a t : Nat} (ht : t ≤ b.length)
  (ih : ∀ e, d = e + 1 → ∀ (q A T : Nat) (met : List (zcV × PVw)), q < s.length → A ≤ T → T ≤ b.length → zbQ s met →
   ∃ R met', zW fuel ⟨s, b, met⟩ q A T e = some (R, met') ∧ zbQ s met' ∧ okR (zR s e q ((b.take T).drop A)) A (zcv s e q ((b.take T).drop A)) R)
  (met : List (zcV × PVw)) (g : zbQ s met) (n w i : Int) (run : Bool) (base x y : Nat) (hv : vw (zT s k) n w = .inr (i, run)) (h1 : 1 ≤ x) (h2 : x ≤ y) (hy : a + base + y ≤ t) :
  ∃ R met', zaN (fuel + 1) ⟨s, b, met⟩ k ⟨⟨n, w, ((a + base : Nat) : Int), ((a + (base + x) : Nat) : Int), ((a + (base + y) : Nat) : Int)⟩, i, run⟩ d = some (R, met') ∧ zbQ s met' ∧
    okR (zaM (zT s k) (zku s d) ((b.take t).drop a) ⟨n, w, base, (base + x : Nat), (base + y : Nat)⟩) a (zfs (zT s k) (zhO s d) ((b.take t).drop a) ⟨n, w, base, (base + x : Nat), (base + y : Nat)⟩) R := by
 have hidx : idx s (k : Int) = some (zT s k) := by rw [zbk rfl hk, zhs hk]
 have hun : ∀ w' v', zaN (fuel + 1) w' k v' d = zaO (zW fuel) (zaN fuel) w' k v' d := fun _ _ => rfl
 have hvb : valB ((b.take t).drop a) ⟨n, w, base, (base + x : Nat), (base + y : Nat)⟩ = (b.take (a + (base + y))).drop (a + (base + x)) := by
  unfold valB
  simp only [Int.toNat_natCast]
  exact zso b t a (base + x) (base + y) (by omega)
 rcases zgd (zT s k) n w with h' | ⟨h', _⟩ | ⟨j, run', h', _, hi⟩
 ·rw [hv] at h'; cases h'
 ·rw [hv] at h'
  obtain ⟨rfl, rfl⟩ : i = -1 ∧ run = false := by simpa using h'
  refine ⟨⟨0, 0, 0⟩, met, ?_, g, ?_⟩
  ·rw [hun]; unfold zaO; rw [itT (by rfl)]
  ·unfold zaM zfs; simp only [hv]
   rw [if_pos (show ((-1 : Int) < 0) by omega), if_pos (.inl (show ((-1 : Int) < 0) by omega))]; rfl
 ·rw [hv] at h'
  obtain ⟨rfl, rfl⟩ : i = j ∧ run = run' := by simpa using h'
  have hfm : zba (zT s k) (j : Int) ∈ (zT s k).Fields := by rw [zjD hi]; exact List.getElem_mem hi
  have hmem : zT s k ∈ s := by rw [zhs hk]; exact List.getElem_mem hk
  have hrun : run = true → (zba (zT s k) (j : Int)).Kind ≠ 17 := fun hh h17 => by
   subst hh
   have := (zrE hv).1
   rw [h17] at this; cases this
  have hcut : cut b ((a + (base + x) : Nat) : Int) ((a + (base + y) : Nat) : Int) = some ((b.take (a + (base + y))).drop (a + (base + x))) := by
   rw [zep rfl rfl (by omega) (by omega), List.drop_take]
  have hlen : ((b.take (a + (base + y))).drop (a + (base + x))).length ≤ 1048576 := by simp; omega
  unfold zaM zfs
  simp only [hv]
  rw [if_neg (show ¬ ((j : Int) < 0) by omega), hvb]
  have hif : (if ((j : Int) < 0 ∨ run = true) then 0 else if (zba (zT s k) (j : Int)).Kind = 17 then zhO s d (zba (zT s k) (j : Int)).Of ((b.take (a + (base + y))).drop (a + (base + x))) + 1 else 0) = (if (zba (zT s k) (j : Int)).Kind = 17 then zhO s d (zba (zT s k) (j : Int)).Of ((b.take (a + (base + y))).drop (a + (base + x))) + 1 else 0) := by
   cases run with
   | false => rw [if_neg (by simp)]
   | true => rw [if_pos (.inr rfl), if_neg (hrun rfl)]
  rw [hif]
  simp only [hun]
  unfold zaO
  simp only
  rw [itF (show ((j : Int) == -1) = false by simp), hidx, sb, zbk (i := j) rfl hi, sb, ← zjD hi]
  generalize hvv : (b.take (a + (base + y))).drop (a + (base + x)) = v at hlen hcut ⊢
  have hof := (hr.fld _ hmem _ hfm).sub
  generalize zba (zT s k) (j : Int) = f at hfm hrun hof ⊢
  by_cases hs : f.Kind = 17 ∧ 0 < d
  ·obtain ⟨e, rfl⟩ : ∃ e, d = e + 1 := ⟨d - 1, by omega⟩
   have hrf : run = false := by
    cases run with
    | false => rfl
    | true => exact absurd hs.1 (hrun rfl)
   subst hrf
   have hof' := hof hs.1
   obtain ⟨q, hq⟩ : ∃ q : Nat, f.Of = q := ⟨f.Of.toNat, by omega⟩
   obtain ⟨R, met', hR, g', hok⟩ := ih e rfl q (a + (base + x)) (a + (base + y)) met (by omega) (by omega) (by omega) g
   rw [hvv] at hok
   have hw1 : IntKind.i64.wrap (((e + 1 : Nat) : Int) - 1) = (e : Int) := by rw [zX (by omega)]; omega
   refine ⟨⟨IntKind.i64.wrap (R.depth + 1), R.place, R.e⟩, met', ?_, g', ?_⟩
   ·rw [itT (by simp [hs.1]), hw1, hq, hR, sb]
   ·rw [if_pos hs.1]
    unfold zfc
    rw [if_neg (by simp), if_neg (by rw [hs.1]; simp), if_pos hs.1]
    simp only [zku, zhO, hq]
    cases hf : zR s e q v with
    | none =>
     rw [hf] at hok
     have hok' : R = ⟨((zcv s e q v : Nat) : Int), 0, 0⟩ := hok
     have hdl := (zhg s e e q v (Nat.le_refl _) hf).1 hf
     subst hok'
     show (⟨IntKind.i64.wrap (((zcv s e q v : Nat) : Int) + 1), 0, 0⟩ : Find) = _
     rw [zX (by omega)]
     rfl
    | some pc =>
     obtain ⟨p, c⟩ := pc
     rw [hf] at hok
     obtain ⟨o1, o2⟩ := hok
     refine ⟨?_, o2⟩
     simp only
     rw [o1]; push_cast; omega
  ·have hno : ((f.Kind == 17) && decide (((d : Nat) : Int) > 0)) = false := by
    rw [Bool.and_eq_false_iff]
    by_cases h17 : f.Kind = 17
    ·exact .inr (decide_eq_false (by have := fun h => hs ⟨h17, h⟩; omega))
    ·exact .inl (by simpa using h17)
   have hlf : zfc f run (zku s d) ⟨n, w, base, (base + x : Nat), (base + y : Nat)⟩ v = if zfE f run v ≠ 0 then some ((base : Int), zfE f run v) else none := by
    unfold zfc zfE
    by_cases hrt : run = true
    ·rw [if_pos hrt, if_pos hrt]
    ·rw [if_neg hrt, if_neg hrt]
     by_cases h15 : f.Kind = 15 ∧ zdY v = false
     ·rw [if_pos h15, if_pos h15, if_pos (by omega)]
     ·rw [if_neg h15, if_neg h15]
      by_cases h17 : f.Kind = 17
      ·have : d = 0 := by have := fun h => hs ⟨h17, h⟩; omega
       subst this
       rw [if_pos h17, if_pos h17, if_pos (by omega)]; rfl
      ·rw [if_neg h17, if_neg h17, if_neg (by omega)]
   rw [itF hno, hcut, sb, zpQ f run hlen, sb, hlf]
   by_cases h0 : zfE f run v = 0
   ·refine ⟨⟨0, 0, 0⟩, met, by rw [itF (by simpa using h0)], g, ?_⟩
    rw [if_neg (by simpa using h0)]
    have : f.Kind ≠ 17 := fun h17 => by
     have hrf : run = false := by
      cases run with
      | false => rfl
      | true => exact absurd h17 (hrun rfl)
     subst hrf
     unfold zfE at h0
     rw [if_neg (by simp), if_neg (by rw [h17]; simp), if_pos h17] at h0
     omega
    rw [if_neg this]
    rfl
   ·refine ⟨⟨0, ((a + base : Nat) : Int), zfE f run v⟩, met, by rw [itT (by simpa using h0)], g, ?_⟩
    rw [if_pos h0]
    exact ⟨by simp, rfl⟩
theorem zsC {s : List Mes} (hr : zlE s) {b : List UInt8} (hb : b.length ≤ 1048576) : ∀ (d fuel : Nat), d ≤ 64 → 2 * d + 2 ≤ fuel → ∀ (q A T : Nat) (met : List (zcV × PVw)), q < s.length → A ≤ T → T ≤ b.length → zbQ s met →
   ∃ R met', zW fuel ⟨s, b, met⟩ q A T d = some (R, met') ∧ zbQ s met' ∧ okR (zR s d q ((b.take T).drop A)) A (zcv s d q ((b.take T).drop A)) R := by
 have step : ∀ (d fuel : Nat), d ≤ 64 → (∀ e, d = e + 1 → ∀ (q A T : Nat) (met : List (zcV × PVw)), q < s.length → A ≤ T → T ≤ b.length → zbQ s met →
   ∃ R met', zW fuel ⟨s, b, met⟩ q A T e = some (R, met') ∧ zbQ s met' ∧ okR (zR s e q ((b.take T).drop A)) A (zcv s e q ((b.take T).drop A)) R) →
   ∀ (q A T : Nat) (met : List (zcV × PVw)), q < s.length → A ≤ T → T ≤ b.length → zbQ s met →
   ∃ R met', zW (fuel + 2) ⟨s, b, met⟩ q A T d = some (R, met') ∧ zbQ s met' ∧ okR (zR s d q ((b.take T).drop A)) A (zcv s d q ((b.take T).drop A)) R := by
  intro d fuel hd ih q A T met hq hAT hT g
  have hun : ∀ w' k' p' t' d', zW (fuel + 2) w' k' p' t' d' = zaW (zW (fuel + 1)) (zaN (fuel + 1)) w' k' p' t' d' := fun _ _ _ _ _ => rfl
  have hm : (zT s q).Fields.length ≤ 1152921504606846976 := by
   rw [zhs hq]; have := hr.few _ (List.getElem_mem hq); omega
  obtain ⟨met', D, g', hl⟩ := zpW (s := s) hq hm hb (d := (d : Int)) hAT hT (sub := zku s d) (gd := zhO s d) (zrv s d) (recv := zaN (fuel + 1)) (met0 := met)
   (fun met1 g1 n w i run base x y hv h1 h2 hy => zsH hr hq hb hd hT ih met1 g1 n w i run base x y hv h1 h2 hy) 0 _ met 0 g rfl (Nat.zero_le _)
  have hl' : zan d q (zaN (fuel + 1)) T ⟨s, b, met⟩ met (A : Int) 0 = _ := hl
  rw [hun, zph, zrS]
  unfold zaW
  simp only
  rw [List.drop_zero, Nat.zero_max] at hl'
  rw [hl', sb]
  cases hf : zap (zT s q) (zku s d) ((b.take T).drop A) (spl 0 ((b.take T).drop A)) with
  | none => exact ⟨_, _, rfl, g', rfl⟩
  | some pc => exact ⟨_, _, rfl, g', rfl, rfl⟩
 intro d
 induction d with
 | zero =>
  intro fuel hd hf
  obtain ⟨fuel, rfl⟩ : ∃ z, fuel = z + 2 := ⟨fuel - 2, by omega⟩
  exact step 0 fuel hd (fun e he => by omega)
 | succ d ih =>
  intro fuel hd hf
  obtain ⟨fuel, rfl⟩ : ∃ z, fuel = z + 2 := ⟨fuel - 2, by omega⟩
  refine step (d + 1) fuel hd (fun e he => ?_)
  obtain rfl : d = e := by omega
  exact ih fuel (by omega) (by omega)
theorem zrB {s : List Mes} (hw : WS s) (root d : Int) : zec s root d = some (argS s root d) := by
 unfold zec argS
 rw [zrj hw, sb]
 cases h : zio s
 ·rw [itT (c := !false) rfl, if_pos (show false = false from rfl)]
 ·rw [itF (c := !true) rfl, if_neg (show ¬ (true = false) by simp)]
  by_cases h2 : root < 0 ∨ root ≥ s.length ∨ d < 0 ∨ d > 64
  ·rw [itT (by simpa using h2), if_pos h2]
  ·rw [itF (by simp; omega), if_neg h2]
theorem zoF {s : List Mes} (hw : WS s) (root : Int) {b : List UInt8} (hb : b.length ≤ 1048576) (d : Int) {fuel : Nat} (hf : 130 ≤ fuel) :
  ∃ R, zdg fuel s root b d = some R ∧ R.place = (zcJ s root b d).1 ∧ R.e = (zcJ s root b d).2 ∧ ((zcJ s root b d).2 = 0 → R.depth = ((zcv s d.toNat root b : Nat) : Int)) := by
 unfold zdg zcJ
 rw [zrB hw, sb]
 by_cases h : argS s root d = 0
 ·obtain ⟨hr, h1, h2, h3, h4⟩ := zhN h
  obtain ⟨k, rfl⟩ : ∃ k : Nat, root = k := ⟨root.toNat, by omega⟩
  obtain ⟨e, rfl⟩ : ∃ k : Nat, d = k := ⟨d.toNat, by omega⟩
  obtain ⟨R, met', hR, _, hok⟩ := zsC hr hb e fuel (by omega) (by omega) k 0 b.length [] (by omega) (Nat.zero_le _) (Nat.le_refl _) (zbQ.nil s)
  have hR' : zW fuel ⟨s, b, []⟩ k 0 (b.length : Int) e = some (R, met') := hR
  rw [List.take_length, List.drop_zero] at hok
  rw [itF (by simpa using h), if_neg (by simpa using h), hR', sb, Int.toNat_natCast]
  refine ⟨R, rfl, ?_⟩
  cases hfi : zR s e k b with
  | none =>
   rw [hfi] at hok
   have hok' : R = ⟨((zcv s e k b : Nat) : Int), 0, 0⟩ := hok
   subst hok'
   exact ⟨rfl, rfl, fun _ => rfl⟩
  | some pc =>
   obtain ⟨p, c⟩ := pc
   rw [hfi] at hok
   obtain ⟨o1, o2⟩ := hok
   have := zeZ s e k b p c hfi
   simp only [Option.getD_some]
   refine ⟨by rw [o1]; simp, o2, fun h0 => by omega⟩
 ·rw [itT (by simpa using h), if_pos h]
  exact ⟨_, rfl, rfl, rfl, fun h0 => absurd h0 h⟩
theorem zpP {s : List Mes} (hw : WS s) (root : Int) {b : List UInt8} (hb : b.length ≤ 1048576) (d : Int) {fuel : Nat} (hf : 130 ≤ fuel) : zdx fuel s root b d = some (zcJ s root b d) := by
 obtain ⟨R, hR, h1, h2, _⟩ := zoF hw root hb d hf
 unfold zdx
 rw [hR, sb, h1, h2]
theorem zgZ {s : List Mes} (hw : WS s) (root : Int) {b : List UInt8} (hb : b.length ≤ 1048576) (d : Int) {fuel : Nat} (hf : 130 ≤ fuel) : zaD fuel s root b d = some (is11 s root b d) := by
 unfold zaD
 rw [zpP hw root hb d hf, sb]; rfl
theorem zis {s : List Mes} (hw : WS s) (root : Int) {b : List UInt8} (hb : b.length ≤ 1048576) {fuel : Nat} (hf : 130 ≤ fuel) : zca fuel s root b = some (zoA s root b) := by
 obtain ⟨R, hR, h1, h2, h3⟩ := zoF hw root hb 64 hf
 unfold zca zoA
 rw [hR, sb, h2]
 by_cases h : (zcJ s root b 64).2 = 0
 ·have hd := znJ (s := s) (root := root) (b := b) (by unfold is11; simpa using h)
  rw [itF (by simpa using h), if_neg (by simpa using h), h3 h, hd]
  rfl
 ·rw [itT (by simpa using h), if_pos h]
end Go.Proofs.Ytnfembipjdohcaa
