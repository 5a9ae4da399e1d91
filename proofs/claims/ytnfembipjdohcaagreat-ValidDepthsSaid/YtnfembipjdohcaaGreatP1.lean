/-
  What the plain functions are. No condition.
-/
import Derived.Test.YtnfembipjdohcaaGreatS1
import Derived.Test.YtnfembipjdohcaaGreatK2
namespace Go.Proofs.YtnfembipjdohcaaGreat
open Go
def cpN (r : Nat) : List Nat :=
 if r < 128 then [r] else if r < 2048 then [192 + r / 64, 128 + r % 64]
 else if r < 65536 then (if 55296 ≤ r ∧ r ≤ 57343 then [] else [224 + r / 4096, 128 + r / 64 % 64, 128 + r % 64])
 else if r ≤ 1114111 then [240 + r / 262144, 128 + r / 4096 % 64, 128 + r / 64 % 64, 128 + r % 64] else []
def cpB (r : Nat) : List UInt8 := (cpN r).map UInt8.ofNat
def cont (c : UInt8) : Bool := decide (128 ≤ c.toNat ∧ c.toNat < 192)
def is1 : List UInt8 → Bool
 | a :: _ => decide (a.toNat < 128)
 | _ => false
def is2 : List UInt8 → Bool
 | a :: b :: _ => decide (194 ≤ a.toNat ∧ a.toNat < 224 ∧ cont b = true)
 | _ => false
def is3 : List UInt8 → Bool
 | a :: b :: c :: _ => decide (224 ≤ a.toNat ∧ a.toNat < 240 ∧ cont b = true ∧ cont c = true ∧ (a.toNat = 224 → 160 ≤ b.toNat) ∧ (a.toNat = 237 → b.toNat < 160))
 | _ => false
def is4 : List UInt8 → Bool
 | a :: b :: c :: d :: _ => decide (240 ≤ a.toNat ∧ a.toNat < 245 ∧ cont b = true ∧ cont c = true ∧ cont d = true ∧ (a.toNat = 240 → 144 ≤ b.toNat) ∧ (a.toNat = 244 → b.toNat < 144))
 | _ => false
def nxt (l : List UInt8) : Nat := if is1 l then 1 else if is2 l then 2 else if is3 l then 3 else if is4 l then 4 else 0
theorem zjS {n : Nat} {c : UInt8} (h : n < 256) : (UInt8.ofNat n = c) ↔ n = c.toNat := by
 constructor
 ·intro e; rw [← e, UInt8.toNat_ofNat']; omega
 ·intro e; rw [e, UInt8.ofNat_toNat]
theorem zuk (r : Int) : zcJ r = some (if r < 0 then [] else cpB r.toNat) := by
 unfold zcJ
 by_cases h0 : r < 0
 ·rw [itT (by simp; omega), if_pos h0]
 ·rw [if_neg h0]
  obtain ⟨n, rfl⟩ : ∃ n : Nat, r = n := ⟨r.toNat, by omega⟩
  rw [Int.toNat_natCast]
  unfold cpB cpN
  by_cases h1 : n < 128
  ·rw [itF (by simp; omega), itT (by simp; omega), if_pos h1, zlC, zdg (n := n) (by omega) (by omega)]; rfl
  ·rw [if_neg h1]
   by_cases h2 : n < 2048
   ·rw [itF (by simp; omega), itF (by simp; omega), itT (by simp; omega), if_pos h2]
    simp only [Int.tdiv_eq_ediv_of_nonneg (show (0 : Int) ≤ n by omega), Int.tmod_eq_emod_of_nonneg (show (0 : Int) ≤ n by omega), zlC]
    rw [zz (x := (n : Int) / 64) (by omega), zz (by omega), zz (by omega), zdg (n := 192 + n / 64) (by omega) (by omega), sb, zdg (n := 128 + n % 64) (by omega) (by omega)]; rfl
   ·rw [if_neg h2]
    by_cases h3 : n < 65536
    ·rw [if_pos h3]
     by_cases h4 : 55296 ≤ n ∧ n ≤ 57343
     ·rw [itT (by simp; omega), if_pos h4]; rfl
     ·rw [itF (by simp; omega), itF (by simp; omega), itF (by simp; omega), itT (by simp; omega), if_neg h4]
      simp only [Int.tdiv_eq_ediv_of_nonneg (show (0 : Int) ≤ n by omega), Int.tmod_eq_emod_of_nonneg (show (0 : Int) ≤ n by omega), zlC]
      rw [zz (x := (n : Int) / 4096) (by omega), zz (x := (n : Int) / 64) (by omega), Int.tmod_eq_emod_of_nonneg (by omega), zz (by omega), zz (by omega), zz (by omega),
       zdg (n := 224 + n / 4096) (by omega) (by omega), sb, zdg (n := 128 + n / 64 % 64) (by omega) (by omega), sb, zdg (n := 128 + n % 64) (by omega) (by omega)]; rfl
    ·rw [if_neg h3]
     by_cases h4 : n ≤ 1114111
     ·rw [itF (by simp; omega), itF (by simp; omega), itF (by simp; omega), itF (by simp; omega), if_pos h4]
      simp only [Int.tdiv_eq_ediv_of_nonneg (show (0 : Int) ≤ n by omega), Int.tmod_eq_emod_of_nonneg (show (0 : Int) ≤ n by omega), zlC]
      rw [zz (x := (n : Int) / 262144) (by omega), zz (x := (n : Int) / 4096) (by omega), zz (x := (n : Int) / 64) (by omega), Int.tmod_eq_emod_of_nonneg (by omega), Int.tmod_eq_emod_of_nonneg (by omega), zz (by omega), zz (by omega), zz (by omega), zz (by omega),
       zdg (n := 240 + n / 262144) (by omega) (by omega), sb, zdg (n := 128 + n / 4096 % 64) (by omega) (by omega), sb, zdg (n := 128 + n / 64 % 64) (by omega) (by omega), sb, zdg (n := 128 + n % 64) (by omega) (by omega)]; rfl
     ·rw [itT (by simp; omega), if_neg h4]; rfl
def zlO : Nat → List UInt8 → Nat
 | 1, a :: _ => a.toNat
 | 2, a :: b :: _ => 64 * (a.toNat % 32) + b.toNat % 64
 | 3, a :: b :: c :: _ => 64 * (64 * (a.toNat % 16) + b.toNat % 64) + c.toNat % 64
 | 4, a :: b :: c :: d :: _ => 64 * (64 * (64 * (a.toNat % 8) + b.toNat % 64) + c.toNat % 64) + d.toNat % 64
 | _, _ => 0
theorem map1 {l : List Nat} {a : UInt8} (h : ∀ x ∈ l, x < 256) : l.map UInt8.ofNat = [a] ↔ l = [a.toNat] := by
 cases l with
 | nil => simp
 | cons x l => cases l with
  | nil => simp only [List.map_cons, List.map_nil, List.cons.injEq, and_true]; exact zjS (h x (by simp))
  | cons y l => simp
theorem map2 {l : List Nat} {a b : UInt8} (h : ∀ x ∈ l, x < 256) : l.map UInt8.ofNat = [a, b] ↔ l = [a.toNat, b.toNat] := by
 cases l with
 | nil => simp
 | cons x l => simp only [List.map_cons, List.cons.injEq, zjS (h x (by simp)), map1 (l := l) fun y hy => h y (by simp [hy])]
theorem map3 {l : List Nat} {a b c : UInt8} (h : ∀ x ∈ l, x < 256) : l.map UInt8.ofNat = [a, b, c] ↔ l = [a.toNat, b.toNat, c.toNat] := by
 cases l with
 | nil => simp
 | cons x l => simp only [List.map_cons, List.cons.injEq, zjS (h x (by simp)), map2 (l := l) fun y hy => h y (by simp [hy])]
theorem map4 {l : List Nat} {a b c d : UInt8} (h : ∀ x ∈ l, x < 256) : l.map UInt8.ofNat = [a, b, c, d] ↔ l = [a.toNat, b.toNat, c.toNat, d.toNat] := by
 cases l with
 | nil => simp
 | cons x l => simp only [List.map_cons, List.cons.injEq, zjS (h x (by simp)), map3 (l := l) fun y hy => h y (by simp [hy])]
theorem zos (r : Nat) : ∀ x ∈ cpN r, x < 256 := by
 intro x hx
 unfold cpN at hx
 split at hx
 ·simp at hx; omega
 ·split at hx
  ·simp at hx; omega
  ·split at hx
   ·split at hx
    ·cases hx
    ·simp at hx; omega
   ·split at hx
    ·simp at hx; omega
    ·cases hx
theorem cpB1 (a : UInt8) : cpB a.toNat = [a] ↔ a.toNat < 128 := by
 have ha := a.toNat_lt
 unfold cpB
 rw [map1 (zos _)]
 unfold cpN
 by_cases h : a.toNat < 128
 ·simp [h]
 ·rw [if_neg h, if_pos (by omega)]; simp; omega
theorem cpB2 (a b : UInt8) : cpB (64 * (a.toNat % 32) + b.toNat % 64) = [a, b] ↔ 194 ≤ a.toNat ∧ a.toNat < 224 ∧ cont b = true := by
 have ha := a.toNat_lt
 have hb := b.toNat_lt
 unfold cpB cont
 rw [map2 (zos _)]
 unfold cpN
 by_cases h : 64 * (a.toNat % 32) + b.toNat % 64 < 128
 ·rw [if_pos h]; simp; omega
 ·rw [if_neg h, if_pos (by omega)]; simp; omega
theorem cpB3 (a b c : UInt8) : cpB (64 * (64 * (a.toNat % 16) + b.toNat % 64) + c.toNat % 64) = [a, b, c] ↔ 224 ≤ a.toNat ∧ a.toNat < 240 ∧ cont b = true ∧ cont c = true ∧ (a.toNat = 224 → 160 ≤ b.toNat) ∧ (a.toNat = 237 → b.toNat < 160) := by
 have ha := a.toNat_lt
 have hb := b.toNat_lt
 have hc := c.toNat_lt
 unfold cpB cont
 rw [map3 (zos _)]
 unfold cpN
 by_cases h : 64 * (64 * (a.toNat % 16) + b.toNat % 64) + c.toNat % 64 < 128
 ·rw [if_pos h]; simp; omega
 ·rw [if_neg h]
  by_cases h2 : 64 * (64 * (a.toNat % 16) + b.toNat % 64) + c.toNat % 64 < 2048
  ·rw [if_pos h2]; simp; omega
  ·rw [if_neg h2, if_pos (by omega)]
   by_cases h3 : 55296 ≤ 64 * (64 * (a.toNat % 16) + b.toNat % 64) + c.toNat % 64 ∧ 64 * (64 * (a.toNat % 16) + b.toNat % 64) + c.toNat % 64 ≤ 57343
   ·rw [if_pos h3]; simp; omega
   ·rw [if_neg h3]; simp; omega
theorem cpB4 (a b c d : UInt8) : cpB (64 * (64 * (64 * (a.toNat % 8) + b.toNat % 64) + c.toNat % 64) + d.toNat % 64) = [a, b, c, d] ↔
  240 ≤ a.toNat ∧ a.toNat < 245 ∧ cont b = true ∧ cont c = true ∧ cont d = true ∧ (a.toNat = 240 → 144 ≤ b.toNat) ∧ (a.toNat = 244 → b.toNat < 144) := by
 have ha := a.toNat_lt
 have hb := b.toNat_lt
 have hc := c.toNat_lt
 have hd := d.toNat_lt
 unfold cpB cont
 rw [map4 (zos _)]
 unfold cpN
 by_cases h : 64 * (64 * (64 * (a.toNat % 8) + b.toNat % 64) + c.toNat % 64) + d.toNat % 64 < 65536
 ·have : ∀ l : List Nat, l.length ≤ 3 → (l = [a.toNat, b.toNat, c.toNat, d.toNat]) = False := fun l hl => by simp only [eq_iff_iff, iff_false]; intro e; rw [e] at hl; simp at hl
  rw [if_pos h]
  split
  ·rw [this _ (by simp)]; simp; omega
  ·split
   ·rw [this _ (by simp)]; simp; omega
   ·split
    ·rw [this _ (by simp)]; simp; omega
    ·rw [this _ (by simp)]; simp; omega
 ·rw [if_neg (by omega), if_neg (by omega), if_neg h]
  by_cases h2 : 64 * (64 * (64 * (a.toNat % 8) + b.toNat % 64) + c.toNat % 64) + d.toNat % 64 ≤ 1114111
  ·rw [if_pos h2]; simp; omega
  ·rw [if_neg h2]; simp; omega
def isN (n : Nat) (l : List UInt8) : Bool := match n with
 | 1 => is1 l
 | 2 => is2 l
 | 3 => is3 l
 | 4 => is4 l
 | _ => false
theorem zrE (n : Nat) (l : List UInt8) (h1 : 1 ≤ n) (h4 : n ≤ 4) (hl : n ≤ l.length) : cpB (zlO n l) = l.take n ↔ isN n l = true := by
 match n, l, h1, h4, hl with
 | 1, a :: t, _, _, _ => simp only [zlO, List.take_succ_cons, List.take_zero, cpB1, isN, is1, decide_eq_true_eq]
 | 2, a :: b :: t, _, _, _ => simp only [zlO, List.take_succ_cons, List.take_zero, cpB2, isN, is2, decide_eq_true_eq]
 | 3, a :: b :: c :: t, _, _, _ => simp only [zlO, List.take_succ_cons, List.take_zero, cpB3, isN, is3, decide_eq_true_eq]
 | 4, a :: b :: c :: d :: t, _, _, _ => simp only [zlO, List.take_succ_cons, List.take_zero, cpB4, isN, is4, decide_eq_true_eq]
theorem zrF (n : Nat) (l : List UInt8) (h : l.length < n) : isN n l = false := by
 match n, l with
 | 0, _ => rfl
 | 1, [] => rfl
 | 2, [] => rfl
 | 2, [_] => rfl
 | 3, [] => rfl
 | 3, [_] => rfl
 | 3, [_, _] => rfl
 | 4, [] => rfl
 | 4, [_] => rfl
 | 4, [_, _] => rfl
 | 4, [_, _, _] => rfl
 | n + 5, _ => rfl
 | 1, _ :: _ => simp at h
 | 2, _ :: _ :: _ => simp at h; omega
 | 3, _ :: _ :: _ :: _ => simp at h; omega
 | 4, _ :: _ :: _ :: _ :: _ => simp at h; omega
theorem ziG {b : List UInt8} {a n i r : Nat} (hb : b.length ≤ 1152921504606846976) (hn : n ≤ 4) (h : i < n) (ha : a + i < b.length) (hr : r ≤ 1000000000) :
  zav a b n r i = zav a b n ((64 * r + (b[a + i]).toNat % 64 : Nat) : Int) ((i + 1 : Nat) : Int) := by
 refine zgj ?_
 unfold zao
 have hc := (b[a + i]).toNat_lt
 rw [itT (by simp; omega), zz (by omega), zaH (show (a : Int) + i = ((a + i : Nat) : Int) by push_cast; rfl) ha, sb]
 simp (disch := omega) only [zz, Int.tmod_eq_emod_of_nonneg]
 push_cast; rfl
theorem zoz {b : List UInt8} {a n i r : Nat} (h : n ≤ i) : zav a b n r i = some (r : Int) := by
 refine zgk ?_
 unfold zao
 rw [itF (by simp; omega)]
theorem zfy {b : List UInt8} {a i : Nat} {c : UInt8} (h : (b.drop a)[i]? = some c) : ∃ h : a + i < b.length, b[a + i] = c := by
 rw [List.getElem?_drop] at h
 exact List.getElem?_eq_some_iff.1 h
theorem zwA {b : List UInt8} {a n : Nat} {c : UInt8} {t : List UInt8} (hb : b.length ≤ 1152921504606846976) (hl : b.drop a = c :: t) (h1 : 1 ≤ n) (h4 : n ≤ 4) (hn : n ≤ (b.drop a).length) :
  zav a b n ((if 1 < n then c.toNat % ([0, 0, 32, 16, 8].getD n 0) else c.toNat : Nat) : Int) (1 : Nat) = some ((zlO n (b.drop a) : Nat) : Int) := by
 have hc := c.toNat_lt
 rw [hl] at hn
 match n, t, h1, h4, hn with
 | 1, t, _, _, _ => rw [zoz (by omega), hl]; rfl
 | 2, x :: t, _, _, _ =>
  obtain ⟨g1, e1⟩ := zfy (b := b) (a := a) (i := 1) (c := x) (by rw [hl]; rfl)
  rw [if_pos (by omega), ziG hb (by omega) (by omega) g1 (by simp; omega), zoz (by omega), hl, e1]; rfl
 | 3, x :: y :: t, _, _, _ =>
  obtain ⟨g1, e1⟩ := zfy (b := b) (a := a) (i := 1) (c := x) (by rw [hl]; rfl)
  obtain ⟨g2, e2⟩ := zfy (b := b) (a := a) (i := 2) (c := y) (by rw [hl]; rfl)
  have hx := x.toNat_lt
  rw [if_pos (by omega), ziG hb (by omega) (by omega) g1 (by simp; omega), ziG hb (by omega) (by omega) g2 (by simp; omega), zoz (by omega), hl, e1, e2]; rfl
 | 4, x :: y :: z :: t, _, _, _ =>
  obtain ⟨g1, e1⟩ := zfy (b := b) (a := a) (i := 1) (c := x) (by rw [hl]; rfl)
  obtain ⟨g2, e2⟩ := zfy (b := b) (a := a) (i := 2) (c := y) (by rw [hl]; rfl)
  obtain ⟨g3, e3⟩ := zfy (b := b) (a := a) (i := 3) (c := z) (by rw [hl]; rfl)
  have hx := x.toNat_lt
  have hy := y.toNat_lt
  rw [if_pos (by omega), ziG hb (by omega) (by omega) g1 (by simp; omega), ziG hb (by omega) (by omega) g2 (by simp; omega), ziG hb (by omega) (by omega) g3 (by simp; omega), zoz (by omega), hl, e1, e2, e3]; rfl
theorem zvI {b : List UInt8} {a n : Nat} (hb : b.length ≤ 1152921504606846976) (ha : a ≤ b.length) (h1 : 1 ≤ n) (h5 : n ≤ 5) :
  zan a b n = if isN n (b.drop a) then some (.inr (.inr (n : Int))) else if n ≤ 4 ∧ n ≤ (b.drop a).length then some (.inl ((n + 1 : Nat) : Int)) else some (.inr (.inl ())) := by
 have hdl : (b.drop a).length = b.length - a := by simp
 unfold zan
 by_cases h : n ≤ 4 ∧ n ≤ (b.drop a).length
 ·rw [if_pos h, zz (by omega), itT (by simp; omega)]
  obtain ⟨c, t, hl⟩ : ∃ c t, b.drop a = c :: t := by
   cases hh : b.drop a with
   | nil => rw [hh] at h; simp at h; omega
   | cons c t => exact ⟨c, t, rfl⟩
  obtain ⟨g0, e0⟩ := zfy (b := b) (a := a) (i := 0) (c := c) (by rw [hl]; rfl)
  have hc := c.toNat_lt
  rw [zaH rfl (show a < b.length by omega), sb]
  have e0' : b[a]'(by omega) = c := by simpa using e0
  rw [e0', zz (by omega)]
  have hp : (if (decide ((n : Int) > 1)) = true then (idx ([0, 0, 32, 16, 8] : (List Int)) (n : Int) >>= fun x2 => remI (c.toNat : Int) x2 >>= fun v3 => some v3) else some (c.toNat : Int)) = some (((if 1 < n then c.toNat % ([0, 0, 32, 16, 8].getD n 0) else c.toNat : Nat)) : Int) := by
   match n, h1, h.1 with
   | 1, _, _ => rfl
   | 2, _, _ => rfl
   | 3, _, _ => rfl
   | 4, _, _ => rfl
  rw [hp, sb]
  have h2 := zwA hb hl h1 h.1 h.2
  have h2' : zav a b n ((if 1 < n then c.toNat % ([0, 0, 32, 16, 8].getD n 0) else c.toNat : Nat) : Int) 1 = some ((zlO n (b.drop a) : Nat) : Int) := h2
  rw [h2', sb, zuk, sb, if_neg (by omega), Int.toNat_natCast, zfb rfl (show (a : Int) + n = ((a + n : Nat) : Int) by push_cast; rfl) (by omega) (by omega), sb, Nat.add_sub_cancel_left]
  by_cases hi : isN n (b.drop a) = true
  ·rw [if_pos hi, itT (by simpa using (zrE n _ h1 h.1 h.2).2 hi)]
  ·rw [if_neg hi, itF (by simpa using fun e => hi ((zrE n _ h1 h.1 h.2).1 e)), zz (by omega)]; rfl
 ·have hn : isN n (b.drop a) = false := by
   by_cases h4 : n ≤ 4
   ·exact zrF _ _ (by omega)
   ·have : n = 5 := by omega
    subst this; rfl
  rw [if_neg h, hn, zz (by omega), itF (by simp; omega)]; rfl
theorem zmI {b : List UInt8} {a : Nat} (hb : b.length ≤ 1152921504606846976) (ha : a ≤ b.length) : zcu b a = some ((nxt (b.drop a) : Nat) : Int) := by
 have key : ∀ (k n : Nat), n + k = 5 → 1 ≤ n → (∀ j, 1 ≤ j → j < n → isN j (b.drop a) = false) → ∃ q, zbl a b n = some q ∧ (match q with | .inl _ => (0 : Int) | .inr u => u) = ((nxt (b.drop a) : Nat) : Int) := by
  intro k
  induction k with
  | zero =>
   intro n hn h1 hj
   have : n = 5 := by omega
   subst this
   refine ⟨.inl (), zcF ?_, ?_⟩
   ·rw [zvI hb ha h1 (by omega), if_neg (by simp [isN]), if_neg (by omega)]
   ·have j1 := hj 1 (by omega) (by omega)
    have j2 := hj 2 (by omega) (by omega)
    have j3 := hj 3 (by omega) (by omega)
    have j4 := hj 4 (by omega) (by omega)
    simp only [isN] at j1 j2 j3 j4
    simp [nxt, j1, j2, j3, j4]
  | succ k ih =>
   intro n hn h1 hj
   have hb1 := zvI hb ha h1 (show n ≤ 5 by omega)
   by_cases hi : isN n (b.drop a) = true
   ·rw [if_pos hi] at hb1
    refine ⟨.inr n, zcF hb1, ?_⟩
    have e : nxt (b.drop a) = n := by
     match n, h1, (show n ≤ 4 by omega), hi, hj with
     | 1, _, _, hi, _ => simp only [isN] at hi; simp [nxt, hi]
     | 2, _, _, hi, hj => have j1 := hj 1 (by omega) (by omega); simp only [isN] at hi j1; simp [nxt, hi, j1]
     | 3, _, _, hi, hj => have j1 := hj 1 (by omega) (by omega); have j2 := hj 2 (by omega) (by omega); simp only [isN] at hi j1 j2; simp [nxt, hi, j1, j2]
     | 4, _, _, hi, hj => have j1 := hj 1 (by omega) (by omega); have j2 := hj 2 (by omega) (by omega); have j3 := hj 3 (by omega) (by omega); simp only [isN] at hi j1 j2 j3; simp [nxt, hi, j1, j2, j3]
    simp only [e]
   ·rw [if_neg hi] at hb1
    by_cases hl : n ≤ 4 ∧ n ≤ (b.drop a).length
    ·rw [if_pos hl] at hb1
     obtain ⟨q, h2, h3⟩ := ih (n + 1) (by omega) (by omega) fun j g1 g2 => by
      by_cases he : j = n
      ·subst he; simpa using hi
      ·exact hj j g1 (by omega)
     exact ⟨q, (zgi hb1).trans h2, h3⟩
    ·rw [if_neg hl] at hb1
     refine ⟨.inl (), zcF hb1, ?_⟩
     have hall : ∀ j, 1 ≤ j → isN j (b.drop a) = false := fun j g1 => by
      by_cases g2 : j < n
      ·exact hj j g1 g2
      ·by_cases g3 : j ≤ 4
       ·exact zrF _ _ (by omega)
       ·match j, g3 with
        | j + 5, _ => rfl
     have j1 := hall 1 (by omega)
     have j2 := hall 2 (by omega)
     have j3 := hall 3 (by omega)
     have j4 := hall 4 (by omega)
     simp only [isN] at j1 j2 j3 j4
     simp [nxt, j1, j2, j3, j4]
 obtain ⟨q, h1, h2⟩ := key 4 1 rfl (by omega) fun j g1 g2 => by omega
 unfold zcu
 have h1' : zbl a b 1 = some q := h1
 rw [h1', sb, ← h2]
 cases q <;> rfl
theorem zfz {n : Nat} {l : List UInt8} (h : isN n l = true) : ∃ a t, l = a :: t ∧ n ≤ l.length ∧ (n = 1 ∧ a.toNat < 128 ∨ n = 2 ∧ 194 ≤ a.toNat ∧ a.toNat < 224 ∨ n = 3 ∧ 224 ≤ a.toNat ∧ a.toNat < 240 ∨ n = 4 ∧ 240 ≤ a.toNat) := by
 match n, l with
 | 1, a :: t => simp only [isN, is1, decide_eq_true_eq] at h; exact ⟨a, t, rfl, by simp, .inl ⟨rfl, h⟩⟩
 | 2, a :: b :: t => simp only [isN, is2, decide_eq_true_eq] at h; exact ⟨a, _, rfl, by simp, .inr (.inl ⟨rfl, h.1, h.2.1⟩)⟩
 | 3, a :: b :: c :: t => simp only [isN, is3, decide_eq_true_eq] at h; exact ⟨a, _, rfl, by simp, .inr (.inr (.inl ⟨rfl, h.1, h.2.1⟩))⟩
 | 4, a :: b :: c :: d :: t => simp only [isN, is4, decide_eq_true_eq] at h; exact ⟨a, _, rfl, by simp, .inr (.inr (.inr ⟨rfl, h.1⟩))⟩
 | 0, _ => cases h
 | 1, [] => cases h
 | 2, [] => cases h
 | 2, [_] => cases h
 | 3, [] => cases h
 | 3, [_] => cases h
 | 3, [_, _] => cases h
 | 4, [] => cases h
 | 4, [_] => cases h
 | 4, [_, _] => cases h
 | 4, [_, _, _] => cases h
 | _ + 5, _ => cases h
theorem zuV {n m : Nat} {l : List UInt8} (h : isN n l = true) (h' : isN m l = true) : n = m := by
 obtain ⟨a, t, e, _, g⟩ := zfz h
 obtain ⟨a', t', e', _, g'⟩ := zfz h'
 rw [e] at e'
 cases e'
 omega
theorem zwl {n : Nat} {l : List UInt8} (h : isN n l = true) : nxt l = n := by
 obtain ⟨_, _, _, _, g⟩ := zfz h
 have k : ∀ m, m ≠ n → isN m l = false := fun m hm => by
  cases hh : isN m l with
  | false => rfl
  | true => exact absurd (zuV hh h) hm
 have hn : n = 1 ∨ n = 2 ∨ n = 3 ∨ n = 4 := by omega
 rcases hn with rfl | rfl | rfl | rfl
 ·simp only [isN] at h; simp [nxt, h]
 ·have j1 := k 1 (by omega); simp only [isN] at h j1; simp [nxt, h, j1]
 ·have j1 := k 1 (by omega); have j2 := k 2 (by omega); simp only [isN] at h j1 j2; simp [nxt, h, j1, j2]
 ·have j1 := k 1 (by omega); have j2 := k 2 (by omega); have j3 := k 3 (by omega); simp only [isN] at h j1 j2 j3; simp [nxt, h, j1, j2, j3]
theorem zly {l : List UInt8} (h : nxt l ≠ 0) : isN (nxt l) l = true := by
 unfold nxt at h ⊢
 by_cases h1 : is1 l = true
 ·simp [h1, isN]
 ·by_cases h2 : is2 l = true
  ·simp [h1, h2, isN]
  ·by_cases h3 : is3 l = true
   ·simp [h1, h2, h3, isN]
   ·by_cases h4 : is4 l = true
    ·simp [h1, h2, h3, h4, isN]
    ·simp [h1, h2, h3, h4] at h
theorem zjm (l : List UInt8) : nxt l ≤ l.length := by
 by_cases h : nxt l = 0
 ·omega
 ·obtain ⟨_, _, _, g, _⟩ := zfz (zly h); exact g
theorem zoG (l : List UInt8) : nxt l ≤ 4 := by
 by_cases h : nxt l = 0
 ·omega
 ·obtain ⟨_, _, _, _, g⟩ := zfz (zly h); omega
def fst4 (m : Int) (l : List UInt8) : Nat × Nat :=
 if h : nxt l = 0 ∨ (nxt l : Int) > m then (0, 0) else (nxt l + (fst4 (m - nxt l) (l.drop (nxt l))).1, (fst4 (m - nxt l) (l.drop (nxt l))).2 + 1)
termination_by l.length
decreasing_by all_goals (have := zjm l; simp only [List.length_drop]; omega)
theorem ziD {m : Int} {l : List UInt8} (h : nxt l = 0 ∨ (nxt l : Int) > m) : fst4 m l = (0, 0) := by rw [fst4, dif_pos h]
theorem zlq {m : Int} {l : List UInt8} (h : ¬ (nxt l = 0 ∨ (nxt l : Int) > m)) : fst4 m l = (nxt l + (fst4 (m - nxt l) (l.drop (nxt l))).1, (fst4 (m - nxt l) (l.drop (nxt l))).2 + 1) := by rw [fst4, dif_neg h]
theorem ztp (P : Int → List UInt8 → Prop) (h0 : ∀ m l, (nxt l = 0 ∨ (nxt l : Int) > m) → P m l) (h1 : ∀ m l, ¬ (nxt l = 0 ∨ (nxt l : Int) > m) → P (m - nxt l) (l.drop (nxt l)) → P m l) (m : Int) (l : List UInt8) : P m l := by
 generalize hn : l.length = n
 induction n using Nat.strongRecOn generalizing m l with
 | _ n ih =>
  by_cases h : nxt l = 0 ∨ (nxt l : Int) > m
  ·exact h0 m l h
  ·have := zjm l
   exact h1 m l h (ih _ (by simp only [List.length_drop]; omega) _ _ rfl)
theorem znn {b : List UInt8} (hb : b.length ≤ 140737488355328) (most : Int) (m : Int) (l : List UInt8) : ∀ (a c : Nat), c ≤ a → a ≤ b.length → l = b.drop a → m = most - a →
  zaN b most a c = some (((a + (fst4 m l).1 : Nat) : Int), ((c + (fst4 m l).2 : Nat) : Int)) := by
 refine ztp (fun m l => ∀ (a c : Nat), c ≤ a → a ≤ b.length → l = b.drop a → m = most - a → zaN b most a c = some (((a + (fst4 m l).1 : Nat) : Int), ((c + (fst4 m l).2 : Nat) : Int))) ?_ ?_ m l
 ·intro m l h a c hc ha hl hm
  subst hl hm
  have h4 := zoG (b.drop a)
  refine zfN ?_
  unfold zag
  rw [zmI (by omega) ha, sb, zz (by omega), itT (by simp; omega), ziD h]; rfl
 ·intro m l h ih a c hc ha hl hm
  subst hl hm
  have h4 := zoG (b.drop a)
  have hle := zjm (b.drop a)
  simp only [List.length_drop] at hle
  refine (zfM (atv' := ((a + nxt (b.drop a) : Nat) : Int)) (count' := ((c + 1 : Nat) : Int)) ?_).trans ?_
  ·unfold zag
   rw [zmI (by omega) ha, sb, zz (by omega), itF (by simp; omega), zz (by omega)]; rfl
  ·rw [ih (a + nxt (b.drop a)) (c + 1) (by omega) (by omega) (by rw [List.drop_drop]) (by omega), zlq h]
   simp only [Nat.add_assoc, Nat.add_comm 1]
theorem zpU {b : List UInt8} (hb : b.length ≤ 140737488355328) (most : Int) : zca b most = some (((fst4 most b).1 : Int), ((fst4 most b).2 : Int)) := by
 unfold zca
 have h := znn hb most most b 0 0 (Nat.le_refl _) (Nat.zero_le _) rfl (by omega)
 simp only [Nat.zero_add] at h
 have h' : zaN b most 0 0 = some (((fst4 most b).1 : Int), ((fst4 most b).2 : Int)) := h
 rw [h', sb]
def pre4 (l : List UInt8) : Nat × Nat := fst4 l.length l
theorem zto {m : Int} {l : List UInt8} (h : (l.length : Int) ≤ m) : fst4 m l = pre4 l := by
 have key : ∀ (n : Nat) (l : List UInt8) (m m' : Int), l.length = n → (l.length : Int) ≤ m → (l.length : Int) ≤ m' → fst4 m l = fst4 m' l := by
  intro n
  induction n using Nat.strongRecOn with
  | _ n ih =>
   intro l m m' hn hm hm'
   have hle := zjm l
   by_cases h : nxt l = 0
   ·rw [ziD (.inl h), ziD (.inl h)]
   ·rw [zlq (m := m) (l := l) (by omega), zlq (m := m') (l := l) (by omega), ih _ (by simp only [List.length_drop]; omega) (l.drop (nxt l)) (m - nxt l) (m' - nxt l) rfl (by simp only [List.length_drop]; omega) (by simp only [List.length_drop]; omega)]
 exact key _ l m l.length rfl h (Int.le_refl _)
theorem zsv {l : List UInt8} (h : nxt l = 0) : pre4 l = (0, 0) := ziD (.inl h)
theorem zvo {l : List UInt8} (h : nxt l ≠ 0) : pre4 l = (nxt l + (pre4 (l.drop (nxt l))).1, (pre4 (l.drop (nxt l))).2 + 1) := by
 have hle := zjm l
 unfold pre4
 rw [zlq (by omega), zto (m := (l.length : Int) - nxt l) (by simp only [List.length_drop]; omega)]
 rfl
theorem zuj (P : List UInt8 → Prop) (h0 : ∀ l, nxt l = 0 → P l) (h1 : ∀ l, nxt l ≠ 0 → P (l.drop (nxt l)) → P l) (l : List UInt8) : P l := by
 generalize hn : l.length = n
 induction n using Nat.strongRecOn generalizing l with
 | _ n ih =>
  by_cases h : nxt l = 0
  ·exact h0 l h
  ·have := zjm l
   exact h1 l h (ih _ (by simp only [List.length_drop]; omega) _ rfl)
def zdJ (l : List UInt8) : Bool := decide ((pre4 l).1 = l.length)
theorem zoN {b : List UInt8} (hb : b.length ≤ 140737488355328) : zbh b = some (zdJ b) := by
 unfold zbh
 rw [zpU hb, sb]
 unfold zdJ pre4
 by_cases h : (fst4 (b.length : Int) b).1 = b.length
 ·simp [h]
 ·have h2 : ¬ (((fst4 (b.length : Int) b).1 : Int) = b.length) := by omega
  simp [h, h2]
theorem zpV {b : List UInt8} (hb : b.length ≤ 1048576) : zbh b = some (zdJ b) := zoN (by omega)
end Go.Proofs.YtnfembipjdohcaaGreat
namespace Go.Proofs.YtnfembipjdohcaaGreat
open Go
def enc (v : Nat) : List UInt8 := if v < 128 then [UInt8.ofNat v] else UInt8.ofNat (128 + v % 128) :: enc (v / 128)
termination_by v
decreasing_by omega
def scan : Nat → Nat → List UInt8 → Unit ⊕ (Int × Int × Int)
 | _, _, [] => .inl ()
 | i, acc, c :: t => if i = 9 ∧ 1 < c.toNat then .inr (0, 0, 4) else if c.toNat < 128 then .inr (((acc + c.toNat % 128 * 128 ^ i : Nat) : Int), ((i + 1 : Nat) : Int), 0) else scan (i + 1) (acc + c.toNat % 128 * 128 ^ i) t
def rdR : Unit ⊕ (Int × Int × Int) → Int × Int × Int
 | .inl _ => (0, 0, 3)
 | .inr r => r
def rd (b : List UInt8) : Int × Int × Int := rdR (scan 0 0 (b.take 10))
def hor : List UInt8 → Nat
 | [] => 0
 | c :: t => c.toNat % 128 + 128 * hor t
def lead : Nat → List UInt8 → Nat
 | 0, _ => 0
 | _ + 1, [] => 0
 | k + 1, c :: t => if 128 ≤ c.toNat then lead k t + 1 else 0
theorem zvP (i : Nat) : 2 ^ (7 * i) = 128 ^ i := by rw [Nat.pow_mul]
theorem zuO (c : Nat) : c &&& 127 = c % 128 := Nat.and_two_pow_sub_one_eq_mod c 7
theorem zsy {acc i c : Nat} (hi : i ≤ 9) (hacc : acc < 128 ^ i) (hc : c < 256) (h9 : i = 9 → c ≤ 1) :
  orI .u64 (acc : Int) (shlI .u64 (IntKind.u64.wrap (andI .u8 (c : Int) 127)) ((7 * i : Nat) : Int)) = ((acc + c % 128 * 128 ^ i : Nat) : Int) := by
 have e1 : andI .u8 (c : Int) 127 = ((c % 128 : Nat) : Int) := by
  have := zpe (k := .u8) rfl (a := c) (b := 127) (by simpa [IntKind.bits] using hc) (by simp [IntKind.bits])
  rw [zuO] at this; exact this
 have hp : 128 ^ i ≤ 128 ^ 9 := Nat.pow_le_pow_right (by omega) hi
 have hlt : c % 128 * 128 ^ i < 18446744073709551616 := by
  by_cases h : i = 9
  ·subst h
   have := h9 rfl
   have h2 : c % 128 ≤ 1 := by omega
   have := Nat.mul_le_mul_right (128 ^ 9) h2
   omega
  ·have h3 : 128 ^ i ≤ 128 ^ 8 := Nat.pow_le_pow_right (by omega) (by omega)
   have := Nat.mul_le_mul (show c % 128 ≤ 127 by omega) h3
   omega
 have e2 : shlI .u64 (IntKind.u64.wrap ((c % 128 : Nat) : Int)) ((7 * i : Nat) : Int) = ((c % 128 * 128 ^ i : Nat) : Int) := by
  unfold shlI
  rw [zkk rfl (by simp [IntKind.bits]; omega), Int.toNat_natCast, Nat.min_eq_left (by simp [IntKind.bits]; omega)]
  have h4 : ((c % 128 : Nat) : Int) * 2 ^ (7 * i) = ((c % 128 * 128 ^ i : Nat) : Int) := by rw [← zvP]; push_cast; rfl
  rw [h4]
  exact zkk rfl (by simpa [IntKind.bits] using hlt)
 rw [e1, e2, zrS rfl (by simp [IntKind.bits]; omega) (by simpa [IntKind.bits] using hlt)]
 congr 1
 rw [← zvP] at hacc ⊢
 exact zpM _ _ _ hacc
theorem zsx : ∀ (t : List UInt8) (v : List UInt8) (i acc : Nat), v.drop i = t → i + t.length = v.length → v.length ≤ 10 → acc < 128 ^ i → zcO v acc i = some (scan i acc t) := by
 intro t
 induction t with
 | nil =>
  intro v i acc _ hl _ _
  refine zdY ?_
  unfold zaT
  rw [itF (by simp at hl ⊢; omega)]
  rfl
 | cons c t ih =>
  intro v i acc hd hl hv hacc
  simp only [List.length_cons] at hl
  have hget : v[i]'(by omega) = c := by
   have h1 : v.drop i = v[i]'(by omega) :: v.drop (i + 1) := List.drop_eq_getElem_cons (by omega)
   rw [hd] at h1; exact (List.cons.inj h1).1.symm
  have hd' : v.drop (i + 1) = t := by rw [← List.drop_drop, hd]; rfl
  have hc := c.toNat_lt
  have hb : zaT v acc i = if i = 9 ∧ 1 < c.toNat then some (.inr (.inr (0, 0, 4))) else if c.toNat < 128 then some (.inr (.inr (((acc + c.toNat % 128 * 128 ^ i : Nat) : Int), ((i + 1 : Nat) : Int), 0))) else some (.inl (((acc + c.toNat % 128 * 128 ^ i : Nat) : Int), ((i + 1 : Nat) : Int))) := by
   unfold zaT
   rw [itT (by simp; omega), zaH rfl (show i < v.length by omega), sb, hget]
   by_cases h9 : i = 9 ∧ 1 < c.toNat
   ·rw [if_pos h9, itT (by simp; omega)]
   ·rw [if_neg h9, itF (by simp; omega), zz (by omega)]
    have e : ((7 : Int) * (i : Int)) = ((7 * i : Nat) : Int) := by push_cast; rfl
    rw [e, zus, sb, zsy (by omega) hacc (by omega) (by omega), zz (by omega)]
    by_cases h8 : c.toNat < 128
    ·rw [if_pos h8, itT (by simp; omega)]; push_cast; rfl
    ·rw [if_neg h8, itF (by simp; omega)]; push_cast; rfl
  rw [scan]
  split at hb
  ·rename_i h9; rw [if_pos h9]; exact zdY hb
  ·rename_i h9
   rw [if_neg h9]
   split at hb
   ·rename_i h8; rw [if_pos h8]; exact zdY hb
   ·rename_i h8
    rw [if_neg h8, zjx hb]
    refine ih v (i + 1) _ hd' (by omega) hv ?_
    rw [Nat.pow_succ]
    have := Nat.mul_le_mul_right (128 ^ i) (show c.toNat % 128 ≤ 127 by omega)
    omega
theorem zoK (b : List UInt8) : zdz b = some (rd b) := by
 unfold zdz rd
 have e : (if (10 : Int) < (b.length : Int) then (10 : Int) else (b.length : Int)) = ((min 10 b.length : Nat) : Int) := by split <;> omega
 have e2 : b.take (min 10 b.length) = b.take 10 := by rw [List.take_eq_take_iff]; omega
 rw [e, ztf rfl (by omega), sb, e2]
 have h := zsx (b.take 10) (b.take 10) 0 0 rfl (by simp) (by simp; omega) (by simp)
 have h' : zcO (b.take 10) 0 0 = some (scan 0 0 (b.take 10)) := h
 rw [h', sb]
 cases scan 0 0 (b.take 10) <;> rfl
theorem zrT (b : List UInt8) : zeh b = some ((rd b).2.1, (rd b).2.2) := by unfold zeh; rw [zoK, sb]
theorem zoB : ∀ (k : Nat) (l : List UInt8), lead k l ≤ k ∧ lead k l ≤ l.length
 | 0, _ => ⟨Nat.le_refl _, Nat.zero_le _⟩
 | _ + 1, [] => ⟨Nat.zero_le _, Nat.le_refl _⟩
 | k + 1, c :: t => by
  have := zoB k t
  rw [lead]; split <;> simp <;> omega
theorem zoa : ∀ (l : List UInt8) (i acc : Nat), i + l.length ≤ 10 → i ≤ 9 →
  scan i acc l = if i + lead (10 - i) l = 10 then .inr (0, 0, 4) else if lead (10 - i) l = l.length then .inl () else if i + lead (10 - i) l = 9 ∧ 1 < (l.getD (lead (10 - i) l) 0).toNat then .inr (0, 0, 4) else
   .inr (((acc + hor (l.take (lead (10 - i) l + 1)) * 128 ^ i : Nat) : Int), ((i + lead (10 - i) l + 1 : Nat) : Int), 0) := by
 intro l
 induction l with
 | nil =>
  intro i acc _ hi
  obtain ⟨k, hk⟩ : ∃ k, 10 - i = k + 1 := ⟨9 - i, by omega⟩
  rw [hk]
  simp only [lead, scan, List.length_nil]
  rw [if_neg (by omega), if_pos trivial]
 | cons c t ih =>
  intro i acc hl hi
  obtain ⟨k, hk⟩ : ∃ k, 10 - i = k + 1 := ⟨9 - i, by omega⟩
  simp only [List.length_cons] at hl
  rw [scan]
  by_cases hc : 128 ≤ c.toNat
  ·have e : lead (10 - i) (c :: t) = lead k t + 1 := by rw [hk, lead, if_pos hc]
   rw [e]
   by_cases h9 : i = 9
   ·have : k = 0 := by omega
    subst this
    rw [if_pos ⟨h9, by omega⟩, lead, if_pos (by omega)]
   ·rw [if_neg (by omega), if_neg (by omega), ih (i + 1) _ (by omega) (by omega), show 10 - (i + 1) = k by omega]
    by_cases h1 : i + 1 + lead k t = 10
    ·rw [if_pos h1, if_pos (show i + (lead k t + 1) = 10 by omega)]
    ·rw [if_neg h1, if_neg (show ¬ i + (lead k t + 1) = 10 by omega)]
     by_cases h2 : lead k t = t.length
     ·rw [if_pos h2, if_pos (show lead k t + 1 = (c :: t).length by simp; omega)]
     ·rw [if_neg h2, if_neg (show ¬ lead k t + 1 = (c :: t).length by simp; omega)]
      have eg : (c :: t).getD (lead k t + 1) 0 = t.getD (lead k t) 0 := by simp [List.getD]
      rw [eg]
      by_cases h3 : i + 1 + lead k t = 9 ∧ 1 < (t.getD (lead k t) 0).toNat
      ·rw [if_pos h3, if_pos (show i + (lead k t + 1) = 9 ∧ 1 < (t.getD (lead k t) 0).toNat by omega)]
      ·rw [if_neg h3, if_neg (show ¬ (i + (lead k t + 1) = 9 ∧ 1 < (t.getD (lead k t) 0).toNat) by omega)]
       rw [List.take_succ_cons, hor, Nat.pow_succ]
       have e5 : acc + c.toNat % 128 * 128 ^ i + hor (t.take (lead k t + 1)) * (128 ^ i * 128) = acc + (c.toNat % 128 + 128 * hor (t.take (lead k t + 1))) * 128 ^ i := by
        rw [Nat.add_mul, Nat.mul_assoc 128, Nat.mul_comm (128 ^ i) 128, ← Nat.mul_assoc, Nat.mul_comm _ 128, Nat.mul_assoc]; omega
       rw [e5]
       congr 3
       omega
  ·have e : lead (10 - i) (c :: t) = 0 := by rw [hk, lead, if_neg hc]
   rw [e]
   simp only [Nat.add_zero, List.length_cons, List.getD_cons_zero]
   rw [if_neg (show ¬ i = 10 by omega), if_neg (show ¬ 0 = t.length + 1 by omega)]
   by_cases h9 : i = 9 ∧ 1 < c.toNat
   ·rw [if_pos h9, if_pos h9]
   ·rw [if_neg h9, if_neg h9, if_pos (show c.toNat < 128 by omega)]
    simp [hor]
theorem zmb (x y : List UInt8) : hor (x ++ y) = hor x + 128 ^ x.length * hor y := by
 induction x with
 | nil => simp [hor]
 | cons c t ih => simp only [List.cons_append, hor, ih, List.length_cons, Nat.pow_succ, Nat.mul_add]; rw [Nat.mul_comm (128 ^ t.length) 128, Nat.mul_assoc]; omega
theorem zts (l : List UInt8) : hor l < 128 ^ l.length := by
 induction l with
 | nil => simp [hor]
 | cons c t ih => simp only [hor, List.length_cons, Nat.pow_succ]; omega
theorem ztr (l : List UInt8) (j : Nat) : hor (l.drop j) ≤ hor l := by
 induction l generalizing j with
 | nil => simp
 | cons c t ih =>
  cases j with
  | zero => exact Nat.le_refl _
  | succ j => have := ih j; simp only [List.drop_succ_cons, hor]; omega
theorem zsz (b : List UInt8) (a : Nat) (hb : b.length ≤ 1152921504606846976) : ∀ (k n : Nat), n + k = 10 → a + n ≤ b.length → zbj a b n = some ((n + lead k (b.drop (a + n)) : Nat) : Int) := by
 intro k
 induction k with
 | zero =>
  intro n hn ha
  refine zcE ?_
  unfold zU
  rw [zz (by omega)]
  by_cases h1 : a + n < b.length
  ·rw [itT (by simp; omega), itF (by simp; omega), sb, itF (by rfl)]; rfl
  ·rw [itF (by simp; omega), sb, itF (by rfl)]; rfl
 | succ k ih =>
  intro n hn ha
  by_cases h1 : a + n < b.length
  ·have hd : b.drop (a + n) = b[a + n] :: b.drop (a + (n + 1)) := List.drop_eq_getElem_cons h1
   have hbody : zU a b n = if 128 ≤ b[a + n].toNat then some (.inl ((n + 1 : Nat) : Int)) else some (.inr (n : Int)) := by
    unfold zU
    rw [zz (by omega), zz (by omega), itT (by simp; omega), itT (by simp; omega), zaH (show (a : Int) + n = ((a + n : Nat) : Int) by push_cast; rfl) h1, sb, sb]
    by_cases h2 : 128 ≤ b[a + n].toNat
    ·rw [if_pos h2, itT (by simp; omega)]; push_cast; rfl
    ·rw [if_neg h2, itF (by simp; omega)]
   rw [hd, lead]
   by_cases h2 : 128 ≤ b[a + n].toNat
   ·rw [if_pos h2] at hbody ⊢
    rw [zgf hbody, ih (n + 1) (by omega) (by omega)]
    congr 2; omega
   ·rw [if_neg h2] at hbody ⊢
    exact zcE hbody
  ·have hd : b.drop (a + n) = [] := List.drop_eq_nil_of_le (by omega)
   rw [hd]
   refine zcE ?_
   unfold zU
   rw [zz (by omega), itF (by simp; omega), sb, itF (by rfl)]; rfl
theorem zsA (b : List UInt8) (a m : Nat) (hb : b.length ≤ 1152921504606846976) (hm : a + m ≤ b.length) (hh : hor ((b.drop a).take m) < 18446744073709551616) :
  ∀ (j : Nat), j ≤ m → zbk a b (hor (((b.drop a).take m).drop j)) ((j : Int) - 1) = some ((hor ((b.drop a).take m) : Nat) : Int) := by
 intro j
 induction j with
 | zero =>
  intro _
  refine zgh ?_
  unfold zam
  rw [itF (by simp)]; rfl
 | succ j ih =>
  intro hj
  have hL : ((b.drop a).take m).length = m := by simp; omega
  have hd : ((b.drop a).take m).drop j = ((b.drop a).take m)[j]'(by omega) :: ((b.drop a).take m).drop (j + 1) := List.drop_eq_getElem_cons (by omega)
  have hc : ((b.drop a).take m)[j]'(by omega) = b[a + j]'(by omega) := by simp
  have h1 := ztr ((b.drop a).take m) j
  rw [hd, hor, hc] at h1
  have h2 := (b[a + j]'(by omega)).toNat_lt
  refine (zgg (wv' := (hor (((b.drop a).take m).drop j) : Nat)) (i' := (j : Int) - 1) ?_).trans (ih (by omega))
  unfold zam
  rw [itT (by simp), zz (by omega), zaH (show (a : Int) + (((j + 1 : Nat) : Int) - 1) = ((a + j : Nat) : Int) by push_cast; omega) (by omega), sb, zz (by omega), hd, hor, hc]
  simp only [zfa]
  rw [Int.tmod_eq_emod_of_nonneg (by omega)]
  congr 3
  ·omega
  ·push_cast; omega
theorem zuC {n C X : Nat} (hn : n ≤ 9) (hC : C < 256) (h9 : ¬ (n = 9 ∧ 1 < C)) (hX : X < 128 ^ n) : X + 128 ^ n * (C % 128) < 18446744073709551616 := by
 by_cases h9' : n = 9
 ·subst h9'
  have : C % 128 ≤ 1 := by omega
  have := Nat.mul_le_mul_left (128 ^ 9) this
  omega
 ·have h5 : 128 ^ n ≤ 128 ^ 8 := Nat.pow_le_pow_right (by omega) (by omega)
  have h6 : C % 128 ≤ 127 := by omega
  have := Nat.mul_le_mul h5 h6
  omega
theorem zmH (b : List UInt8) (a : Nat) (hb : b.length ≤ 1152921504606846976) (ha : a ≤ b.length) : zaV b a = some (rd (b.drop a)) := by
 unfold zaV
 have h1 := zsz b a hb 10 0 rfl (by omega)
 simp only [Nat.zero_add, Nat.add_zero] at h1
 have h1' : zbj a b 0 = some ((lead 10 (b.drop a) : Nat) : Int) := h1
 rw [h1', sb]
 have hle := zoB 10 (b.drop a)
 have hlen : (b.drop a).length = b.length - a := by simp
 -- the ten bytes that count
 have htake : ∀ (k : Nat) (l : List UInt8), lead k (l.take k) = lead k l := by
  intro k
  induction k with
  | zero => intro l; rfl
  | succ k ih => intro l; cases l with
   | nil => rfl
   | cons c t => simp only [List.take_succ_cons, lead, ih]
 have hs := zoa ((b.drop a).take 10) 0 0 (by simp; omega) (by omega)
 simp only [Nat.zero_add, Nat.sub_zero, htake, Nat.pow_zero, Nat.mul_one] at hs
 unfold rd
 rw [hs]
 by_cases h10 : lead 10 (b.drop a) = 10
 ·rw [if_pos h10, itT (by simp; omega)]; rfl
 ·rw [if_neg h10, itF (by simp; omega), zz (by omega)]
  by_cases hl : lead 10 (b.drop a) = (b.drop a).length
  ·rw [if_pos (show lead 10 (b.drop a) = ((b.drop a).take 10).length by rw [List.length_take]; omega), itT (by simp; omega)]; rfl
  ·rw [if_neg (show ¬ lead 10 (b.drop a) = ((b.drop a).take 10).length by rw [List.length_take]; omega), itF (by simp; omega)]
   have hlt : a + lead 10 (b.drop a) < b.length := by omega
   have hg : ((b.drop a).take 10).getD (lead 10 (b.drop a)) 0 = b[a + lead 10 (b.drop a)] := by
    rw [List.getD_eq_getElem?_getD, List.getElem?_take, if_pos (by omega), List.getElem?_drop, List.getElem?_eq_getElem hlt]; rfl
   rw [hg, List.take_take, Nat.min_eq_left (by omega)]
   have hc := (b[a + lead 10 (b.drop a)]).toNat_lt
   have hg2 : (if (((lead 10 (b.drop a) : Nat) : Int) == 9) = true then (idx b ((a : Int) + ((lead 10 (b.drop a) : Nat) : Int)) >>= fun x2 => some (decide ((x2.toNat : Int) > 1))) else some false) = some (decide (lead 10 (b.drop a) = 9 ∧ 1 < (b[a + lead 10 (b.drop a)]).toNat)) := by
    by_cases h9 : lead 10 (b.drop a) = 9
    ·rw [itT (by simp; omega), zaH (show (a : Int) + ((lead 10 (b.drop a) : Nat) : Int) = ((a + lead 10 (b.drop a) : Nat) : Int) by push_cast; rfl) hlt, sb]
     congr 1
     simp only [h9, true_and, decide_eq_decide]
     omega
    ·rw [itF (by simp; omega)]; simp [h9]
   rw [hg2, sb]
   by_cases h9 : lead 10 (b.drop a) = 9 ∧ 1 < (b[a + lead 10 (b.drop a)]).toNat
   ·rw [if_pos h9, itT (by simpa using h9)]; rfl
   ·rw [if_neg h9, itF (decide_eq_false h9)]
    have hbd : hor ((b.drop a).take (lead 10 (b.drop a) + 1)) < 18446744073709551616 := by
     have hsp : (b.drop a).take (lead 10 (b.drop a) + 1) = (b.drop a).take (lead 10 (b.drop a)) ++ [b[a + lead 10 (b.drop a)]] := by
      rw [List.take_add_one, List.getElem?_drop, List.getElem?_eq_getElem hlt]; rfl
     rw [hsp, zmb]
     have h3 := zts ((b.drop a).take (lead 10 (b.drop a)))
     have h4 : ((b.drop a).take (lead 10 (b.drop a))).length = lead 10 (b.drop a) := by simp; omega
     rw [h4] at h3 ⊢
     simp only [hor, Nat.mul_zero, Nat.add_zero]
     exact zuC (by omega) (by omega) h9 h3
    have h2 := zsA b a (lead 10 (b.drop a) + 1) hb (by omega) hbd (lead 10 (b.drop a) + 1) (Nat.le_refl _)
    have hz : ((b.drop a).take (lead 10 (b.drop a) + 1)).drop (lead 10 (b.drop a) + 1) = [] := List.drop_eq_nil_of_le (by simp; omega)
    rw [hz] at h2
    have e3 : (((lead 10 (b.drop a) + 1 : Nat) : Int) - 1) = ((lead 10 (b.drop a) : Nat) : Int) := by push_cast; omega
    rw [e3] at h2
    have h2' : zbk a b 0 ((lead 10 (b.drop a) : Nat) : Int) = some ((hor ((b.drop a).take (lead 10 (b.drop a) + 1)) : Nat) : Int) := h2
    rw [h2', sb, zz (by omega)]
    simp [rdR]
theorem znP : ∀ (k : Nat) (l : List UInt8), lead k (l.take k) = lead k l
 | 0, _ => rfl
 | _ + 1, [] => rfl
 | k + 1, c :: t => by simp only [List.take_succ_cons, lead, znP k t]
theorem znO : ∀ (k : Nat) (l : List UInt8), (∀ y ∈ l.take (lead k l), 128 ≤ y.toNat) ∧ ∀ (h : lead k l < l.length), lead k l < k → (l[lead k l]).toNat < 128
 | 0, _ => ⟨fun y hy => by simp [lead] at hy, fun _ h => by omega⟩
 | _ + 1, [] => ⟨fun y hy => by simp at hy, fun h => by simp at h⟩
 | k + 1, c :: t => by
  obtain ⟨h1, h2⟩ := znO k t
  by_cases hc : 128 ≤ c.toNat
  ·have e : lead (k + 1) (c :: t) = lead k t + 1 := by rw [lead, if_pos hc]
   constructor
   ·rw [e, List.take_succ_cons]
    intro y hy
    cases hy with
    | head => exact hc
    | tail _ hy => exact h1 y hy
   ·simp only [e, List.getElem_cons_succ, List.length_cons]
    intro h hk; exact h2 (by omega) (by omega)
  ·have e : lead (k + 1) (c :: t) = 0 := by rw [lead, if_neg hc]
   constructor
   ·rw [e]; intro y hy; simp at hy
   ·simp only [e]; intro _ _; simp; omega
theorem zmB (b : List UInt8) : rd b = (0, 0, 4) ∨ (rd b = (0, 0, 3) ∧ b.length ≤ 9) ∨
  ∃ x c y, b = x ++ c :: y ∧ (∀ z ∈ x, 128 ≤ z.toNat) ∧ c.toNat < 128 ∧ x.length ≤ 9 ∧ hor (x ++ [c]) < 18446744073709551616 ∧ rd b = (((hor (x ++ [c]) : Nat) : Int), ((x.length + 1 : Nat) : Int), 0) := by
 have hle := zoB 10 b
 have hs := zoa (b.take 10) 0 0 (by simp; omega) (by omega)
 simp only [Nat.zero_add, Nat.sub_zero, znP, Nat.pow_zero, Nat.mul_one] at hs
 unfold rd
 rw [hs]
 by_cases h10 : lead 10 b = 10
 ·rw [if_pos h10]; exact .inl rfl
 ·rw [if_neg h10]
  by_cases hl : lead 10 b = (b.take 10).length
  ·rw [if_pos hl]; refine .inr (.inl ⟨rfl, ?_⟩); rw [List.length_take] at hl; omega
  ·rw [if_neg hl]
   rw [List.length_take] at hl
   have hlt : lead 10 b < b.length := by omega
   have hg : (b.take 10).getD (lead 10 b) 0 = b[lead 10 b] := by
    rw [List.getD_eq_getElem?_getD, List.getElem?_take, if_pos (by omega), List.getElem?_eq_getElem hlt]; rfl
   rw [hg, List.take_take, Nat.min_eq_left (by omega)]
   have hc := (b[lead 10 b]).toNat_lt
   by_cases h9 : lead 10 b = 9 ∧ 1 < (b[lead 10 b]).toNat
   ·rw [if_pos h9]; exact .inl rfl
   ·rw [if_neg h9]
    obtain ⟨hf1, hf2⟩ := znO 10 b
    have hsp : b.take (lead 10 b + 1) = b.take (lead 10 b) ++ [b[lead 10 b]] := by
     rw [List.take_add_one, List.getElem?_eq_getElem hlt]; rfl
    have hlen : (b.take (lead 10 b)).length = lead 10 b := by rw [List.length_take]; omega
    refine .inr (.inr ⟨b.take (lead 10 b), b[lead 10 b], b.drop (lead 10 b + 1), ?_, hf1, hf2 hlt (by omega), by omega, ?_, ?_⟩)
    ·rw [← List.drop_eq_getElem_cons hlt, List.take_append_drop]
    ·rw [zmb]
     have h3 := zts (b.take (lead 10 b))
     rw [hlen] at h3 ⊢
     simp only [hor, Nat.mul_zero, Nat.add_zero]
     exact zuC (by omega) (by omega) h9 h3
    ·rw [hsp, hlen]; simp [rdR]
theorem zvW {v : Nat} (h : v < 128) : enc v = [UInt8.ofNat v] := by rw [enc, if_pos h]
theorem zvV {v : Nat} (h : ¬ v < 128) : enc v = UInt8.ofNat (128 + v % 128) :: enc (v / 128) := by rw [enc, if_neg h]
theorem zrw : ∀ (v : Nat), (enc v).length = lenN v := by
 intro v
 induction v using Nat.strongRecOn with
 | _ v ih =>
  by_cases h : v < 128
  ·rw [zvW h, zlv h]; rfl
  ·rw [zvV h, zlu h, List.length_cons, ih _ (by omega)]
theorem zvQ (v : Nat) : shrI .u64 (v : Int) 7 = ((v / 128 : Nat) : Int) := zmP (k := .u64) (a := v) (b := 7) (by simp [IntKind.bits])
theorem ztQ : ∀ (w n : Nat), n + w < 9223372036854775808 + w → n + lz w ≤ 1152921504606846976 → zdZ w n = some ((n + lz w : Nat) : Int) := by
 intro w
 induction w using Nat.strongRecOn with
 | _ w ih =>
  intro n hn hl
  by_cases h : w = 0
  ·subst h
   refine zlb ?_
   unfold zbT
   rw [itF (by simp)]; rfl
  ·have e := zwj h
   refine (zla (wv2' := ((w / 128 : Nat) : Int)) (n' := ((n + 1 : Nat) : Int)) ?_).trans ?_
   ·unfold zbT
    rw [itT (by simp; omega), zvQ, zz (by omega)]; rfl
   ·rw [ih (w / 128) (by omega) (n + 1) (by omega) (by omega)]
    congr 2; omega
theorem zwe {v : Nat} (h : v < 18446744073709551616) : zhS (v : Int) = some ((lenN v : Nat) : Int) := by
 unfold zhS
 have h1 := zwi v
 have h2 := ztP h
 have h3 := ztQ (v / 128) 1 (by omega) (by omega)
 have h3' : zdZ ((v / 128 : Nat) : Int) 1 = some ((1 + lz (v / 128) : Nat) : Int) := h3
 rw [zvQ, h3', sb, h1]
end Go.Proofs.YtnfembipjdohcaaGreat
namespace Go.Proofs.YtnfembipjdohcaaGreat
open Go
def zdm (n w : Int) : Bool := decide (1 ≤ n ∧ n ≤ 536870911 ∧ (w = 0 ∨ w = 1 ∨ w = 2 ∨ w = 5))
def tgR (r : Int × Int × Int) : Int × Int × Int × Int :=
 if r.2.2 ≠ 0 then (0, 0, 0, r.2.2) else if 4294967295 < r.1 ∨ zdm (r.1 / 8) (r.1 % 8) = false then (0, 0, 0, 5) else (r.1 / 8, r.1 % 8, r.2.1, 0)
def tg (l : List UInt8) : Int × Int × Int × Int := tgR (rd l)
theorem zmU {n w : Int} : zdm n w = true ↔ 1 ≤ n ∧ n ≤ 536870911 ∧ (w = 0 ∨ w = 1 ∨ w = 2 ∨ w = 5) := by simp [zdm]
theorem zpT (n w : Int) : zbZ n w = some (zdm n w) := by
 unfold zbZ zdm
 simp [Bool.decide_and, Bool.decide_or, Bool.beq_eq_decide_eq]
theorem zeE (l : List UInt8) : 0 ≤ (rd l).1 ∧ (rd l).1 < 18446744073709551616 ∧ 0 ≤ (rd l).2.1 ∧ (rd l).2.1 ≤ 10 ∧ (rd l).2.1 ≤ l.length ∧ ((rd l).2.2 = 0 ∨ (rd l).2.2 = 3 ∨ (rd l).2.2 = 4) ∧ ((rd l).2.2 = 0 → 1 ≤ (rd l).2.1) := by
 rcases zmB l with h | ⟨h, _⟩ | ⟨x, c, y, e, _, _, hl, hv, h⟩
 ·rw [h]; simp
 ·rw [h]; simp
 ·have : l.length = x.length + 1 + y.length := by rw [e]; simp; omega
  rw [h]
  refine ⟨?_, ?_, ?_, ?_, ?_, .inl rfl, fun _ => ?_⟩ <;> simp only <;> omega
theorem zwG (x : List UInt8) (c : UInt8) (y : List UInt8) (hx : ∀ z ∈ x, 128 ≤ z.toNat) (hc : c.toNat < 128) (hl : x.length ≤ 9) (hv : hor (x ++ [c]) < 18446744073709551616) :
  rd (x ++ c :: y) = (((hor (x ++ [c]) : Nat) : Int), ((x.length + 1 : Nat) : Int), 0) := by
 have key : ∀ (x : List UInt8) (z : List UInt8) (i acc : Nat), (∀ z ∈ x, 128 ≤ z.toNat) → i + x.length ≤ 9 → acc + hor (x ++ [c]) * 128 ^ i < 18446744073709551616 → scan i acc (x ++ c :: z) = .inr (((acc + hor (x ++ [c]) * 128 ^ i : Nat) : Int), ((i + x.length + 1 : Nat) : Int), 0) := by
  intro x
  induction x with
  | nil =>
   intro z i acc _ hi hv
   have e1 : hor ([] ++ [c]) = c.toNat := by simp [hor]; omega
   rw [e1] at hv ⊢
   rw [List.nil_append, scan, if_neg, if_pos hc, Nat.mod_eq_of_lt hc]
   ·rfl
   ·rintro ⟨rfl, h2⟩
    have := Nat.mul_le_mul_right (128 ^ 9) (show 2 ≤ c.toNat by omega)
    omega
  | cons d x ih =>
   intro z i acc hx hi hv
   simp only [List.length_cons] at hi
   have hd := hx d List.mem_cons_self
   have e5 : acc + hor ((d :: x) ++ [c]) * 128 ^ i = acc + d.toNat % 128 * 128 ^ i + hor (x ++ [c]) * 128 ^ (i + 1) := by
    rw [List.cons_append, hor, Nat.pow_succ, Nat.add_mul, Nat.mul_comm (128 ^ i) 128, ← Nat.mul_assoc, Nat.mul_comm (hor (x ++ [c])) 128]; omega
   rw [e5] at hv ⊢
   rw [List.cons_append, scan, if_neg (by omega), if_neg (by omega), ih z (i + 1) _ (fun z hz => hx z (List.mem_cons_of_mem _ hz)) (by omega) hv, List.length_cons]
   congr 3
   omega
 unfold rd
 have e2 : (x ++ c :: y).take 10 = x ++ c :: y.take (9 - x.length) := by
  rw [List.take_append, List.take_of_length_le (by omega), show 10 - x.length = (9 - x.length) + 1 by omega, List.take_succ_cons]
 rw [e2, key x _ 0 0 hx (by omega) (by simpa using hv)]
 simp [rdR]
theorem zoW {r : Int × Int × Int} (h : r.2.2 ≠ 0) : tgR r = (0, 0, 0, r.2.2) := if_pos h
theorem ziv {r : Int × Int × Int} (h : r.2.2 = 0) (h2 : 4294967295 < r.1 ∨ zdm (r.1 / 8) (r.1 % 8) = false) : tgR r = (0, 0, 0, 5) := by unfold tgR; rw [if_neg (by simp [h]), if_pos h2]
theorem zri {r : Int × Int × Int} (h : r.2.2 = 0) (h2 : ¬ (4294967295 < r.1 ∨ zdm (r.1 / 8) (r.1 % 8) = false)) : tgR r = (r.1 / 8, r.1 % 8, r.2.1, 0) := by unfold tgR; rw [if_neg (by simp [h]), if_neg h2]
theorem zmV (l : List UInt8) : (∃ c, tg l = (0, 0, 0, c) ∧ (c = 3 ∨ c = 4 ∨ c = 5)) ∨ ∃ n w k, tg l = (n, w, k, 0) ∧ zdm n w = true ∧ 1 ≤ k ∧ k ≤ 10 ∧ k ≤ l.length ∧ rd l = (8 * n + w, k, 0) := by
 obtain ⟨h1, h2, h3, h4, h5, h6, h7⟩ := zeE l
 unfold tg
 by_cases h : (rd l).2.2 = 0
 ·by_cases hg : 4294967295 < (rd l).1 ∨ zdm ((rd l).1 / 8) ((rd l).1 % 8) = false
  ·exact .inl ⟨5, ziv h hg, by omega⟩
  ·refine .inr ⟨_, _, _, zri h hg, ?_, h7 h, h4, h5, ?_⟩
   ·cases ht : zdm ((rd l).1 / 8) ((rd l).1 % 8)
    ·exact absurd (.inr ht) hg
    ·rfl
   ·refine Prod.ext ?_ (Prod.ext rfl h)
    simp only; omega
 ·exact .inl ⟨_, zoW h, by omega⟩
theorem zoL (b : List UInt8) (a : Nat) (hb : b.length ≤ 1152921504606846976) (ha : a ≤ b.length) : zct b a = some (tg (b.drop a)) := by
 unfold zct tg
 obtain ⟨h1, h2, h3, h4, h5, h6, h7⟩ := zeE (b.drop a)
 rw [zmH b a hb ha, sb]
 by_cases h : (rd (b.drop a)).2.2 = 0
 ·rw [itF (by simpa using h)]
  have e1 : IntKind.i64.wrap (IntKind.u64.wrap (Int.tdiv (rd (b.drop a)).1 8)) = (rd (b.drop a)).1 / 8 := by
   rw [Int.tdiv_eq_ediv_of_nonneg h1, zfa, Int.emod_eq_of_lt (by omega) (by omega), zz (by omega)]
  have e2 : IntKind.i64.wrap (Int.tmod (rd (b.drop a)).1 8) = (rd (b.drop a)).1 % 8 := by
   rw [Int.tmod_eq_emod_of_nonneg h1, zz (by omega)]
  simp only [e1, e2, zpT, sb]
  by_cases hg : 4294967295 < (rd (b.drop a)).1
  ·rw [itT (by simpa using hg), sb, itT (by rfl), ziv h (.inl hg)]
  ·rw [itF (by simpa using hg), sb]
   cases ht : zdm ((rd (b.drop a)).1 / 8) ((rd (b.drop a)).1 % 8)
   ·rw [itT (by rfl), ziv h (.inr ht)]
   ·rw [itF (by rfl), zri h (by simp [ht]; omega)]
 ·rw [itT (by simpa using h), zoW h]
end Go.Proofs.YtnfembipjdohcaaGreat
namespace Go.Proofs.YtnfembipjdohcaaGreat
open Go
set_option linter.unusedVariables false
abbrev Rec := zj
def zcY (w : Int) (k : Nat) (m : List UInt8) : Int ⊕ (Nat × Nat) :=
 if w = 0 then (if (rd m).2.2 ≠ 0 then .inl (rd m).2.2 else .inr (k, k + (rd m).2.1.toNat))
 else if w = 2 then (if (rd m).2.2 ≠ 0 then .inl (rd m).2.2 else if (m.length : Int) - (rd m).2.1 < (rd m).1 then .inl 3 else .inr (k + (rd m).2.1.toNat, k + (rd m).2.1.toNat + (rd m).1.toNat))
 else if m.length < (if w = 5 then 4 else 8) then .inl 3 else .inr (k, k + (if w = 5 then 4 else 8))
def rec5 (l : List UInt8) : Int ⊕ (Int × Int × Nat × Nat) :=
 if (tg l).2.2.2 ≠ 0 then .inl (tg l).2.2.2 else match zcY (tg l).2.1 (tg l).2.2.1.toNat (l.drop (tg l).2.2.1.toNat) with
  | .inl c => .inl c
  | .inr p => .inr ((tg l).1, (tg l).2.1, p.1, p.2)
theorem zkP (w : Int) (k : Nat) (m : List UInt8) : (∃ c, zcY w k m = .inl c ∧ (c = 3 ∨ c = 4)) ∨
  ∃ a t, zcY w k m = .inr (a, t) ∧ k ≤ a ∧ a ≤ t ∧ t ≤ k + m.length ∧
   (w = 0 ∧ a = k ∧ (rd m).2.2 = 0 ∧ ((t - k : Nat) : Int) = (rd m).2.1 ∧ k < t ∨ w = 2 ∧ (rd m).2.2 = 0 ∧ ((a - k : Nat) : Int) = (rd m).2.1 ∧ ((t - a : Nat) : Int) = (rd m).1 ∨ w ≠ 0 ∧ w ≠ 2 ∧ a = k ∧ t = k + (if w = 5 then 4 else 8)) := by
 obtain ⟨h1, h2, h3, h4, h5, h6, h7⟩ := zeE m
 unfold zcY
 by_cases w0 : w = 0
 ·rw [if_pos w0]
  by_cases h : (rd m).2.2 = 0
  ·have := h7 h
   rw [if_neg (by simpa using h)]
   exact .inr ⟨_, _, rfl, Nat.le_refl _, by omega, by omega, .inl ⟨w0, rfl, h, by omega, by omega⟩⟩
  ·rw [if_pos h]; exact .inl ⟨_, rfl, by omega⟩
 ·rw [if_neg w0]
  by_cases w2 : w = 2
  ·rw [if_pos w2]
   by_cases h : (rd m).2.2 = 0
   ·rw [if_neg (by simpa using h)]
    by_cases h8 : (m.length : Int) - (rd m).2.1 < (rd m).1
    ·rw [if_pos h8]; exact .inl ⟨_, rfl, by omega⟩
    ·rw [if_neg h8]
     exact .inr ⟨_, _, rfl, by omega, by omega, by omega, .inr (.inl ⟨w2, h, by omega, by omega⟩)⟩
   ·rw [if_pos h]; exact .inl ⟨_, rfl, by omega⟩
  ·rw [if_neg w2]
   by_cases h8 : m.length < (if w = 5 then 4 else 8)
   ·rw [if_pos h8]; exact .inl ⟨_, rfl, by omega⟩
   ·rw [if_neg h8]
    exact .inr ⟨_, _, rfl, Nat.le_refl _, by omega, by omega, .inr (.inr ⟨w0, w2, rfl, rfl⟩)⟩
theorem zmC (l : List UInt8) : (∃ c, rec5 l = .inl c ∧ (c = 3 ∨ c = 4 ∨ c = 5)) ∨
  ∃ (n w : Int) (k a t : Nat), rec5 l = .inr (n, w, a, t) ∧ tg l = (n, w, (k : Int), 0) ∧ zdm n w = true ∧ zcY w k (l.drop k) = .inr (a, t) ∧ 1 ≤ k ∧ k ≤ l.length ∧ k ≤ a ∧ a ≤ t ∧ t ≤ l.length ∧ rd l = (8 * n + w, (k : Int), 0) := by
 rcases zmV l with ⟨c, h, hc⟩ | ⟨n, w, k, h, hr, k1, k2, k3, hrd⟩
 ·refine .inl ⟨c, ?_, hc⟩
  unfold rec5; rw [h, if_pos (by simp only; omega)]
 ·obtain ⟨k, rfl⟩ : ∃ j : Nat, k = j := ⟨k.toNat, by omega⟩
  have e : rec5 l = match zcY w k (l.drop k) with
   | .inl c => .inl c
   | .inr p => .inr (n, w, p.1, p.2) := by unfold rec5; rw [h]; simp
  rcases zkP w k (l.drop k) with ⟨c, h2, hc⟩ | ⟨a, t, h2, g1, g2, g3, _⟩
  ·exact .inl ⟨c, by rw [e, h2], by omega⟩
  ·simp only [List.length_drop] at g3
   exact .inr ⟨n, w, k, a, t, by rw [e, h2], h, hr, h2, by omega, by omega, g1, g2, by omega, hrd⟩
def zrec : Rec := ⟨0, 0, 0, 0, 0⟩
def zcL (b : List UInt8) (at5 : Int) : Rec × Int := if at5 < 0 ∨ at5 ≥ b.length then (zrec, 2) else match rec5 (b.drop at5.toNat) with
 | .inl c => (zrec, c)
 | .inr (n, w, a, t) => (⟨n, w, at5, at5 + a, at5 + t⟩, 0)
theorem zpS {b : List UInt8} (hb : b.length ≤ 140737488355328) (at5 : Int) : zbN b at5 = some (zcL b at5) := by
 unfold zbN zcL
 by_cases h : at5 < 0 ∨ at5 ≥ b.length
 ·rw [itT (by simpa using h), if_pos h]; rfl
 ·rw [itF (by simpa using h), if_neg h]
  obtain ⟨p, rfl⟩ : ∃ p : Nat, at5 = p := ⟨at5.toNat, by omega⟩
  rw [zoL b p (by omega) (by omega), sb, Int.toNat_natCast]
  have hdl : (b.drop p).length = b.length - p := by simp
  rcases zmV (b.drop p) with ⟨c, ht, hc⟩ | ⟨n, w, k, ht, hr, k1, k2, k3, hrd⟩
  ·have e : rec5 (b.drop p) = .inl c := by unfold rec5; rw [ht, if_pos (by simp only; omega)]
   rw [e, ht, itT (by simp; omega)]; rfl
  ·obtain ⟨k, rfl⟩ : ∃ j : Nat, k = j := ⟨k.toNat, by omega⟩
   have e : rec5 (b.drop p) = match zcY w k ((b.drop p).drop k) with
    | .inl c => .inl c
    | .inr p => .inr (n, w, p.1, p.2) := by unfold rec5; rw [ht]; simp
   have hdd : (b.drop p).drop k = b.drop (p + k) := by rw [List.drop_drop]
   have hml : (b.drop (p + k)).length = b.length - (p + k) := by simp
   obtain ⟨h1, h2, h3, h4, h5, h6, h7⟩ := zeE (b.drop (p + k))
   rw [e, ht, itF (by simp), hdd]
   have ew : IntKind.i64.wrap ((p : Int) + k) = ((p + k : Nat) : Int) := by rw [zz (by omega)]; push_cast; rfl
   have er : IntKind.i64.wrap ((b.length : Int) - ((p + k : Nat) : Int)) = ((b.length - (p + k) : Nat) : Int) := by rw [zz (by omega)]; omega
   simp only [ew, er]
   have hw := (zmU.1 hr).2.2
   rcases hw with rfl | rfl | rfl | rfl
   ·-- a varint
    rw [itF (by rfl), sb, itT (by rfl), zmH b (p + k) (by omega) (by omega), sb]
    by_cases g : (rd (b.drop (p + k))).2.2 = 0
    ·have := h7 g
     have hb5 : zcY 0 k (b.drop (p + k)) = .inr (k, k + (rd (b.drop (p + k))).2.1.toNat) := by unfold zcY; rw [if_pos rfl, if_neg (by simpa using g)]
     rw [itF (by simpa using g), sb, hb5]
     simp only
     rw [itF (by rfl), sb]
     simp only
     rw [itF (by simp; omega), zz (by omega)]
     simp; omega
    ·have hb5 : zcY 0 k (b.drop (p + k)) = .inl (rd (b.drop (p + k))).2.2 := by unfold zcY; rw [if_pos rfl, if_pos g]
     rw [itT (by simpa using g), sb, hb5]; rfl
   ·rw [itF (by rfl), sb, itF (by rfl), sb]
    simp only
    rw [itF (by rfl), sb]
    unfold zcY
    rw [if_neg (by omega), if_neg (by omega)]
    simp only
    by_cases g : b.length - (p + k) < 8
    ·rw [itT (by simp; omega), if_pos (by simpa [hml] using g)]; rfl
    ·rw [itF (by simp; omega), if_neg (by simpa [hml] using g), zz (by omega)]
     simp; omega
   ·rw [itF (by rfl), sb, itF (by rfl), sb]
    simp only
    rw [itT (by rfl), zmH b (p + k) (by omega) (by omega), sb]
    by_cases g : (rd (b.drop (p + k))).2.2 = 0
    ·have := h7 g
     have e1 : IntKind.i64.wrap (((b.length - (p + k) : Nat) : Int) - (rd (b.drop (p + k))).2.1) = ((b.drop (p + k)).length : Int) - (rd (b.drop (p + k))).2.1 := by rw [zz (by omega), hml]
     have e2 : IntKind.u64.wrap (((b.drop (p + k)).length : Int) - (rd (b.drop (p + k))).2.1) = ((b.drop (p + k)).length : Int) - (rd (b.drop (p + k))).2.1 := by rw [zfa, Int.emod_eq_of_lt (by omega) (by omega)]
     rw [itF (by simpa using g)]
     simp only [e1, e2]
     by_cases g2 : ((b.drop (p + k)).length : Int) - (rd (b.drop (p + k))).2.1 < (rd (b.drop (p + k))).1
     ·have hb5 : zcY 2 k (b.drop (p + k)) = .inl 3 := by unfold zcY; rw [if_neg (by omega), if_pos rfl, if_neg (by simpa using g), if_pos g2]
      rw [itT (by simpa using g2), sb, hb5]; rfl
     ·have hb5 : zcY 2 k (b.drop (p + k)) = .inr (k + (rd (b.drop (p + k))).2.1.toNat, k + (rd (b.drop (p + k))).2.1.toNat + (rd (b.drop (p + k))).1.toNat) := by
       unfold zcY; rw [if_neg (by omega), if_pos rfl, if_neg (by simpa using g), if_neg g2]
      rw [itF (by simpa using g2), sb, hb5]
      simp only
      rw [zz (x := (rd (b.drop (p + k))).1) (by omega), itF (by simpa using g2), zz (x := ((p + k : Nat) : Int) + (rd (b.drop (p + k))).2.1) (by omega), zz (by omega)]
      simp; omega
    ·have hb5 : zcY 2 k (b.drop (p + k)) = .inl (rd (b.drop (p + k))).2.2 := by unfold zcY; rw [if_neg (by omega), if_pos rfl, if_pos g]
     rw [itT (by simpa using g), sb, hb5]; rfl
   ·rw [itT (by rfl), sb, itF (by rfl), sb]
    simp only
    rw [itF (by rfl), sb]
    unfold zcY
    rw [if_neg (by omega), if_neg (by omega)]
    simp only
    by_cases g : b.length - (p + k) < 4
    ·rw [itT (by simp; omega), if_pos (by simpa [hml] using g)]; rfl
    ·rw [itF (by simp; omega), if_neg (by simpa [hml] using g), zz (by omega)]
     simp; omega
theorem zrc {b : List UInt8} (hb : b.length ≤ 1048576) (at5 : Int) : zbN b at5 = some (zcL b at5) := zpS (by omega) at5
def spl (base : Nat) (l : List UInt8) : List Rec × Option (Nat × Int) :=
 if hl : l = [] then ([], none) else match h : rec5 l with
  | .inl c => ([], some (base, c))
  | .inr (n, w, a, t) => (⟨n, w, base, (base + a : Nat), (base + t : Nat)⟩ :: (spl (base + t) (l.drop t)).1, (spl (base + t) (l.drop t)).2)
termination_by l.length
decreasing_by
 all_goals
  rcases zmC l with ⟨c', h', _⟩ | ⟨n', w', k', a', t', h', _, _, _, g1, g2, g3, g4, g5, _⟩
  ·rw [h'] at h; cases h
  ·rw [h'] at h; cases h; simp only [List.length_drop]; omega
theorem ziM (base : Nat) : spl base [] = ([], none) := by rw [spl, dif_pos rfl]
theorem zoS {base : Nat} {l : List UInt8} {c : Int} (hl : l ≠ []) (h : rec5 l = .inl c) : spl base l = ([], some (base, c)) := by
 rw [spl, dif_neg hl]
 split
 ·rename_i c' h'; rw [h] at h'; cases h'; rfl
 ·rename_i h'; rw [h] at h'; cases h'
theorem zgS {base : Nat} {l : List UInt8} {n w : Int} {a t : Nat} (hl : l ≠ []) (h : rec5 l = .inr (n, w, a, t)) :
  spl base l = (⟨n, w, base, (base + a : Nat), (base + t : Nat)⟩ :: (spl (base + t) (l.drop t)).1, (spl (base + t) (l.drop t)).2) := by
 rw [spl, dif_neg hl]
 split
 ·rename_i c' h'; rw [h] at h'; cases h'
 ·rename_i n' w' a' t' h'; rw [h] at h'; cases h'; rfl
theorem zoT (P : Nat → List UInt8 → Prop) (h0 : ∀ base, P base []) (he : ∀ base l c, l ≠ [] → rec5 l = .inl c → (c = 3 ∨ c = 4 ∨ c = 5) → P base l)
  (hc : ∀ base l (n w : Int) (a t : Nat), l ≠ [] → rec5 l = .inr (n, w, a, t) → zdm n w = true → 1 ≤ a → a ≤ t → t ≤ l.length → P (base + t) (l.drop t) → P base l) (base : Nat) (l : List UInt8) : P base l := by
 generalize hn : l.length = m
 induction m using Nat.strongRecOn generalizing base l with
 | _ m ih =>
  by_cases hl : l = []
  ·subst hl; exact h0 base
  ·rcases zmC l with ⟨c, h, hc'⟩ | ⟨n, w, k, a, t, h, _, hr, _, g1, g2, g3, g4, g5, _⟩
   ·exact he base l c hl h hc'
   ·exact hc base l n w a t hl h hr (by omega) g4 g5 (ih _ (by simp only [List.length_drop]; omega) _ _ rfl)
def zps (w : Int) (v : List UInt8) : Bool :=
 if w = 0 then decide ((rd v).2.2 = 0 ∧ (rd v).2.1 = v.length) else decide (w = 2 ∨ w = 1 ∧ v.length = 8 ∨ w = 5 ∧ v.length = 4)
end Go.Proofs.YtnfembipjdohcaaGreat
namespace Go.Proofs.YtnfembipjdohcaaGreat
open Go
set_option linter.unusedVariables false
theorem zpJ (w : Int) : zew w = some (w % 4294967296) := by unfold zew; rw [zqp]
theorem zsE (w : Int) : zeN w = some (sgnS w) := by
 unfold zeN
 rw [zpJ, sb, zsS]
 unfold sgnS
 congr 1
 split <;> split <;> omega
theorem zsQ {n : Int} (h : -2147483648 ≤ n ∧ n ≤ 2147483647) : zeO n = some (zog n) := by
 unfold zeO
 rw [zz (by omega), zfa]
 unfold zog
 congr 1
 split <;> omega
end Go.Proofs.YtnfembipjdohcaaGreat
namespace Go.Proofs.YtnfembipjdohcaaGreat
open Go
set_option linter.unusedVariables false
def zbQ (k : Int) : Bool := decide (1 ≤ k ∧ k ≤ 17)
def kNum (k : Int) : Bool := decide (1 ≤ k ∧ k ≤ 14)
def zdq (k : Int) : Int := if 15 ≤ k then 2 else if 12 ≤ k then 1 else if 9 ≤ k then 5 else 0
def zex (k w : Int) : Int :=
 if k = 1 ∨ k = 8 then zog (sgnS w) else if k = 3 ∨ k = 5 ∨ k = 9 ∨ k = 10 ∨ k = 11 then w % 4294967296 else if k = 7 then (if 0 < w then 1 else 0) else w
theorem zka (k : Int) : zbC k = some (zbQ k) := by unfold zbC zbQ; simp [Bool.decide_and]
theorem zjq (k : Int) : zaL k = some (kNum k) := by unfold zaL kNum; simp [Bool.decide_and]
theorem zpR (k : Int) : zcv k = some (zdq k) := by
 unfold zcv zdq
 by_cases h1 : 15 ≤ k
 ·rw [itT (by simpa using h1), if_pos h1]
 ·rw [itF (by simpa using h1), if_neg h1]
  by_cases h2 : 12 ≤ k
  ·rw [itT (by simpa using h2), if_pos h2]
  ·rw [itF (by simpa using h2), if_neg h2]
   by_cases h3 : 9 ≤ k
   ·rw [itT (by simpa using h3), if_pos h3]
   ·rw [itF (by simpa using h3), if_neg h3]
theorem zpi (k : Int) {w : Int} (h : 0 ≤ w ∧ w ≤ 18446744073709551615) : 0 ≤ zex k w ∧ zex k w ≤ 18446744073709551615 := by
 have hs := zur w
 unfold zex
 split
 ·exact zvA (by omega)
 ·split
  ·omega
  ·split
   ·split <;> omega
   ·exact h
end Go.Proofs.YtnfembipjdohcaaGreat
namespace Go.Proofs.YtnfembipjdohcaaGreat
open Go
set_option linter.unusedVariables false
def rawW (k : Int) (b : List UInt8) : Int := if zdq k = 0 then (rd b).1 else (word (b.take 8) : Nat)
def zrf (k : Int) (c : Nat) : List UInt8 := if 12 ≤ k then zmk 8 c else if 9 ≤ k then zmk 4 c else enc c
def sPut (k w : Int) : List UInt8 := zrf k (zex k w).toNat
theorem zmh {k : Int} : kNum k = true ↔ 1 ≤ k ∧ k ≤ 14 := by simp [kNum]
end Go.Proofs.YtnfembipjdohcaaGreat
namespace Go.Proofs.YtnfembipjdohcaaGreat
open Go
set_option linter.unusedVariables false
def zhA (k : Int) (l : List UInt8) : Int ⊕ Nat :=
 if k < 9 then (if (rd l).2.2 ≠ 0 then .inl (rd l).2.2 else .inr (rd l).2.1.toNat) else if l.length < (if k < 12 then 4 else 8) then .inl 3 else .inr (if k < 12 then 4 else 8)
theorem zgd (k : Int) (l : List UInt8) : (∃ c, zhA k l = .inl c ∧ (c = 3 ∨ c = 4)) ∨ ∃ n, zhA k l = .inr n ∧ 1 ≤ n ∧ n ≤ l.length ∧ n ≤ 10 ∧ (k < 9 ∧ (rd l).2.2 = 0 ∧ (rd l).2.1 = (n : Int) ∨ ¬ k < 9 ∧ n = (if k < 12 then 4 else 8)) := by
 obtain ⟨h1, h2, h3, h4, h5, h6, h7⟩ := zeE l
 unfold zhA
 by_cases h : k < 9
 ·rw [if_pos h]
  by_cases h0 : (rd l).2.2 = 0
  ·have := h7 h0
   rw [if_neg (by simpa using h0)]
   exact .inr ⟨_, rfl, by omega, by omega, by omega, .inl ⟨h, h0, by omega⟩⟩
  ·rw [if_pos h0]; exact .inl ⟨_, rfl, by omega⟩
 ·rw [if_neg h]
  by_cases h8 : l.length < (if k < 12 then 4 else 8)
  ·rw [if_pos h8]; exact .inl ⟨_, rfl, by omega⟩
  ·rw [if_neg h8]
   exact .inr ⟨_, rfl, by split <;> omega, by omega, by split <;> omega, .inr ⟨h, rfl⟩⟩
def pcs (k : Int) (l : List UInt8) : List (List UInt8) × Int :=
 if hl : l = [] then ([], 0) else match h : zhA k l with
  | .inl c => ([], c)
  | .inr n => (l.take n :: (pcs k (l.drop n)).1, (pcs k (l.drop n)).2)
termination_by l.length
decreasing_by
 all_goals
  rcases zgd k l with ⟨c', h', _⟩ | ⟨n', h', g1, g2, _⟩
  ·rw [h'] at h; cases h
  ·rw [h'] at h; cases h; simp only [List.length_drop]; omega
theorem zjY (k : Int) : pcs k [] = ([], 0) := by rw [pcs, dif_pos rfl]
theorem zjW {k : Int} {l : List UInt8} {c : Int} (hl : l ≠ []) (h : zhA k l = .inl c) : pcs k l = ([], c) := by
 rw [pcs, dif_neg hl]
 split
 ·rename_i c' h'; rw [h] at h'; cases h'; rfl
 ·rename_i h'; rw [h] at h'; cases h'
theorem ziq {k : Int} {l : List UInt8} {n : Nat} (hl : l ≠ []) (h : zhA k l = .inr n) : pcs k l = (l.take n :: (pcs k (l.drop n)).1, (pcs k (l.drop n)).2) := by
 rw [pcs, dif_neg hl]
 split
 ·rename_i c' h'; rw [h] at h'; cases h'
 ·rename_i n' h'; rw [h] at h'; cases h'; rfl
theorem zjX (k : Int) (P : List UInt8 → Prop) (h0 : P []) (he : ∀ l c, l ≠ [] → zhA k l = .inl c → (c = 3 ∨ c = 4) → P l)
  (hc : ∀ l n, l ≠ [] → zhA k l = .inr n → 1 ≤ n → n ≤ l.length → n ≤ 10 → P (l.drop n) → P l) (l : List UInt8) : P l := by
 generalize hn : l.length = m
 induction m using Nat.strongRecOn generalizing l with
 | _ m ih =>
  by_cases hl : l = []
  ·subst hl; exact h0
  ·rcases zgd k l with ⟨c, h, hc'⟩ | ⟨n, h, g1, g2, g3, _⟩
   ·exact he l c hl h hc'
   ·exact hc l n hl h g1 g2 g3 (ih _ (by simp only [List.length_drop]; omega) _ rfl)
theorem zpO (k : Int) (l : List UInt8) : (pcs k l).2 = 0 ∨ (pcs k l).2 = 3 ∨ (pcs k l).2 = 4 := by
 refine zjX k (fun l => (pcs k l).2 = 0 ∨ (pcs k l).2 = 3 ∨ (pcs k l).2 = 4) ?_ ?_ ?_ l
 ·rw [zjY]; exact .inl rfl
 ·intro l c hl h hc; rw [zjW hl h]; exact .inr hc
 ·intro l n hl h _ _ _ ih; rw [ziq hl h]; exact ih
theorem zvn (k : Int) (l : List UInt8) : (pcs k l).1.length ≤ l.length := by
 refine zjX k (fun l => (pcs k l).1.length ≤ l.length) ?_ ?_ ?_ l
 ·rw [zjY]; simp
 ·intro l c hl h _; rw [zjW hl h]; simp
 ·intro l n hl h _ _ _ ih
  rw [ziq hl h]
  simp only [List.length_cons, List.length_drop] at ih ⊢
  have := List.length_pos_iff.2 hl
  omega
theorem zrl {k : Int} (hk : kNum k = true) {l : List UInt8} {n : Nat} (h : zhA k l = .inr n) : zps (zdq k) (l.take n) = true := by
 have hk' := zmh.1 hk
 rcases zgd k l with ⟨c, h', _⟩ | ⟨n', h', g1, g2, g3, hcase⟩
 ·rw [h'] at h; cases h
 ·rw [h'] at h; cases h
  have hlen : (l.take n).length = n := by simp; omega
  unfold zps
  rcases hcase with ⟨h9, f1, f2⟩ | ⟨h9, f1⟩
  ·have e : zdq k = 0 := by unfold zdq; rw [if_neg (by omega), if_neg (by omega), if_neg (by omega)]
   rw [if_pos e]
   rcases zmB l with h6 | ⟨h6, _⟩ | ⟨x, c, y, e, hx, hc, hl, hv, h6⟩
   ·rw [h6] at f1; cases f1
   ·rw [h6] at f1; cases f1
   ·rw [h6] at f2
    have e7 : n = (x ++ [c]).length := by simp at f2 ⊢; omega
    have e8 : l.take n = x ++ c :: [] := by rw [e7, e, List.append_cons x c y, List.take_left]
    rw [e8, zwG x c [] hx hc hl hv]
    simp
  ·have h12 : zdq k = 1 ∧ 12 ≤ k ∨ zdq k = 5 ∧ k < 12 := by
    unfold zdq
    rw [if_neg (by omega)]
    by_cases hh : 12 ≤ k
    ·rw [if_pos hh]; exact .inl ⟨rfl, hh⟩
    ·rw [if_neg hh, if_pos (by omega)]; exact .inr ⟨rfl, by omega⟩
   rw [if_neg (by omega), hlen, f1]
   refine decide_eq_true ?_
   rcases h12 with ⟨e, hh⟩ | ⟨e, hh⟩
   ·rw [e, if_neg (by omega)]; right; left; exact ⟨rfl, rfl⟩
   ·rw [e, if_pos hh]; right; right; exact ⟨rfl, rfl⟩
theorem zuf {k : Int} (hk : kNum k = true) (l : List UInt8) : ∀ p ∈ (pcs k l).1, zps (zdq k) p = true ∧ 1 ≤ p.length ∧ p.length ≤ 10 := by
 refine zjX k (fun l => ∀ p ∈ (pcs k l).1, zps (zdq k) p = true ∧ 1 ≤ p.length ∧ p.length ≤ 10) ?_ ?_ ?_ l
 ·rw [zjY]; intro p hp; cases hp
 ·intro l c hl h _; rw [zjW hl h]; intro p hp; cases hp
 ·intro l n hl h g1 g2 g3 ih
  rw [ziq hl h]
  intro p hp
  cases hp with
  | head => exact ⟨zrl hk h, by simp; omega, by simp; omega⟩
  | tail _ hp => exact ih p hp
def zuH (k : Int) (p : List UInt8) : Int := zex k (rawW k p)
def ends (base : Nat) : List (List UInt8) → List Int
 | [] => []
 | p :: ps => ((base + p.length : Nat) : Int) :: ends (base + p.length) ps
theorem zoM {b : List UInt8} (hb : b.length ≤ 1048576) (k : Int) (l : List UInt8) : ∀ (a : Nat) (out : List Int), a ≤ b.length → l = b.drop a → out.length ≤ a →
  zaQ b k out a = some (if (pcs k l).2 = 0 then .inl (out ++ ends a (pcs k l).1) else .inr (pcs k l).2) := by
 refine zjX k (fun l => ∀ (a : Nat) (out : List Int), a ≤ b.length → l = b.drop a → out.length ≤ a →
  zaQ b k out a = some (if (pcs k l).2 = 0 then .inl (out ++ ends a (pcs k l).1) else .inr (pcs k l).2)) ?_ ?_ ?_ l
 ·intro a out ha hl ho
  have : b.length ≤ a := by have := congrArg List.length hl; simp at this; omega
  rw [zjY, if_pos rfl]
  refine zdO ?_
  unfold zV
  rw [itF (by simp; omega)]
  simp [ends]
 ·intro l c hl h hc a out ha hld ho
  subst hld
  have hlt : a < b.length := by have := List.length_pos_iff.2 hl; simp at this; omega
  have hdl : (b.drop a).length = b.length - a := by simp
  rw [zjW hl h, if_neg (by simp only; omega)]
  refine zdO ?_
  unfold zV
  rw [itT (by simp; omega)]
  unfold zhA at h
  by_cases h9 : k < 9
  ·rw [if_pos h9] at h
   by_cases h0 : (rd (b.drop a)).2.2 = 0
   ·rw [if_neg (by simpa using h0)] at h; cases h
   ·rw [if_pos h0] at h; cases h
    rw [itT (by simp; omega), sb, itT (by simpa using h9), zmH b a (by omega) ha, sb, itT (by simpa using h0), sb]
  ·rw [if_neg h9] at h
   by_cases h12 : k < 12
   ·simp only [if_pos h12] at h
    by_cases h8 : (b.drop a).length < 4
    ·rw [if_pos h8] at h; cases h
     rw [itT (by simpa using h12), sb, itF (by simpa using h9), sb]
     simp only
     rw [zz (by omega), itT (by simp; omega)]
    ·rw [if_neg h8] at h; cases h
   ·simp only [if_neg h12] at h
    by_cases h8 : (b.drop a).length < 8
    ·rw [if_pos h8] at h; cases h
     rw [itF (by simpa using h12), sb, itF (by simpa using h9), sb]
     simp only
     rw [zz (by omega), itT (by simp; omega)]
    ·rw [if_neg h8] at h; cases h
 ·intro l n hl h g1 g2 g3 ih a out ha hld ho
  subst hld
  have hdl : (b.drop a).length = b.length - a := by simp
  have hbody : zV b k out a = some (.inl (out ++ [((a + n : Nat) : Int)], ((a + n : Nat) : Int))) := by
   unfold zV
   rw [itT (by simp; omega)]
   rcases zgd k (b.drop a) with ⟨c, h', _⟩ | ⟨n', h', _, _, _, hcase⟩
   ·rw [h'] at h; cases h
   ·rw [h'] at h; cases h
    rcases hcase with ⟨h9, f1, f2⟩ | ⟨h9, f1⟩
    ·rw [itT (by simp; omega), sb, itT (by simpa using h9), zmH b a (by omega) ha, sb, itF (by simpa using f1), sb]
     simp only
     rw [f2, zz (by omega), itF (by simp; omega), zqu (by simp; omega), sb]
     push_cast; rfl
    ·by_cases h12 : k < 12
     ·rw [if_pos h12] at f1; subst f1
      rw [itT (by simpa using h12), sb, itF (by simpa using h9), sb]
      simp only
      rw [zz (by omega), itF (by simp; omega), zqu (by simp; omega), sb]
      push_cast; rfl
     ·rw [if_neg h12] at f1; subst f1
      rw [itF (by simpa using h12), sb, itF (by simpa using h9), sb]
      simp only
      rw [zz (by omega), itF (by simp; omega), zqu (by simp; omega), sb]
      push_cast; rfl
  rw [zgm hbody, ih (a + n) _ (by omega) (by rw [List.drop_drop]) (by simp; omega), ziq hl h]
  have e : ((b.drop a).take n).length = n := by simp; omega
  simp only [ends, e, List.append_assoc, List.singleton_append]
def zgC (k : Int) (b : List UInt8) : List Int × Int := if kNum k = false then ([], 2) else if (pcs k b).2 = 0 then (ends 0 (pcs k b).1, 0) else ([], (pcs k b).2)
theorem zra (k : Int) {b : List UInt8} (hb : b.length ≤ 1048576) : zcw k b = some (zgC k b) := by
 unfold zcw zgC
 rw [zjq, sb]
 cases hn : kNum k
 ·rw [itT (by rfl), if_pos rfl]
 ·have h := zoM hb k b 0 [] (Nat.zero_le _) rfl (Nat.le_refl _)
  have h' : zaQ b k [] 0 = _ := h
  rw [itF (by rfl), if_neg (by simp), h', sb]
  by_cases h0 : (pcs k b).2 = 0
  ·rw [if_pos h0, if_pos h0]; rfl
  ·rw [if_neg h0, if_neg h0]
def zdL (k : Int) (b : List UInt8) : List Int × Int := if kNum k = false then ([], 2) else if (pcs k b).2 = 0 then ((pcs k b).1.map (zuH k), 0) else ([], (pcs k b).2)
end Go.Proofs.YtnfembipjdohcaaGreat
namespace Go.Proofs.YtnfembipjdohcaaGreat
open Go
set_option linter.unusedVariables false
abbrev Fld := zc
abbrev Mes := zh
def zgn {α : Type} (p : α → Bool) (l : List α) : Int := match l.findIdx? p with
 | some i => (i : Int)
 | none => -1
theorem zkR {α : Type} {p : α → Bool} {l : List α} (h : l.findIdx? p = none) : zgn p l = -1 := by unfold zgn; rw [h]
theorem zkS {α : Type} {p : α → Bool} {l : List α} {i : Nat} (h : l.findIdx? p = some i) : zgn p l = (i : Int) := by unfold zgn; rw [h]
theorem zkt {α : Type} (p : α → Bool) (l : List α) (F : Int → Option (Unit ⊕ Int)) (h0 : F (l.length : Int) = some (.inl ())) (hs : ∀ (i : Nat) (h : i < l.length), F (i : Int) = if p l[i] then some (.inr (i : Int)) else F ((i + 1 : Nat) : Int)) :
  ∀ (d i : Nat), i + d = l.length → (∀ j (h : j < l.length), j < i → p l[j] = false) → F (i : Int) = some (match l.findIdx? p with | some k => .inr (k : Int) | none => .inl ()) := by
 intro d
 induction d with
 | zero =>
  intro i hi hj
  have : i = l.length := by omega
  subst this
  have hn : l.findIdx? p = none := by
   rw [List.findIdx?_eq_none_iff]
   intro x hx
   obtain ⟨j, hj', rfl⟩ := List.getElem_of_mem hx
   exact hj j hj' hj'
  rw [h0, hn]
 | succ d ih =>
  intro i hi hj
  have hil : i < l.length := by omega
  rw [hs i hil]
  by_cases hp : p l[i] = true
  ·have hf : l.findIdx? p = some i := by
    rw [List.findIdx?_eq_some_iff_getElem]
    exact ⟨hil, hp, fun j hji => by simpa using hj j (by omega) hji⟩
   rw [if_pos hp, hf]
  ·rw [if_neg hp]
   refine ih (i + 1) (by omega) fun j h hji => ?_
   by_cases e : j = i
   ·subst e; simpa using hp
   ·exact hj j h (by omega)
def fldI (m : Mes) (number : Int) : Int := zgn (fun f : Fld => f.Number == number) m.Fields
theorem zpQ {m : Mes} (hm : m.Fields.length ≤ 1152921504606846976) (number : Int) : zcd m number = some (fldI m number) := by
 unfold zcd fldI
 have h := zkt (fun f : Fld => f.Number == number) m.Fields (fun i => zbe m number i) (by
   refine zdE ?_
   unfold zY
   rw [itF (by simp)])
  (fun i hi => by
   have hb : zY m number i = if ((m.Fields[i]).Number == number) = true then some (.inr (.inr (i : Int))) else some (.inl ((i + 1 : Nat) : Int)) := by
    unfold zY
    rw [itT (by simp; omega), zaH rfl hi, sb, zz (by omega)]; rfl
   by_cases hp : ((m.Fields[i]).Number == number) = true
   ·rw [if_pos hp] at hb ⊢; exact zdE hb
   ·rw [if_neg hp] at hb ⊢; exact zfU hb)
  m.Fields.length 0 (by omega) (fun j _ hj => by omega)
 have h' : zbe m number 0 = _ := h
 rw [h', sb]
 unfold zgn
 cases m.Fields.findIdx? (fun f : Fld => f.Number == number) <;> rfl
def nmc (i : Nat) (c : UInt8) : Bool := decide (65 ≤ c.toNat ∧ c.toNat ≤ 90 ∨ 97 ≤ c.toNat ∧ c.toNat ≤ 122 ∨ c.toNat = 95 ∨ 0 < i ∧ 48 ≤ c.toNat ∧ c.toNat ≤ 57)
def nmA : Nat → List UInt8 → Bool
 | _, [] => true
 | i, c :: l => nmc i c && nmA (i + 1) l
def zcp (s : List UInt8) : Bool := nmA 0 s && decide (1 ≤ s.length ∧ s.length ≤ 60)
theorem zdr {α : Type} {l t : List α} {x : α} {k : Nat} (h : l.drop k = x :: t) : ∃ hk : k < l.length, l[k] = x ∧ l.drop (k + 1) = t := by
 have hk : k < l.length := by
  rcases Nat.lt_or_ge k l.length with h' | h'
  ·exact h'
  ·rw [List.drop_eq_nil_of_le h'] at h; cases h
 rw [List.drop_eq_getElem_cons hk] at h
 injection h with h1 h2
 exact ⟨hk, h1, h2⟩
theorem zeb {α : Type} {l : List α} {k : Nat} (h : l.drop k = []) : l.length ≤ k := by have := congrArg List.length h; simp at this; omega
theorem zss (s : List UInt8) (hs : s.length ≤ 1152921504606846976) : ∀ (l : List UInt8) (i : Nat), s.drop i = l → zbm s i = some (if nmA i l = true then .inl () else .inr ()) := by
 intro l
 induction l with
 | nil =>
  intro i hd
  have := zeb hd
  refine zdN ?_
  unfold zad
  rw [itF (by simp; omega)]; rfl
 | cons c l ih =>
  intro i hd
  obtain ⟨hk, hx, hd'⟩ := zdr hd
  have hb : zad s i = if nmc i c = true then some (.inl ((i + 1 : Nat) : Int)) else some (.inr (.inr ())) := by
   unfold zad
   rw [itT (by simp; omega), zaH rfl hk, sb, hx, zz (by omega)]
   have e : (if (decide ((c.toNat : Int) ≥ 65)) then ((decide ((c.toNat : Int) ≤ 90)) || (if (decide ((c.toNat : Int) ≥ 97)) then ((decide ((c.toNat : Int) ≤ 122)) || (((c.toNat : Int) == 95) || ((decide ((i : Int) > 0)) && ((decide ((c.toNat : Int) ≥ 48)) && (decide ((c.toNat : Int) ≤ 57)))))) else (((c.toNat : Int) == 95) || ((decide ((i : Int) > 0)) && ((decide ((c.toNat : Int) ≥ 48)) && (decide ((c.toNat : Int) ≤ 57))))))) else (if (decide ((c.toNat : Int) ≥ 97)) then ((decide ((c.toNat : Int) ≤ 122)) || (((c.toNat : Int) == 95) || ((decide ((i : Int) > 0)) && ((decide ((c.toNat : Int) ≥ 48)) && (decide ((c.toNat : Int) ≤ 57)))))) else (((c.toNat : Int) == 95) || ((decide ((i : Int) > 0)) && ((decide ((c.toNat : Int) ≥ 48)) && (decide ((c.toNat : Int) ≤ 57))))))) = nmc i c := by
    have e95 : ((c.toNat : Int) == 95) = decide (c.toNat = 95) := zll _ 95
    have a1 : decide ((c.toNat : Int) ≥ 65) = decide (65 ≤ c.toNat) := decide_eq_decide.2 (by omega)
    have a2 : decide ((c.toNat : Int) ≤ 90) = decide (c.toNat ≤ 90) := decide_eq_decide.2 (by omega)
    have a3 : decide ((c.toNat : Int) ≥ 97) = decide (97 ≤ c.toNat) := decide_eq_decide.2 (by omega)
    have a4 : decide ((c.toNat : Int) ≤ 122) = decide (c.toNat ≤ 122) := decide_eq_decide.2 (by omega)
    have a5 : decide ((i : Int) > 0) = decide (0 < i) := decide_eq_decide.2 (by omega)
    have a6 : decide ((c.toNat : Int) ≥ 48) = decide (48 ≤ c.toNat) := decide_eq_decide.2 (by omega)
    have a7 : decide ((c.toNat : Int) ≤ 57) = decide (c.toNat ≤ 57) := decide_eq_decide.2 (by omega)
    rw [e95, a1, a2, a3, a4, a5, a6, a7]
    simp only [nmc, Bool.decide_or, Bool.decide_and]
    generalize decide (65 ≤ c.toNat) = p1
    generalize decide (c.toNat ≤ 90) = p2
    generalize decide (97 ≤ c.toNat) = p3
    generalize decide (c.toNat ≤ 122) = p4
    generalize decide (c.toNat = 95) = p5
    generalize decide (0 < i) = p6
    generalize decide (48 ≤ c.toNat) = p7
    generalize decide (c.toNat ≤ 57) = p8
    cases p1 <;> cases p2 <;> cases p3 <;> cases p4 <;> cases p5 <;> cases p6 <;> cases p7 <;> cases p8 <;> rfl
   rw [e]
   cases nmc i c
   ·rw [itT (by rfl)]; rfl
   ·rw [itF (by rfl)]; push_cast; rfl
  rw [nmA]
  cases hc : nmc i c
  ·rw [hc, if_neg (by simp)] at hb
   rw [zdN hb]; rfl
  ·rw [hc, if_pos rfl] at hb
   rw [zgl hb, ih _ hd', Bool.true_and]
theorem zmG {s : List UInt8} (hs : s.length ≤ 1152921504606846976) : zbO s = some (zcp s) := by
 unfold zbO zcp
 have h := zss s hs s 0 rfl
 have h' : zbm s 0 = _ := h
 rw [h', sb]
 cases nmA 0 s
 ·rfl
 ·simp [Bool.decide_and]
  rw [Bool.eq_iff_iff]; simp; omega
def zbg (n : Int) (prev : List Fld) (f : Fld) : Int :=
 if zcp f.Name = false then 5 else if prev.any (fun g => g.Name == f.Name) = true then 6
 else if f.Number < 1 ∨ f.Number > 536870911 ∨ (19000 ≤ f.Number ∧ f.Number < 20000) then 7
 else if prev.any (fun g => g.Number == f.Number) = true then 8 else if zbQ f.Kind = false then 9
 else if f.Packed = true ∧ ¬ (f.Repeated = true ∧ kNum f.Kind = true) then 10
 else if f.Kind = 17 ∧ (f.Of < 0 ∨ f.Of ≥ n) ∨ f.Kind ≠ 17 ∧ f.Of ≠ 0 then 11 else 0
theorem zlS (n : Int) (prev : List Fld) (f : Fld) : 0 ≤ zbg n prev f ∧ zbg n prev f ≤ 11 := by
 unfold zbg
 repeat' split
 all_goals omega
theorem zqH {s : List Mes} {i k : Nat} {m : Mes} (hi : ∃ h : i < s.length, s[i] = m) (hk : k ≤ m.Fields.length) (hb : m.Fields.length ≤ 1152921504606846976) (f : Fld) :
  ∀ (l : List Fld) (j : Nat) (a b : Bool), (m.Fields.take k).drop j = l → j ≤ k → zbd i k s f a b j = some (a || l.any (fun g => g.Name == f.Name), b || l.any (fun g => g.Number == f.Number)) := by
 obtain ⟨hi, hm⟩ := hi
 intro l
 induction l with
 | nil =>
  intro j a b hd hj
  have := zeb hd
  rw [List.length_take] at this
  refine zfT ?_
  unfold zai
  rw [itF (by simp; omega)]; simp
 | cons g l ih =>
  intro j a b hd hj
  obtain ⟨hjk, hx, hd'⟩ := zdr hd
  rw [List.length_take] at hjk
  rw [List.getElem_take] at hx
  refine (zfS (name' := a || (g.Name == f.Name)) (number' := b || (g.Number == f.Number)) (j' := ((j + 1 : Nat) : Int)) ?_).trans ?_
  ·unfold zai
   have e1 : idx s (i : Int) = some m := by rw [zaH rfl hi, hm]
   have e2 : idx m.Fields (j : Int) = some g := by rw [zaH rfl (by omega), hx]
   rw [itT (by simp; omega), e1, sb, e2, sb, zz (by omega)]
   cases a <;> cases b <;> (simp only [Bool.false_eq_true, if_false, if_true, e2, sb, Bool.false_or, Bool.true_or]; push_cast; rfl)
  ·rw [ih _ _ _ hd' (by omega), List.any_cons, List.any_cons, Bool.or_assoc, Bool.or_assoc]
theorem zpP {s : List Mes} {i k : Nat} {m : Mes} {f : Fld} (hi : ∃ h : i < s.length, s[i] = m) (hk : ∃ h : k < m.Fields.length, m.Fields[k] = f) (hb : m.Fields.length ≤ 1152921504606846976) (hf : f.Name.length ≤ 1152921504606846976) :
  zcc s i k = some (zbg s.length (m.Fields.take k) f) := by
 obtain ⟨hil, hm⟩ := hi
 obtain ⟨hkl, hfe⟩ := hk
 have e1 : idx s (i : Int) = some m := by rw [zaH rfl hil, hm]
 have e2 : idx m.Fields (k : Int) = some f := by rw [zaH rfl hkl, hfe]
 have h := zqH ⟨hil, hm⟩ (Nat.le_of_lt hkl) hb f (m.Fields.take k) 0 false false rfl (Nat.zero_le _)
 have h' : zbd i k s f false false 0 = _ := h
 unfold zcc zbg
 rw [e1, sb, e2, sb, h', sb, zmG hf, sb]
 simp only [Bool.false_or]
 cases h1 : zcp f.Name
 ·rw [itT (by rfl), if_pos (show false = false from rfl)]
 ·rw [itF (by rfl), if_neg (show ¬ (true = false) by simp)]
  cases h2 : (m.Fields.take k).any (fun g => g.Name == f.Name)
  ·rw [itF (by rfl), if_neg (show ¬ (false = true) by simp)]
   by_cases h3 : f.Number < 1 ∨ f.Number > 536870911 ∨ (19000 ≤ f.Number ∧ f.Number < 20000)
   ·rw [itT (by simpa using h3), if_pos h3]
   ·rw [itF (by simp; omega), if_neg h3]
    cases h4 : (m.Fields.take k).any (fun g => g.Number == f.Number)
    ·rw [itF (by rfl), if_neg (show ¬ (false = true) by simp), zka, sb]
     cases h5 : zbQ f.Kind
     ·rw [itT (by rfl), if_pos (show false = false from rfl)]
     ·rw [itF (by rfl), if_neg (show ¬ (true = false) by simp)]
      have e10 : (if f.Packed = true then (if f.Repeated = true then (zaL f.Kind >>= fun rv3 => some (!rv3)) else some (!false)) else some false) = some (decide (f.Packed = true ∧ ¬ (f.Repeated = true ∧ kNum f.Kind = true))) := by
       rw [zjq, sb]
       cases f.Packed <;> cases f.Repeated <;> cases kNum f.Kind <;> rfl
      rw [e10, sb]
      by_cases h6 : f.Packed = true ∧ ¬ (f.Repeated = true ∧ kNum f.Kind = true)
      ·rw [itT (decide_eq_true h6), if_pos h6]
      ·rw [itF (decide_eq_false h6), if_neg h6]
       by_cases h7 : f.Kind = 17
       ·by_cases h8 : f.Of < 0 ∨ f.Of ≥ (s.length : Int)
        ·rw [itT (by simp [h7]; simpa using h8), if_pos (.inl ⟨h7, h8⟩)]
        ·rw [itF (by simp [h7]; omega), if_neg (by simp [h7]; omega)]
       ·by_cases h8 : f.Of = 0
        ·rw [itF (by simp [h7, h8]), if_neg (by simp [h7, h8])]
        ·rw [itT (by simp [h7, h8]), if_pos (.inr ⟨h7, h8⟩)]
    ·rw [itT (by rfl), if_pos (show true = true from rfl)]
  ·rw [itT (by rfl), if_pos (show true = true from rfl)]
def msgF (n : Int) (prev : List Fld) : List Fld → Option (Nat × Int)
 | [] => none
 | f :: l => if 0 < zbg n prev f then some (prev.length, zbg n prev f) else msgF n (prev ++ [f]) l
def chkF (n : Int) (prev : List Mes) : List Mes → Option (Nat × Int × Int)
 | [] => none
 | m :: l => if zcp m.Name = false then some (prev.length, -1, 2) else if prev.any (fun g => g.Name == m.Name) = true then some (prev.length, -1, 3)
  else if 200 < m.Fields.length then some (prev.length, -1, 4) else match msgF n [] m.Fields with
   | some (k, w) => some (prev.length, (k : Int), w)
   | none => chkF n (prev ++ [m]) l
def zey (s : List Mes) : Int × Int × Int := if s.length = 0 ∨ 100 < s.length then (-1, -1, 1) else match chkF s.length [] s with
 | none => (0, 0, 0)
 | some (i, k, w) => ((i : Int), k, w)
def zhq (s : List Mes) : Bool := decide ((zey s).2.2 = 0)
def WS (s : List Mes) : Prop := s.length ≤ 140737488351232 ∧ ∀ m ∈ s, m.Name.length ≤ 140737488351232 ∧ m.Fields.length ≤ 140737488351232 ∧ ∀ f ∈ m.Fields, f.Name.length ≤ 140737488351232
theorem zpm {s : List Mes} {i : Nat} {m : Mes} (hi : ∃ h : i < s.length, s[i] = m) (hb : m.Fields.length ≤ 140737488351232) (hn : ∀ f ∈ m.Fields, f.Name.length ≤ 140737488351232) :
  ∀ (l : List Fld) (k : Nat), m.Fields.drop k = l → k ≤ m.Fields.length → zbc i s k = some (match msgF s.length (m.Fields.take k) l with | some (j, w) => .inr ((j : Int), w) | none => .inl ()) := by
 obtain ⟨hil, hm⟩ := hi
 have e1 : idx s (i : Int) = some m := by rw [zaH rfl hil, hm]
 intro l
 induction l with
 | nil =>
  intro k hd hk
  have := zeb hd
  refine zdD ?_
  unfold zX
  rw [e1, sb, itF (by simp; omega)]; rfl
 | cons f l ih =>
  intro k hd hk
  obtain ⟨hkl, hx, hd'⟩ := zdr hd
  have hf := zpP (s := s) (i := i) (k := k) (m := m) (f := f) ⟨hil, hm⟩ ⟨hkl, hx⟩ (by omega) (by have := hn f (by rw [← hx]; exact List.getElem_mem hkl); omega)
  have hbd := zlS s.length (m.Fields.take k) f
  have htl : (m.Fields.take k).length = k := by rw [List.length_take]; omega
  rw [msgF]
  by_cases h0 : 0 < zbg s.length (m.Fields.take k) f
  ·rw [if_pos h0]
   refine zdD ?_
   unfold zX
   rw [e1, sb, itT (by simp; omega), hf, sb, itT (by simpa using h0)]
   simp only [htl]
  ·rw [if_neg h0]
   refine (zfR (k2' := ((k + 1 : Nat) : Int)) ?_).trans ?_
   ·unfold zX
    rw [e1, sb, itT (by simp; omega), hf, sb, itF (by simp; omega), zz (by omega)]
    push_cast; rfl
   ·rw [ih (k + 1) hd' (by omega), List.take_succ_eq_append_getElem hkl, hx]
theorem zpl {s : List Mes} {i : Nat} {m : Mes} (hi : ∃ h : i < s.length, s[i] = m) (hs : s.length ≤ 140737488351232) :
  ∀ (l : List Mes) (k : Nat) (a : Bool), (s.take i).drop k = l → k ≤ i → zbb i s a k = some (a || l.any (fun g => g.Name == m.Name)) := by
 obtain ⟨hil, hm⟩ := hi
 intro l
 induction l with
 | nil =>
  intro k a hd hk
  have := zeb hd
  rw [List.length_take] at this
  refine zfQ ?_
  unfold zah
  rw [itF (by simp; omega)]; simp
 | cons g l ih =>
  intro k a hd hk
  obtain ⟨hkl, hx, hd'⟩ := zdr hd
  rw [List.length_take] at hkl
  rw [List.getElem_take] at hx
  refine (zfP (twice' := a || (g.Name == m.Name)) (k' := ((k + 1 : Nat) : Int)) ?_).trans ?_
  ·unfold zah
   have e1 : idx s (i : Int) = some m := by rw [zaH rfl hil, hm]
   have e2 : idx s (k : Int) = some g := by rw [zaH rfl (by omega), hx]
   rw [itT (by simp; omega), e1, e2, sb, sb, zz (by omega)]
   cases a <;> (simp only [Bool.false_eq_true, if_false, if_true, sb, Bool.false_or, Bool.true_or]; push_cast; rfl)
  ·rw [ih _ _ hd' (by omega), List.any_cons, Bool.or_assoc]
theorem zpk {s : List Mes} (hw : WS s) : ∀ (l : List Mes) (i : Nat), s.drop i = l → i ≤ s.length → zba s i = some (match chkF s.length (s.take i) l with | some (j, k, w) => .inr ((j : Int), k, w) | none => .inl ()) := by
 intro l
 induction l with
 | nil =>
  intro i hd hi
  have := zeb hd
  refine zaU ?_
  unfold zW
  rw [itF (by simp; omega)]; rfl
 | cons m l ih =>
  intro i hd hi
  obtain ⟨hil, hx, hd'⟩ := zdr hd
  obtain ⟨hsl, hwm⟩ := hw
  obtain ⟨w1, w2, w3⟩ := hwm m (by rw [← hx]; exact List.getElem_mem hil)
  have htl : (s.take i).length = i := by rw [List.length_take]; omega
  have e1 : idx s (i : Int) = some m := by rw [zaH rfl hil, hx]
  have h2 := zpl ⟨hil, hx⟩ hsl (s.take i) 0 false rfl (Nat.zero_le _)
  have h2' : zbb i s false 0 = _ := h2
  have h3 := zpm ⟨hil, hx⟩ w2 w3 m.Fields 0 rfl (Nat.zero_le _)
  have h3' : zbc i s 0 = _ := h3
  have hb : zW s i = (if zcp m.Name = false then some (.inr (.inr ((i : Int), -1, 2))) else if (s.take i).any (fun g => g.Name == m.Name) = true then some (.inr (.inr ((i : Int), -1, 3)))
    else if 200 < m.Fields.length then some (.inr (.inr ((i : Int), -1, 4))) else match msgF s.length [] m.Fields with
     | some (k, w) => some (.inr (.inr ((i : Int), (k : Int), w)))
     | none => some (.inl ((i + 1 : Nat) : Int))) := by
   unfold zW
   rw [itT (by simp; omega), h2', sb, e1, sb, zmG (by omega), sb, sb, h3', sb, Bool.false_or]
   cases h4 : zcp m.Name
   ·rw [itT (by rfl), if_pos (show false = false from rfl)]
   ·rw [itF (by rfl), if_neg (show ¬ (true = false) by simp)]
    cases h5 : (s.take i).any (fun g => g.Name == m.Name)
    ·rw [itF (by rfl), if_neg (show ¬ (false = true) by simp)]
     by_cases h6 : 200 < m.Fields.length
     ·rw [itT (by simp; omega), if_pos h6]
     ·rw [itF (by simp; omega), if_neg h6, List.take_zero]
      cases msgF s.length [] m.Fields with
      | none => simp only; rw [zz (by omega)]; push_cast; rfl
      | some p => rfl
    ·rw [itT (by rfl), if_pos (show true = true from rfl)]
  rw [chkF]
  by_cases h4 : zcp m.Name = false
  ·rw [if_pos h4] at hb ⊢
   rw [zaU hb]; simp only [htl]
  ·rw [if_neg h4] at hb ⊢
   by_cases h5 : (s.take i).any (fun g => g.Name == m.Name) = true
   ·rw [if_pos h5] at hb ⊢
    rw [zaU hb]; simp only [htl]
   ·rw [if_neg h5] at hb ⊢
    by_cases h6 : 200 < m.Fields.length
    ·rw [if_pos h6] at hb ⊢
     rw [zaU hb]; simp only [htl]
    ·rw [if_neg h6] at hb ⊢
     cases h7 : msgF s.length [] m.Fields with
     | some p =>
      rw [h7] at hb
      rw [zaU hb]; simp only [htl]
     | none =>
      rw [h7] at hb
      rw [zfO hb, ih _ hd' (by omega), List.take_succ_eq_append_getElem hil, hx]
theorem znj {s : List Mes} (hw : WS s) : zcb s = some (zey s) := by
 unfold zcb zey
 by_cases h : s.length = 0 ∨ 100 < s.length
 ·have e0 : ((s.length : Int) == 0) = decide (s.length = 0) := zll _ 0
  rw [e0, itT (by simp only [Bool.or_eq_true, decide_eq_true_eq]; omega), if_pos h]
 ·have e0 : ((s.length : Int) == 0) = decide (s.length = 0) := zll _ 0
  rw [e0, itF (by simp only [Bool.or_eq_false_iff, decide_eq_false_iff_not]; omega), if_neg h]
  have h1 := zpk hw s 0 rfl (Nat.zero_le _)
  have h1' : zba s 0 = _ := h1
  rw [h1', sb, List.take_zero]
  cases chkF s.length [] s with
  | none => rfl
  | some p => rfl
theorem znm {s : List Mes} (hw : WS s) : zce s = some (zhq s) := by
 unfold zce zhq
 rw [znj hw, sb]
 rfl
theorem zkB {n : Int} : ∀ (l prev : List Fld), msgF n prev l = none ↔ ∀ (k : Nat) (f : Fld), l[k]? = some f → zbg n (prev ++ l.take k) f = 0
 | [], prev => by simp [msgF]
 | f :: l, prev => by
  have hb := zlS n prev f
  rw [msgF]
  by_cases h : 0 < zbg n prev f
  ·rw [if_pos h]
   refine ⟨(fun h' => nomatch h'), fun h' => ?_⟩
   have := h' 0 f rfl
   simp at this; omega
  ·rw [if_neg h, zkB l (prev ++ [f])]
   constructor
   ·intro h' k g hg
    cases k with
    | zero => simp at hg; subst hg; simp; omega
    | succ k => have := h' k g (by simpa using hg); simpa using this
   ·intro h' k g hg
    have := h' (k + 1) g (by simpa using hg)
    simpa using this
theorem znA {n : Int} : ∀ (l prev : List Mes), chkF n prev l = none ↔ ∀ (i : Nat) (m : Mes), l[i]? = some m → zcp m.Name = true ∧ (prev ++ l.take i).any (fun g => g.Name == m.Name) = false ∧ m.Fields.length ≤ 200 ∧ msgF n [] m.Fields = none
 | [], prev => by simp [chkF]
 | m :: l, prev => by
  rw [chkF]
  by_cases h1 : zcp m.Name = false
  ·rw [if_pos h1]
   refine ⟨(fun h' => nomatch h'), fun h' => ?_⟩
   have := (h' 0 m rfl).1
   rw [h1] at this; cases this
  ·rw [if_neg h1]
   by_cases h2 : prev.any (fun g => g.Name == m.Name) = true
   ·rw [if_pos h2]
    refine ⟨(fun h' => nomatch h'), fun h' => ?_⟩
    have := (h' 0 m rfl).2.1
    simp only [List.take_zero, List.append_nil] at this
    rw [h2] at this; cases this
   ·rw [if_neg h2]
    by_cases h3 : 200 < m.Fields.length
    ·rw [if_pos h3]
     refine ⟨(fun h' => nomatch h'), fun h' => ?_⟩
     have := (h' 0 m rfl).2.2.1
     omega
    ·rw [if_neg h3]
     cases h4 : msgF n [] m.Fields with
     | some p =>
      refine ⟨(fun h' => nomatch h'), fun h' => ?_⟩
      have := (h' 0 m rfl).2.2.2
      rw [h4] at this; cases this
     | none =>
      simp only
      rw [znA l (prev ++ [m])]
      constructor
      ·intro h' i g hg
       cases i with
       | zero => simp at hg; subst hg; exact ⟨by simpa using h1, by simpa using h2, by omega, h4⟩
       | succ i => have := h' i g (by simpa using hg); simpa using this
      ·intro h' i g hg
       have := h' (i + 1) g (by simpa using hg)
       simpa using this
theorem zvk : ∀ (n : Int) (l prev : List Fld) (k : Nat) (w : Int), msgF n prev l = some (k, w) → 0 < w := by
 intro n l
 induction l with
 | nil => intro prev k w h; cases h
 | cons f l ih =>
  intro prev k w h
  rw [msgF] at h
  split at h
  ·cases h; assumption
  ·exact ih _ _ _ h
theorem zrt : ∀ (n : Int) (l prev : List Mes) (i : Nat) (k w : Int), chkF n prev l = some (i, k, w) → 0 < w := by
 intro n l
 induction l with
 | nil => intro prev i k w h; cases h
 | cons m l ih =>
  intro prev i k w h
  rw [chkF] at h
  split at h
  ·cases h; omega
  ·split at h
   ·cases h; omega
   ·split at h
    ·cases h; omega
    ·split at h
     ·rename_i k' w' h'; cases h; exact zvk _ _ _ _ _ h'
     ·exact ih _ _ _ _ h
structure zvH (n : Int) (f : Fld) : Prop where
 name : zcp f.Name = true
 lo : 1 ≤ f.Number
 hi : f.Number ≤ 536870911
 kind : zbQ f.Kind = true
 packed : f.Packed = true → f.Repeated = true ∧ kNum f.Kind = true
 sub : f.Kind = 17 → 0 ≤ f.Of ∧ f.Of < n
 noSub : f.Kind ≠ 17 → f.Of = 0
theorem zlT {n : Int} {prev : List Fld} {f : Fld} (h : zbg n prev f = 0) : zvH n f ∧ prev.any (fun g => g.Name == f.Name) = false ∧ prev.any (fun g => g.Number == f.Number) = false := by
 unfold zbg at h
 split at h
 ·omega
 ·rename_i h1
  split at h
  ·omega
  ·rename_i h2
   split at h
   ·omega
   ·rename_i h3
    split at h
    ·omega
    ·rename_i h4
     split at h
     ·omega
     ·rename_i h5
      split at h
      ·omega
      ·rename_i h6
       split at h
       ·omega
       ·rename_i h7
        refine ⟨⟨by simpa using h1, by omega, by omega, by simpa using h5, fun hp => ?_, fun hk => by omega, fun hk => by omega⟩, by simpa using h2, by simpa using h4⟩
        by_cases hq : f.Repeated = true ∧ kNum f.Kind = true
        ·exact hq
        ·exact absurd ⟨hp, hq⟩ h6
structure zlF (s : List Mes) : Prop where
 len : 1 ≤ s.length ∧ s.length ≤ 100
 name : ∀ m ∈ s, zcp m.Name = true
 names : ∀ (i j : Nat) (a b : Mes), i < j → s[i]? = some a → s[j]? = some b → a.Name ≠ b.Name
 few : ∀ m ∈ s, m.Fields.length ≤ 200
 fld : ∀ m ∈ s, ∀ f ∈ m.Fields, zvH s.length f
 nums : ∀ m ∈ s, ∀ (i j : Nat) (f g : Fld), i < j → m.Fields[i]? = some f → m.Fields[j]? = some g → f.Number ≠ g.Number ∧ f.Name ≠ g.Name
theorem zkq {α : Type} {l : List α} {p : α → Bool} (h : l.any p = false) {x : α} (hx : x ∈ l) : p x = false := by
 rw [List.any_eq_false] at h
 simpa using h x hx
theorem zsB {s : List Mes} (h : zhq s = true) : zlF s := by
 have h0 : (zey s).2.2 = 0 := by simpa [zhq] using h
 have h1 : ¬ (s.length = 0 ∨ 100 < s.length) := fun hh => by unfold zey at h0; rw [if_pos hh] at h0; simp at h0
 have h2 : chkF s.length [] s = none := by
  cases h4 : chkF s.length [] s with
  | none => rfl
  | some p =>
   exfalso
   obtain ⟨i, k, w⟩ := p
   have h5 : (zey s).2.2 = w := by unfold zey; rw [if_neg h1, h4]
   have := zrt _ _ _ _ _ _ h4
   omega
 have h3 := (znA s []).1 h2
 have at' : ∀ m ∈ s, zcp m.Name = true ∧ m.Fields.length ≤ 200 ∧ msgF s.length [] m.Fields = none := fun m hm => by
  obtain ⟨i, hi, rfl⟩ := List.getElem_of_mem hm
  have := h3 i _ (List.getElem?_eq_getElem hi)
  exact ⟨this.1, this.2.2.1, this.2.2.2⟩
 refine ⟨by omega, fun m hm => (at' m hm).1, fun i j a b hij ha hb => ?_, fun m hm => (at' m hm).2.1, fun m hm f hf => ?_, fun m hm i j f g hij hf hg => ?_⟩
 ·have := (h3 j b hb).2.1
  have hai : a ∈ ([] ++ s.take j : List Mes) := by
   rw [List.nil_append]
   exact List.mem_of_getElem? (i := i) (by rw [List.getElem?_take, if_pos hij]; exact ha)
  simpa using zkq this hai
 ·have h4 := (zkB m.Fields []).1 (at' m hm).2.2
  obtain ⟨i, hi, rfl⟩ := List.getElem_of_mem hf
  exact (zlT (h4 i _ (List.getElem?_eq_getElem hi))).1
 ·have h4 := (zkB m.Fields []).1 (at' m hm).2.2
  obtain ⟨_, k1, k2⟩ := zlT (h4 j g hg)
  have hai : f ∈ ([] ++ m.Fields.take j : List Fld) := by
   rw [List.nil_append]
   exact List.mem_of_getElem? (i := i) (by rw [List.getElem?_take, if_pos hij]; exact hf)
  exact ⟨by simpa using zkq k2 hai, by simpa using zkq k1 hai⟩
theorem zsc {s : List Mes} {i : Nat} {m : Mes} (hi : ∃ h : i < s.length, s[i] = m) (hb : m.Fields.length ≤ 140737488351232) : ∀ (d k : Nat) (n : Int), k + d = m.Fields.length → ∃ r, zbt i s n k = some r := by
 obtain ⟨hil, hm⟩ := hi
 have e1 : idx s (i : Int) = some m := by rw [zaH rfl hil, hm]
 intro d
 induction d with
 | zero =>
  intro k n hk
  refine ⟨n, zgB ?_⟩
  unfold zat
  rw [e1, sb, itF (by simp; omega)]
 | succ d ih =>
  intro k n hk
  obtain ⟨r, hr⟩ := ih (k + 1) (IntKind.i64.wrap (n + (IntKind.i64.wrap (Int.tdiv (((m.Fields[k]'(by omega)).Name.length : Int)) 100)))) (by omega)
  refine ⟨r, (zgA (k' := ((k + 1 : Nat) : Int)) ?_).trans hr⟩
  unfold zat
  rw [e1, sb, itT (by simp; omega), sb, zaH rfl (by omega), sb, zz (x := (k : Int) + 1) (by omega)]
  push_cast; rfl
theorem zti {s : List Mes} (hw : WS s) : ∃ b, zbW s = some b := by
 obtain ⟨hs, hm⟩ := hw
 have key : ∀ (d i : Nat) (n : Int), i + d = s.length → ∃ r, zbs s n i = some r := by
  intro d
  induction d with
  | zero =>
   intro i n hi
   refine ⟨n, zgz ?_⟩
   unfold zas
   rw [itF (by simp; omega)]
  | succ d ih =>
   intro i n hi
   have hil : i < s.length := by omega
   obtain ⟨q, hq⟩ := zsc (s := s) (i := i) (m := s[i]) ⟨hil, rfl⟩ (hm _ (List.getElem_mem hil)).2.1 (s[i]).Fields.length 0
    (IntKind.i64.wrap ((IntKind.i64.wrap ((IntKind.i64.wrap (n + 1)) + (IntKind.i64.wrap (Int.tdiv ((s[i]).Name.length : Int) 100)))) + ((s[i]).Fields.length : Int))) (by omega)
   have hq' : zbt i s (IntKind.i64.wrap ((IntKind.i64.wrap ((IntKind.i64.wrap (n + 1)) + (IntKind.i64.wrap (Int.tdiv ((s[i]).Name.length : Int) 100)))) + ((s[i]).Fields.length : Int))) 0 = some q := hq
   obtain ⟨r, hr⟩ := ih (i + 1) q (by omega)
   refine ⟨r, (zgy (i' := ((i + 1 : Nat) : Int)) ?_).trans hr⟩
   unfold zas
   rw [itT (by simp; omega), zaH rfl hil, sb, sb, hq', sb, zz (x := (i : Int) + 1) (by omega)]
   push_cast; rfl
 obtain ⟨r, hr⟩ := key s.length 0 0 (by omega)
 have hr' : zbs s 0 0 = some r := hr
 exact ⟨_, by unfold zbW; rw [hr', sb]⟩
def zvM (m : Mes) (p : Int) : Int := (m.Fields.getD p.toNat ⟨[], 0, 0, false, false, 0⟩).Number
def zsV (κ : Int → Int) (a b : Int) : Prop := κ a < κ b ∨ κ a = κ b ∧ a < b
end Go.Proofs.YtnfembipjdohcaaGreat
namespace Go.Proofs.YtnfembipjdohcaaGreat
open Go
set_option linter.unusedVariables false
abbrev Vw := zaF
def zvw : Vw := ⟨zrec, 0, false⟩
def zcn (m : Mes) (i : Int) : Fld := m.Fields.getD i.toNat ⟨[], 0, 0, false, false, 0⟩
def vw (m : Mes) (n w : Int) : Int ⊕ (Int × Bool) :=
 if fldI m n < 0 then .inr (-1, false)
 else if (zcn m (fldI m n)).Repeated = true ∧ kNum (zcn m (fldI m n)).Kind = true ∧ w = 2 then .inr (fldI m n, true)
 else if zbQ (zcn m (fldI m n)).Kind = false ∨ zdq (zcn m (fldI m n)).Kind ≠ w then .inl 6 else .inr (fldI m n, false)
theorem zjj (m : Mes) (n : Int) : fldI m n = -1 ∧ (∀ f ∈ m.Fields, f.Number ≠ n) ∨ ∃ (i : Nat) (h : i < m.Fields.length), fldI m n = i ∧ m.Fields[i].Number = n ∧ ∀ (j : Nat) (h : j < m.Fields.length), j < i → m.Fields[j].Number ≠ n := by
 unfold fldI
 cases h : m.Fields.findIdx? (fun f : Fld => f.Number == n) with
 | none =>
  left
  rw [List.findIdx?_eq_none_iff] at h
  exact ⟨zkR (List.findIdx?_eq_none_iff.2 h), fun f hf => by simpa using h f hf⟩
 | some i =>
  right
  have h' := h
  rw [List.findIdx?_eq_some_iff_getElem] at h
  obtain ⟨hi, hp, hj⟩ := h
  exact ⟨i, hi, zkS h', by simpa using hp, fun j hjl hji => by simpa using hj j hji⟩
theorem zgE {m : Mes} {i : Nat} (h : i < m.Fields.length) : zcn m (i : Int) = m.Fields[i] := by
 unfold zcn; rw [Int.toNat_natCast, List.getD_eq_getElem?_getD, List.getElem?_eq_getElem h]; rfl
theorem zhc (m : Mes) (n w : Int) : vw m n w = .inl 6 ∨ vw m n w = .inr (-1, false) ∧ fldI m n = -1 ∨ ∃ (i : Nat) (run : Bool), vw m n w = .inr ((i : Int), run) ∧ fldI m n = i ∧ i < m.Fields.length := by
 unfold vw
 rcases zjj m n with ⟨h, _⟩ | ⟨i, hi, h, _⟩
 ·right; left; rw [h, if_pos (by omega)]; exact ⟨rfl, rfl⟩
 ·rw [h, if_neg (by omega)]
  split
  ·right; right; exact ⟨i, true, rfl, rfl, hi⟩
  ·split
   ·left; rfl
   ·right; right; exact ⟨i, false, rfl, rfl, hi⟩
def zbS (m : Mes) (b : List UInt8) (at5 : Int) : Vw × Int :=
 if (zcL b at5).2 ≠ 0 then (zvw, (zcL b at5).2) else match vw m (zcL b at5).1.Number (zcL b at5).1.Wire with
  | .inl c => (zvw, c)
  | .inr (i, run) => (⟨(zcL b at5).1, i, run⟩, 0)
theorem zmF {m : Mes} (hm : m.Fields.length ≤ 1152921504606846976) {b : List UInt8} (hb : b.length ≤ 1048576) (at5 : Int) : zcx m b at5 = some (zbS m b at5) := by
 unfold zcx zbS
 rw [zrc hb, sb]
 by_cases h : (zcL b at5).2 = 0
 ·rw [itF (by simpa using h), if_neg (by simpa using h), zpQ hm, sb]
  generalize (zcL b at5).1 = r
  unfold vw
  rcases zjj m r.Number with ⟨hf, _⟩ | ⟨i, hi, hf, _⟩
  ·rw [hf, itT (by rfl), if_pos (by decide)]
  ·rw [hf, itF (by simp), if_neg (by omega), zaH rfl hi, sb, zgE hi, zjq, sb, zka, sb, zpR, sb]
   have e : (if (m.Fields[i]).Repeated = true then (if kNum (m.Fields[i]).Kind = true then some (r.Wire == 2) else some false) else some false) = some (decide ((m.Fields[i]).Repeated = true ∧ kNum (m.Fields[i]).Kind = true ∧ r.Wire = 2)) := by
    cases (m.Fields[i]).Repeated
    ·rfl
    ·cases kNum (m.Fields[i]).Kind
     ·rfl
     ·by_cases hw : r.Wire = 2 <;> simp [hw]
   rw [e, sb]
   by_cases h1 : (m.Fields[i]).Repeated = true ∧ kNum (m.Fields[i]).Kind = true ∧ r.Wire = 2
   ·rw [itT (decide_eq_true h1), if_pos h1]
   ·rw [itF (decide_eq_false h1), if_neg h1]
    have e2 : (if (!zbQ (m.Fields[i]).Kind) = true then some true else some (zdq (m.Fields[i]).Kind != r.Wire)) = some (decide (zbQ (m.Fields[i]).Kind = false ∨ zdq (m.Fields[i]).Kind ≠ r.Wire)) := by
     cases zbQ (m.Fields[i]).Kind
     ·rfl
     ·by_cases hw : zdq (m.Fields[i]).Kind = r.Wire <;> simp [hw]
    rw [e2, sb]
    by_cases h2 : zbQ (m.Fields[i]).Kind = false ∨ zdq (m.Fields[i]).Kind ≠ r.Wire
    ·rw [itT (decide_eq_true h2), if_pos h2]; rfl
    ·rw [itF (decide_eq_false h2), if_neg h2]
 ·rw [itT (by simpa using h), if_pos h]; rfl
end Go.Proofs.YtnfembipjdohcaaGreat
namespace Go.Proofs.YtnfembipjdohcaaGreat
open Go
set_option linter.unusedVariables false
def zak (s : List Mes) (i : Int) : Mes := s.getD i.toNat ⟨[], []⟩
theorem zgI {s : List Mes} {i : Nat} (h : i < s.length) : zak s (i : Int) = s[i] := by
 unfold zak; rw [Int.toNat_natCast, List.getD_eq_getElem?_getD, List.getElem?_eq_getElem h]; rfl
def valB (b : List UInt8) (r : Rec) : List UInt8 := (b.drop r.At.toNat).take (r.To.toNat - r.At.toNat)
abbrev zgx := Option (Int → List UInt8 → Option (Int × Int))
def zhi (f : Fld) (run : Bool) (sub : zgx) (r : Rec) (v : List UInt8) : Option (Int × Int) :=
 if run = true then (if (zgC f.Kind v).2 ≠ 0 then some (r.From, (zgC f.Kind v).2) else none)
 else if f.Kind = 15 ∧ zdJ v = false then some (r.From, 7)
 else if f.Kind = 17 then (match sub with
  | none => some (r.From, 8)
  | some g => match g f.Of v with
   | some (p, c) => some (r.At + p, c)
   | none => none)
 else none
def zbr (m : Mes) (sub : zgx) (b : List UInt8) (r : Rec) : Option (Int × Int) := match vw m r.Number r.Wire with
 | .inl c => some (r.From, c)
 | .inr (i, run) => if i < 0 then none else zhi (zcn m i) run sub r (valB b r)
def zaG (m : Mes) (sub : zgx) (b : List UInt8) (x : List Rec × Option (Nat × Int)) : Option (Int × Int) := match x.1.findSome? (zbr m sub b) with
 | some p => some p
 | none => x.2.map fun p => ((p.1 : Int), p.2)
def zaf (s : List Mes) : Nat → Int → List UInt8 → Option (Int × Int)
 | 0, k, b => zaG (zak s k) none b (spl 0 b)
 | d + 1, k, b => zaG (zak s k) (some (zaf s d)) b (spl 0 b)
def zkm (g : Int → List UInt8 → Option (Int × Int)) : Prop := ∀ k v p c, g k v = some (p, c) → 3 ≤ c ∧ c ≤ 8 ∧ 0 ≤ p ∧ p < v.length
theorem zsb (k : Int) {b : List UInt8} : (zgC k b).2 = 0 ∨ (zgC k b).2 = 2 ∧ kNum k = false ∨ (zgC k b).2 = 3 ∨ (zgC k b).2 = 4 := by
 unfold zgC
 have := zpO k b
 split
 ·rename_i h; exact .inr (.inl ⟨rfl, h⟩)
 ·split
  ·exact .inl rfl
  ·rename_i h; simp only; omega
theorem zuF {m : Mes} {n w : Int} {i : Int} (h : vw m n w = .inr (i, true)) : kNum (zcn m i).Kind = true ∧ (zcn m i).Repeated = true ∧ w = 2 := by
 unfold vw at h
 split at h
 ·cases h
 ·split at h
  ·rename_i h1; cases h; exact ⟨h1.2.1, h1.1, h1.2.2⟩
  ·split at h <;> cases h
theorem zqk {b : List UInt8} {r : Rec} {base a t : Nat} (hr : r.At = ((base + a : Nat) : Int)) (ht : r.To = ((base + t : Nat) : Int)) (h : base + t ≤ b.length) (hat : a ≤ t) : (valB b r).length = t - a := by
 unfold valB; rw [hr, ht]; simp; omega
theorem zob {m : Mes} {sub : zgx} {b : List UInt8} (hg : ∀ g, sub = some g → zkm g) {n w : Int} {base a t : Nat} (h1 : 1 ≤ a) (hat : a ≤ t) (ht : base + t ≤ b.length) {p c : Int}
  (h : zbr m sub b ⟨n, w, base, (base + a : Nat), (base + t : Nat)⟩ = some (p, c)) : 3 ≤ c ∧ c ≤ 8 ∧ 0 ≤ p ∧ p < b.length := by
 unfold zbr at h
 rcases zhc m n w with hv | ⟨hv, _⟩ | ⟨i, run, hv, _, hi⟩
 ·simp only [hv] at h; cases h; (try dsimp only); omega
 ·simp only [hv] at h; rw [if_pos (by omega)] at h; cases h
 ·simp only [hv] at h
  rw [if_neg (by omega)] at h
  unfold zhi at h
  split at h
  ·rename_i hr
   subst hr
   have hk := zuF hv
   split at h
   ·cases h
    have := zsb (zcn m i).Kind (b := valB b ⟨n, w, base, (base + a : Nat), (base + t : Nat)⟩)
    rw [hk.1] at this
    simp only [Bool.true_eq_false, and_false, false_or] at this
    (try dsimp only)
    omega
   ·cases h
  ·split at h
   ·cases h; (try dsimp only); omega
   ·split at h
    ·cases sub with
     | none => simp only at h; cases h; (try dsimp only); omega
     | some g =>
      simp only at h
      have hl := zqk (b := b) (r := ⟨n, w, base, (base + a : Nat), (base + t : Nat)⟩) rfl rfl ht hat
      cases hgv : g (zcn m i).Of (valB b ⟨n, w, base, (base + a : Nat), (base + t : Nat)⟩) with
      | none => rw [hgv] at h; cases h
      | some q =>
       obtain ⟨q1, q2⟩ := q
       rw [hgv] at h
       have := hg g rfl _ _ _ _ hgv
       cases h
       (try dsimp only)
       omega
    ·cases h
theorem znH {m : Mes} {sub : zgx} {b : List UInt8} (hg : ∀ g, sub = some g → zkm g) (base : Nat) (l : List UInt8) : l = b.drop base → base ≤ b.length → ∀ p c, zaG m sub b (spl base l) = some (p, c) → 3 ≤ c ∧ c ≤ 8 ∧ 0 ≤ p ∧ p < b.length := by
 refine zoT (fun base l => l = b.drop base → base ≤ b.length → ∀ p c, zaG m sub b (spl base l) = some (p, c) → 3 ≤ c ∧ c ≤ 8 ∧ 0 ≤ p ∧ p < b.length) ?_ ?_ ?_ base l
 ·intro base _ _ p c h
  unfold zaG at h; rw [ziM] at h; cases h
 ·intro base l c' hl h hc hld hb p c h2
  have hlt : base < b.length := by subst hld; have := List.length_pos_iff.2 hl; simp at this; omega
  unfold zaG at h2; rw [zoS hl h] at h2
  simp only [List.findSome?_nil, Option.map_some] at h2
  cases h2; omega
 ·intro base l n w a t hl h _ g1 g2 g3 ih hld hb p c h2
  have hbl : base + t ≤ b.length := by subst hld; simp at g3; omega
  unfold zaG at h2 ih
  rw [zgS hl h] at h2
  simp only [List.findSome?_cons] at h2
  cases hs : zbr m sub b ⟨n, w, base, (base + a : Nat), (base + t : Nat)⟩ with
  | some q => rw [hs] at h2; cases h2; exact zob hg g1 g2 hbl hs
  | none =>
   rw [hs] at h2
   exact ih (by rw [hld, List.drop_drop]) hbl p c h2
theorem zez (s : List Mes) : ∀ (d : Nat), zkm (zaf s d)
 | 0 => fun k v p c h => znH (fun g hg => by cases hg) 0 v rfl (Nat.zero_le _) p c h
 | d + 1 => fun k v p c h => znH (fun g hg => by cases hg; exact zez s d) 0 v rfl (Nat.zero_le _) p c h
theorem zlW {s : List Mes} {k : Nat} {m : Mes} (hk : ∃ h : k < s.length, s[k] = m) (hm : m.Fields.length ≤ 1152921504606846976) {b : List UInt8} (hb : b.length ≤ 1048576) {d : Int} (hd : 0 ≤ d ∧ d ≤ 64) {sub : zgx}
  {rec : List zh → Int → List UInt8 → Int → Option (Int × Int)} (hg : ∀ g, sub = some g → zkm g) (h0 : sub = none ↔ d = 0)
  (hs : ∀ g, sub = some g → ∀ f ∈ m.Fields, f.Kind = 17 → ∀ v : List UInt8, v.length ≤ b.length → rec s f.Of v (d - 1) = some ((g f.Of v).getD (0, 0))) (base : Nat) (l : List UInt8) :
  l = b.drop base → base ≤ b.length → zaz b d k rec s base = some (match zaG m sub b (spl base l) with | none => .inl () | some p => .inr p) := by
 obtain ⟨hkl, hke⟩ := hk
 have e1 : idx s (k : Int) = some m := by rw [zaH rfl hkl, hke]
 refine zoT (fun base l => l = b.drop base → base ≤ b.length → zaz b d k rec s base = some (match zaG m sub b (spl base l) with | none => .inl () | some p => .inr p)) ?_ ?_ ?_ base l
 ·intro base hl hbase
  have : b.length ≤ base := by have := congrArg List.length hl; simp at this; omega
  unfold zaG
  rw [ziM]
  refine zco ?_
  unfold zT
  rw [itF (by simp; omega)]; rfl
 ·intro base l c hl h hc hld hbase
  subst hld
  have hlt : base < b.length := by have := List.length_pos_iff.2 hl; simp at this; omega
  unfold zaG
  rw [zoS hl h]
  refine zco ?_
  unfold zT
  have e : zcL b base = (zrec, c) := by unfold zcL; rw [if_neg (by omega), Int.toNat_natCast, h]
  have e2 : zbS m b base = (zvw, c) := by unfold zbS; rw [e, if_pos (by simp only; omega)]
  rw [itT (by simp; omega), e1, sb, zmF hm hb, sb, e2, itT (by simp; omega)]; rfl
 ·intro base l n w a t hl h _ g1 g2 g3 ih hld hbase
  subst hld
  simp only [List.length_drop] at g3
  have hlt : base < b.length := by omega
  have e : zcL b base = (⟨n, w, base, (base + a : Nat), (base + t : Nat)⟩, 0) := by
   unfold zcL; rw [if_neg (by omega), Int.toNat_natCast, h]; push_cast; rfl
  have ih' := ih (by rw [List.drop_drop]) (by omega)
  have hfr : zaG m sub b (spl base (b.drop base)) = match zbr m sub b ⟨n, w, base, (base + a : Nat), (base + t : Nat)⟩ with
    | some p => some p
    | none => zaG m sub b (spl (base + t) ((b.drop base).drop t)) := by
   unfold zaG
   rw [zgS hl h]
   simp only [List.findSome?_cons]
   cases zbr m sub b ⟨n, w, base, (base + a : Nat), (base + t : Nat)⟩ <;> rfl
  have hcut : cut b ((base + a : Nat) : Int) ((base + t : Nat) : Int) = some (valB b ⟨n, w, base, (base + a : Nat), (base + t : Nat)⟩) := by
   rw [zfb rfl rfl (by omega) (by omega)]; unfold valB; simp only [Int.toNat_natCast]
  have hvl := zqk (b := b) (r := ⟨n, w, base, (base + a : Nat), (base + t : Nat)⟩) rfl rfl (by omega) g2
  -- the body, by what the record's fault is
  have hbody : zT b d k rec s base = match zbr m sub b ⟨n, w, base, (base + a : Nat), (base + t : Nat)⟩ with
    | some p => some (.inr (.inr p))
    | none => some (.inl ((base + t : Nat) : Int)) := by
   unfold zT zbr
   rw [itT (by simp; omega), e1, sb, zmF hm hb, sb]
   rcases zhc m n w with hv | ⟨hv, _⟩ | ⟨i, run, hv, _, hi⟩
   ·have e2 : zbS m b base = (zvw, 6) := by unfold zbS; rw [e]; simp only [ne_eq, not_true_eq_false, if_false, hv]
    rw [e2, itT (by rfl)]
    simp only [hv]
   ·have e2 : zbS m b base = (⟨⟨n, w, base, (base + a : Nat), (base + t : Nat)⟩, -1, false⟩, 0) := by unfold zbS; rw [e]; simp only [ne_eq, not_true_eq_false, if_false, hv]
    rw [e2, itF (by rfl)]
    simp only [hv]
    rw [hcut, sb, itF (by rfl), if_pos (by omega)]
   ·have e2 : zbS m b base = (⟨⟨n, w, base, (base + a : Nat), (base + t : Nat)⟩, i, run⟩, 0) := by unfold zbS; rw [e]; simp only [ne_eq, not_true_eq_false, if_false, hv]
    have hfm : zcn m (i : Int) ∈ m.Fields := by rw [zgE hi]; exact List.getElem_mem hi
    rw [e2, itF (by rfl)]
    simp only [hv]
    rw [hcut, sb, itT (by simp), sb, zaH rfl hi, sb, if_neg (show ¬ ((i : Int) < 0) by omega), ← zgE hi]
    generalize hvv : valB b ⟨n, w, base, (base + a : Nat), (base + t : Nat)⟩ = v at hvl ⊢
    generalize zcn m (i : Int) = f at hfm ⊢
    unfold zhi
    cases run
    ·rw [itF (c := false) rfl, if_neg (show ¬ (false = true) by simp)]
     have e15 : (if (f.Kind == 15) = true then (zbh v >>= fun rv3 => some (!rv3)) else some false) = some (decide (f.Kind = 15 ∧ zdJ v = false)) := by
      rw [zpV (by omega), sb]
      by_cases h15 : f.Kind = 15
      ·rw [itT (by simpa using h15)]; cases zdJ v <;> simp [h15]
      ·rw [itF (by simpa using h15)]; simp [h15]
     rw [e15, sb]
     by_cases h15 : f.Kind = 15 ∧ zdJ v = false
     ·rw [itT (decide_eq_true h15), if_pos h15]
     ·rw [itF (decide_eq_false h15), if_neg h15]
      by_cases h17 : f.Kind = 17
      ·rw [itT (by simpa using h17), if_pos h17]
       cases hsub : sub with
       | none =>
        have := h0.1 hsub
        rw [itT (by simpa using this)]
       | some g =>
        have hd0 : d ≠ 0 := fun hh => by rw [h0.2 hh] at hsub; cases hsub
        rw [itF (by simpa using hd0), zz (x := d - 1) (by omega), hs g hsub f hfm h17 v (by omega), sb]
        cases hgv : g f.Of v with
        | none => simp only [Option.getD_none, hgv]; rw [itF (by rfl)]
        | some q =>
         obtain ⟨q1, q2⟩ := q
         have := hg g hsub _ _ _ _ hgv
         simp only [Option.getD_some, hgv]
         rw [itT (by simp; omega), zz (by omega)]
      ·rw [itF (by simpa using h17), if_neg h17]
    ·rw [itT (c := true) rfl, if_pos (show true = true from rfl), zra _ (by omega), sb]
     by_cases he : (zgC f.Kind v).2 = 0
     ·rw [itF (by simpa using he), if_neg (show ¬ ((zgC f.Kind v).2 ≠ 0) from fun hh => hh he)]
     ·rw [itT (by simpa using he), if_pos he]
  rw [hfr]
  cases hst : zbr m sub b ⟨n, w, base, (base + a : Nat), (base + t : Nat)⟩ with
  | some p => rw [hst] at hbody; rw [zco hbody]
  | none => rw [hst] at hbody; rw [zfW hbody, ih']
theorem znl {s : List Mes} (hr : zlF s) : ∀ (d fuel : Nat), d ≤ 64 → d < fuel → ∀ (k : Nat) (b : List UInt8), k < s.length → b.length ≤ 1048576 →
  zax fuel s k b d = some ((zaf s d k b).getD (0, 0)) := by
 intro d
 induction d with
 | zero =>
  intro fuel hd hf k b hk hb
  obtain ⟨fuel, rfl⟩ : ∃ q, fuel = q + 1 := ⟨fuel - 1, by omega⟩
  have h := zlW (s := s) (k := k) (m := s[k]) ⟨hk, rfl⟩ (by have := hr.few _ (List.getElem_mem hk); omega) hb (d := 0) (by omega) (sub := none) (rec := zax fuel) (fun g hg => by cases hg) (by simp) (fun g hg => by cases hg) 0 b rfl (Nat.zero_le _)
  have h' : zaz b 0 k (zax fuel) s 0 = _ := h
  show zaR (zax fuel) s k b 0 = _
  unfold zaR
  rw [h', sb, zaf, zgI hk]
  cases zaG s[k] none b (spl 0 b) <;> rfl
 | succ d ih =>
  intro fuel hd hf k b hk hb
  obtain ⟨fuel, rfl⟩ : ∃ q, fuel = q + 1 := ⟨fuel - 1, by omega⟩
  have h := zlW (s := s) (k := k) (m := s[k]) ⟨hk, rfl⟩ (by have := hr.few _ (List.getElem_mem hk); omega) hb (d := ((d + 1 : Nat) : Int)) (by omega) (sub := some (zaf s d)) (rec := zax fuel)
   (fun g hg => by cases hg; exact zez s d) (by constructor <;> intro h <;> first | cases h | omega)
   (fun g hg f hf17 h17 v hv => by
    cases hg
    have hof := (hr.fld _ (List.getElem_mem hk) f hf17).sub h17
    obtain ⟨q, hq⟩ : ∃ q : Nat, f.Of = q := ⟨f.Of.toNat, by omega⟩
    have e : ((d + 1 : Nat) : Int) - 1 = (d : Int) := by omega
    rw [e, hq]
    exact ih fuel (by omega) (by omega) q v (by omega) (by omega)) 0 b rfl (Nat.zero_le _)
  have h' : zaz b ((d + 1 : Nat) : Int) k (zax fuel) s 0 = _ := h
  show zaR (zax fuel) s k b ((d + 1 : Nat) : Int) = _
  unfold zaR
  rw [h', sb, zaf, zgI hk]
  cases zaG s[k] (some (zaf s d)) b (spl 0 b) <;> rfl
def argS (s : List Mes) (root d : Int) : Int := if zhq s = false then 9 else if root < 0 ∨ root ≥ s.length ∨ d < 0 ∨ d > 64 then 2 else 0
theorem zmE {s : List Mes} (hw : WS s) (root d : Int) : zbP s root d = some (argS s root d) := by
 unfold zbP argS
 rw [znm hw, sb]
 cases h : zhq s
 ·rw [itT (c := !false) rfl, if_pos (show false = false from rfl)]
 ·rw [itF (c := !true) rfl, if_neg (show ¬ (true = false) by simp)]
  by_cases h2 : root < 0 ∨ root ≥ s.length ∨ d < 0 ∨ d > 64
  ·rw [itT (by simpa using h2), if_pos h2]
  ·rw [itF (by simp; omega), if_neg h2]
def zck (s : List Mes) (root : Int) (b : List UInt8) (d : Int) : Int × Int := if argS s root d ≠ 0 then (0, argS s root d) else (zaf s d.toNat root b).getD (0, 0)
theorem znx {s : List Mes} {root d : Int} (h : argS s root d = 0) : zlF s ∧ 0 ≤ root ∧ root < s.length ∧ 0 ≤ d ∧ d ≤ 64 := by
 unfold argS at h
 split at h
 ·omega
 ·rename_i h1
  split at h
  ·omega
  ·rename_i h2
   exact ⟨zsB (by simpa using h1), by omega⟩
theorem zgu {s : List Mes} (hw : WS s) (root : Int) {b : List UInt8} (hb : b.length ≤ 1048576) (d : Int) {fuel : Nat} (hf : 64 < fuel) : zbi fuel s root b d = some (zck s root b d) := by
 unfold zbi zck
 rw [zmE hw, sb]
 by_cases h : argS s root d = 0
 ·obtain ⟨hr, h1, h2, h3, h4⟩ := znx h
  obtain ⟨k, rfl⟩ : ∃ k : Nat, root = k := ⟨root.toNat, by omega⟩
  obtain ⟨e, rfl⟩ : ∃ k : Nat, d = k := ⟨d.toNat, by omega⟩
  rw [itF (by simpa using h), if_neg (by simpa using h), znl hr e fuel (by omega) (by omega) k b (by omega) hb, sb, Int.toNat_natCast]
 ·rw [itT (by simpa using h), if_pos h]
def is11 (s : List Mes) (root : Int) (b : List UInt8) (d : Int) : Bool := (zck s root b d).2 == 0
theorem zrb {s : List Mes} (hw : WS s) (root : Int) {b : List UInt8} (hb : b.length ≤ 1048576) (d : Int) {fuel : Nat} (hf : 64 < fuel) : zcZ fuel s root b d = some (is11 s root b d) := by
 unfold zcZ; rw [zgu hw root hb d hf, sb]; rfl
def zfl (s : List Mes) (root : Int) (b : List UInt8) : Nat := ((List.range 64).find? fun d => is11 s root b (d : Nat)).getD 64
theorem znk {s : List Mes} (hw : WS s) (root : Int) {b : List UInt8} (hb : b.length ≤ 1048576) {fuel : Nat} (hf : 64 < fuel) : zcf fuel s root b = some ((zfl s root b : Nat) : Int) := by
 have key : ∀ (n i : Nat), i + n = 64 → zbf fuel b root s i = some (match (List.range' i n).find? fun d => is11 s root b (d : Nat) with | some d => .inr ((d : Nat) : Int) | none => .inl ()) := by
  intro n
  induction n with
  | zero =>
   intro i hi
   refine zdF ?_
   unfold zZ
   rw [itF (by simp; omega)]; rfl
  | succ n ih =>
   intro i hi
   rw [List.range'_succ, List.find?_cons]
   have hbd : zZ fuel b root s i = if is11 s root b i = true then some (.inr (.inr (i : Int))) else some (.inl ((i + 1 : Nat) : Int)) := by
    unfold zZ
    rw [itT (by simp; omega), zrb hw root hb i hf, sb, zz (by omega)]; push_cast; rfl
   cases h : is11 s root b i
   ·rw [h, if_neg (by simp)] at hbd
    rw [zfV hbd, ih _ (by omega)]
   ·rw [h, if_pos rfl] at hbd
    rw [zdF hbd]
 have h := key 64 0 rfl
 have h' : zbf fuel b root s 0 = _ := h
 unfold zcf zfl
 rw [h', sb, List.range_eq_range']
 cases (List.range' 0 64).find? fun d => is11 s root b (d : Nat) <;> rfl
def zvR (a b : zgx) : Prop := ∀ g, a = some g → ∃ g', b = some g' ∧ ∀ k v, g k v = none → g' k v = none
theorem zsF {m : Mes} {a c : zgx} (h : zvR a c) {b : List UInt8} {r : Rec} (hn : zbr m a b r = none) : zbr m c b r = none := by
 unfold zbr at hn ⊢
 cases hv : vw m r.Number r.Wire with
 | inl x => rw [hv] at hn; cases hn
 | inr p =>
  obtain ⟨i, run⟩ := p
  rw [hv] at hn
  simp only at hn ⊢
  by_cases hi : i < 0
  ·rw [if_pos hi]
  ·rw [if_neg hi] at hn ⊢
   unfold zhi at hn ⊢
   by_cases hr : run = true
   ·rw [if_pos hr] at hn ⊢; exact hn
   ·rw [if_neg hr] at hn ⊢
    by_cases h15 : (zcn m i).Kind = 15 ∧ zdJ (valB b r) = false
    ·rw [if_pos h15] at hn; cases hn
    ·rw [if_neg h15] at hn ⊢
     by_cases h17 : (zcn m i).Kind = 17
     ·rw [if_pos h17] at hn ⊢
      cases a with
      | none => cases hn
      | some g =>
       obtain ⟨g', rfl, hg⟩ := h g rfl
       simp only at hn ⊢
       cases hgv : g (zcn m i).Of (valB b r) with
       | some q => rw [hgv] at hn; cases hn
       | none => rw [hg _ _ hgv]
     ·rw [if_neg h17]
theorem zfr {m : Mes} {sub : zgx} {b : List UInt8} {x : List Rec × Option (Nat × Int)} : zaG m sub b x = none ↔ (∀ r ∈ x.1, zbr m sub b r = none) ∧ x.2 = none := by
 unfold zaG
 cases h : x.1.findSome? (zbr m sub b) with
 | some p =>
  refine ⟨(fun h' => nomatch h'), fun ⟨h1, _⟩ => ?_⟩
  obtain ⟨r, hr, hs⟩ := List.exists_of_findSome?_eq_some h
  rw [h1 r hr] at hs; cases hs
 | none =>
  rw [List.findSome?_eq_none_iff] at h
  cases hx : x.2 with
  | none => exact ⟨fun _ => ⟨h, rfl⟩, fun _ => rfl⟩
  | some p => exact ⟨(fun h' => nomatch h'), fun ⟨_, h2⟩ => nomatch h2⟩
theorem znI {m : Mes} {a c : zgx} (h : zvR a c) {b : List UInt8} {x : List Rec × Option (Nat × Int)} (hn : zaG m a b x = none) : zaG m c b x = none := by
 rw [zfr] at hn ⊢
 exact ⟨fun r hr => zsF h (hn.1 r hr), hn.2⟩
theorem zlX (s : List Mes) : ∀ (d : Nat) (k : Int) (b : List UInt8), zaf s d k b = none → zaf s (d + 1) k b = none
 | 0, k, b, h => znI (a := none) (fun g hg => nomatch hg) h
 | d + 1, k, b, h => znI (a := some (zaf s d)) (fun g hg => by cases hg; exact ⟨_, rfl, fun k v hv => zlX s d k v hv⟩) h
theorem ztl (s : List Mes) {d e : Nat} (hde : d ≤ e) (k : Int) (b : List UInt8) (h : zaf s d k b = none) : zaf s e k b = none := by
 induction hde with
 | refl => exact h
 | step _ ih => exact zlX s _ k b ih
theorem zgH {s : List Mes} {root : Int} {b : List UInt8} {d : Int} : is11 s root b d = true ↔ argS s root d = 0 ∧ zaf s d.toNat root b = none := by
 unfold is11 zck
 by_cases h : argS s root d = 0
 ·rw [if_neg (by simpa using h)]
  cases hf : zaf s d.toNat root b with
  | none => simp [h]
  | some p =>
   obtain ⟨p, c⟩ := p
   have := zez s d.toNat root b p c hf
   simp only [Option.getD_some, h, true_and]
   simp; omega
 ·rw [if_pos h]
  simp [h]
theorem zlH {s : List Mes} {root d e : Int} (h : argS s root d = 0) (he : 0 ≤ e ∧ e ≤ 64) : argS s root e = 0 := by
 unfold argS at h ⊢
 split at h
 ·omega
 ·rename_i h1
  rw [if_neg h1]
  split at h
  ·omega
  ·rw [if_neg (by omega)]
theorem zqD {s : List Mes} {root : Int} {b : List UInt8} : zfl s root b ≤ 64 := by
 unfold zfl
 cases h : (List.range 64).find? fun d => is11 s root b (d : Nat) with
 | none => simp
 | some d => have := List.mem_of_find?_eq_some h; simp at this ⊢; omega
theorem zkQ {s : List Mes} {root : Int} {b : List UInt8} (h : is11 s root b 64 = true) {d : Nat} (hd : d ≤ 64) : is11 s root b (d : Nat) = true ↔ zfl s root b ≤ d := by
 obtain ⟨ha, hf⟩ := zgH.1 h
 have iff : ∀ e : Nat, e ≤ 64 → (is11 s root b (e : Nat) = true ↔ zaf s e root b = none) := fun e he => by
  rw [zgH, Int.toNat_natCast]
  exact ⟨fun h => h.2, fun h => ⟨zlH ha (by omega), h⟩⟩
 unfold zfl
 cases hx : (List.range 64).find? fun d => is11 s root b (d : Nat) with
 | none =>
  simp only [Option.getD_none]
  rw [List.find?_eq_none] at hx
  constructor
  ·intro hi
   rcases Nat.lt_or_ge d 64 with h' | h'
   ·have := hx d (by simpa using h'); rw [hi] at this; exact absurd rfl this
   ·exact h'
  ·intro h'
   have : d = 64 := by omega
   subst this; exact h
 | some e =>
  simp only [Option.getD_some]
  rw [List.find?_range_eq_some] at hx
  obtain ⟨h1, h2, h3⟩ := hx
  have he : e < 64 := by simpa using h2
  constructor
  ·intro hi
   rcases Nat.lt_or_ge d e with h' | h'
   ·have := h3 d h'; rw [hi] at this; cases this
   ·exact h'
  ·intro h'
   rw [iff d hd]
   exact ztl s h' root b ((iff e (by omega)).1 h1)
end Go.Proofs.YtnfembipjdohcaaGreat
namespace Go.Proofs.YtnfembipjdohcaaGreat
open Go
set_option linter.unusedVariables false
theorem zlG (s : List Mes) (root d : Int) : argS s root d = 0 ∨ argS s root d = 2 ∨ argS s root d = 9 := by
 unfold argS
 split
 ·omega
 ·split <;> omega
theorem zjB (s : List Mes) (root : Int) (b : List UInt8) (d : Int) : 0 ≤ (zck s root b d).2 ∧ (zck s root b d).2 ≤ 9 := by
 unfold zck
 by_cases h : argS s root d = 0
 ·rw [if_neg (by simpa using h)]
  cases hf : zaf s d.toNat root b with
  | none => simp
  | some p =>
   have := zez s d.toNat root b p.1 p.2 hf
   simp only [Option.getD_some]; omega
 ·rw [if_pos h]
  rcases zlG s root d with h | h | h <;> rw [h] <;> simp
def znB (s : List Mes) (root : Int) (b : List UInt8) : Int × Int := if (zck s root b 64).2 ≠ 0 then (0, (zck s root b 64).2) else ((zfl s root b : Nat), 0)
end Go.Proofs.YtnfembipjdohcaaGreat
namespace Go.Proofs.YtnfembipjdohcaaGreat
open Go
theorem zvl : ∀ a < 256, zkj ((a : Nat) : Int) = some (if a < 128 then (1, (a : Int)) else if a / 32 = 6 then (2, ((a % 32 : Nat) : Int)) else if a / 16 = 14 then (3, ((a % 16 : Nat) : Int)) else if a / 8 = 30 then (4, ((a % 8 : Nat) : Int)) else (0, 0)) := by decide +kernel
theorem zoR (w k : Nat) (h : k ≤ 32) : shrI .u32 (w : Int) (k : Int) = ((w / 2 ^ k : Nat) : Int) := zmP (k := .u32) (a := w) (b := k) (by simpa [IntKind.bits] using h)
theorem zlw (w : Nat) : zgY (w : Int) = some (if w < 128 then 1 else if w < 2048 then 2 else if 55296 ≤ w ∧ w ≤ 57343 then 0 else if w < 65536 then 3 else if w ≤ 1114111 then 4 else 0) := by
 unfold zgY
 have e7 : shrI .u32 (w : Int) 7 = ((w / 128 : Nat) : Int) := zoR w 7 (by omega)
 have e11 : shrI .u32 (w : Int) 11 = ((w / 2048 : Nat) : Int) := zoR w 11 (by omega)
 have e16 : shrI .u32 (w : Int) 16 = ((w / 65536 : Nat) : Int) := zoR w 16 (by omega)
 rw [e7, e11, e16]
 by_cases h1 : w < 128
 ·rw [itT (by simp; omega), if_pos h1]
 ·rw [itF (by simp; omega), if_neg h1]
  by_cases h2 : w < 2048
  ·rw [itT (by simp; omega), if_pos h2]
  ·rw [itF (by simp; omega), if_neg h2]
   by_cases h3 : 55296 ≤ w ∧ w ≤ 57343
   ·rw [itT (by simp; omega), if_pos h3]
   ·rw [itF (by simp; omega), if_neg h3]
    by_cases h4 : w < 65536
    ·rw [itT (by simp; omega), if_pos h4]
    ·rw [itF (by simp; omega), if_neg h4]
     by_cases h5 : w ≤ 1114111
     ·rw [itT (by simp; omega), if_pos h5]
     ·rw [itF (by simp; omega), if_neg h5]
theorem zsm : ∀ c < 256, shrI .u8 ((c : Nat) : Int) 6 = ((c / 64 : Nat) : Int) ∧ IntKind.u32.wrap (andI .u8 ((c : Nat) : Int) 63) = ((c % 64 : Nat) : Int) := by decide +kernel
theorem zft {v : List UInt8} {w i : Nat} (h : i < v.length) (hv : v.length ≤ 1000) (hw : w ≤ 1000000) :
  zaZ v w i = if cont v[i] then zaZ v ((64 * w + v[i].toNat % 64 : Nat) : Int) ((i + 1 : Nat) : Int) else some (.inr ()) := by
 have hc := v[i].toNat_lt
 obtain ⟨e1, e2⟩ := zsm v[i].toNat (by omega)
 have hb : zbL v w i = if cont v[i] then some (.inl (((64 * w + v[i].toNat % 64 : Nat) : Int), ((i + 1 : Nat) : Int))) else some (.inr (.inr ())) := by
  unfold zbL
  rw [itT (by simp; omega), zaH rfl h, sb, e1, e2]
  by_cases hk : cont v[i] = true
  ·rw [if_pos hk]
   unfold cont at hk
   simp only [decide_eq_true_eq] at hk
   rw [itF (by simp; omega), zz (by omega)]
   have e3 : shlI .u32 (w : Int) 6 = ((w * 64 : Nat) : Int) := by
    have : shlI .u32 (w : Int) 6 = ((w * 64 % 4294967296 : Nat) : Int) := by simp [shlI, IntKind.bits, zqp]
    rw [this, Nat.mod_eq_of_lt (by omega)]
   rw [e3, zrS rfl (by simp [IntKind.bits]; omega) (by simp [IntKind.bits]; omega), Nat.or_comm, zpM _ w 6 (by omega)]
   have e4 : v[i].toNat % 64 + w * 2 ^ 6 = 64 * w + v[i].toNat % 64 := by omega
   rw [e4]; rfl
  ·rw [if_neg hk]
   unfold cont at hk
   simp only [decide_eq_true_eq] at hk
   rw [itT (by simp; omega)]
 by_cases hk : cont v[i] = true
 ·rw [if_pos hk] at hb ⊢; exact zlh hb
 ·rw [if_neg hk] at hb ⊢; exact zhB hb
theorem zjO {v : List UInt8} {w i : Nat} (h : v.length ≤ i) : zaZ v w i = some (.inl (w : Int)) := by
 refine zhB ?_
 unfold zbL
 rw [itF (by simp; omega)]
theorem zwD {w : Nat} {b : UInt8} (hw : w ≤ 100) : zaZ [b] w 0 = if cont b then some (.inl ((64 * w + b.toNat % 64 : Nat) : Int)) else some (.inr ()) := by
 have h := zft (v := [b]) (w := w) (i := 0) (by simp) (by simp) (by omega)
 refine Eq.trans h ?_
 simp only [List.getElem_cons_zero]
 rw [zjO (by simp)]
theorem zwE {w : Nat} {b c : UInt8} (hw : w ≤ 100) : zaZ [b, c] w 0 = if cont b then (if cont c then some (.inl ((64 * (64 * w + b.toNat % 64) + c.toNat % 64 : Nat) : Int)) else some (.inr ())) else some (.inr ()) := by
 have h := zft (v := [b, c]) (w := w) (i := 0) (by simp) (by simp) (by omega)
 refine Eq.trans h ?_
 rw [zft (i := 0 + 1) (by simp) (by simp) (by omega)]
 simp only [List.getElem_cons_zero, List.getElem_cons_succ, Nat.zero_add]
 rw [zjO (by simp)]
theorem zwF {w : Nat} {b c d : UInt8} (hw : w ≤ 100) : zaZ [b, c, d] w 0 = if cont b then (if cont c then (if cont d then some (.inl ((64 * (64 * (64 * w + b.toNat % 64) + c.toNat % 64) + d.toNat % 64 : Nat) : Int)) else some (.inr ())) else some (.inr ())) else some (.inr ()) := by
 have h := zft (v := [b, c, d]) (w := w) (i := 0) (by simp) (by simp) (by omega)
 refine Eq.trans h ?_
 rw [zft (i := 0 + 1) (by simp) (by simp) (by omega), zft (i := 0 + 1 + 1) (by simp) (by simp) (by omega)]
 simp only [List.getElem_cons_zero, List.getElem_cons_succ, Nat.zero_add]
 rw [zjO (by simp)]
theorem zud (n : Nat) {l : List UInt8} (h : ∀ m, m ≠ n → isN m l = false) : nxt l = if isN n l then n else 0 := by
 by_cases hn : isN n l = true
 ·rw [if_pos hn, zwl hn]
 ·rw [if_neg hn]
  by_cases h0 : nxt l = 0
  ·exact h0
  ·have h1 := zly h0
   by_cases h2 : nxt l = n
   ·rw [h2] at h1; exact absurd h1 hn
   ·rw [h _ h2] at h1; cases h1
theorem zgJ (n : Nat) {a : UInt8} {t : List UInt8} (h : n = 1 ∧ a.toNat < 128 ∨ n = 2 ∧ 192 ≤ a.toNat ∧ a.toNat < 224 ∨ n = 3 ∧ 224 ≤ a.toNat ∧ a.toNat < 240 ∨ n = 4 ∧ 240 ≤ a.toNat) : nxt (a :: t) = if isN n (a :: t) then n else 0 := by
 refine zud n fun m hm => ?_
 cases hh : isN m (a :: t) with
 | false => rfl
 | true =>
  obtain ⟨a', t', e, _, g⟩ := zfz hh
  cases e
  omega
theorem zrJ (b : List UInt8) : zgX b = some ((nxt b : Nat) : Int) := by
 cases b with
 | nil => rfl
 | cons a t =>
  have ha := a.toNat_lt
  unfold zgX
  have e00 : idx (a :: t) (0 : Int) = some a := zaH (n := 0) rfl (by simp)
  rw [itF (by simp; omega), e00, sb]
  rw [zvl _ (by omega), sb]
  by_cases h1 : a.toNat < 128
  ·rw [zgJ 1 (.inl ⟨rfl, h1⟩), if_pos h1]
   simp only
   rw [itF (by simp; omega), zfb (i := 1) (j := 1) (a := 1) (b := 1) rfl rfl (by omega) (by simp), sb]
   have e0 : zaZ (((a :: t).drop 1).take (1 - 1)) (a.toNat : Int) 0 = some (.inl (a.toNat : Int)) := zjO (i := 0) (by simp)
   rw [e0, sb]
   simp only
   rw [zlw, sb, if_pos h1, itF (by rfl)]
   simp [isN, is1, h1]
  ·rw [if_neg h1]
   by_cases h2 : a.toNat / 32 = 6
   ·rw [zgJ 2 (.inr (.inl ⟨rfl, by omega, by omega⟩)), if_pos h2]
    simp only
    match t with
    | [] => rw [itT (by simp)]; rfl
    | b :: t =>
     rw [itF (by simp; omega), zfb (i := 1) (j := 2) (a := 1) (b := 2) rfl rfl (by omega) (by simp), sb]
     have e0 := zwD (w := a.toNat % 32) (b := b) (by omega)
     have e0' : zaZ (((a :: b :: t).drop 1).take (2 - 1)) ((a.toNat % 32 : Nat) : Int) 0 = _ := e0
     rw [e0']
     have hb := b.toNat_lt
     by_cases c1 : cont b = true
     ·rw [if_pos c1, sb]
      simp only
      have hn := zlw (64 * (a.toNat % 32) + b.toNat % 64)
      simp only [isN, is2, c1, and_true, decide_eq_true_eq]
      simp only [cont, decide_eq_true_eq] at c1
      by_cases h : 194 ≤ a.toNat
      ·rw [if_neg (by omega), if_pos (by omega)] at hn
       rw [hn, sb, itF (by rfl), if_pos (by omega)]; rfl
      ·rw [if_pos (by omega)] at hn
       rw [hn, sb, itT (by rfl), if_neg (by omega)]; rfl
     ·rw [if_neg c1, sb]
      simp only
      simp [isN, is2, c1]
   ·rw [if_neg h2]
    by_cases h3 : a.toNat / 16 = 14
    ·rw [zgJ 3 (.inr (.inr (.inl ⟨rfl, by omega, by omega⟩))), if_pos h3]
     simp only
     match t with
     | [] => rw [itT (by simp)]; rfl
     | [b] => rw [itT (by simp)]; rfl
     | b :: c :: t =>
      rw [itF (by simp; omega), zfb (i := 1) (j := 3) (a := 1) (b := 3) rfl rfl (by omega) (by simp), sb]
      have e0 := zwE (w := a.toNat % 16) (b := b) (c := c) (by omega)
      have e0' : zaZ (((a :: b :: c :: t).drop 1).take (3 - 1)) ((a.toNat % 16 : Nat) : Int) 0 = _ := e0
      rw [e0']
      have hb := b.toNat_lt
      have hc := c.toNat_lt
      by_cases c1 : cont b = true
      ·rw [if_pos c1]
       by_cases c2 : cont c = true
       ·rw [if_pos c2, sb]
        simp only
        have hn := zlw (64 * (64 * (a.toNat % 16) + b.toNat % 64) + c.toNat % 64)
        simp only [isN, is3, c1, c2, true_and, decide_eq_true_eq]
        simp only [cont, decide_eq_true_eq] at c1 c2
        by_cases h : (a.toNat = 224 → 160 ≤ b.toNat) ∧ (a.toNat = 237 → b.toNat < 160)
        ·rw [if_neg (by omega), if_neg (by omega), if_neg (by omega), if_pos (by omega)] at hn
         rw [hn, sb, itF (by rfl), if_pos (by omega)]; rfl
        ·by_cases g : 64 * (64 * (a.toNat % 16) + b.toNat % 64) + c.toNat % 64 < 2048
         ·by_cases g' : 64 * (64 * (a.toNat % 16) + b.toNat % 64) + c.toNat % 64 < 128
          ·rw [if_pos g'] at hn
           rw [hn, sb, itT (by rfl), if_neg (by omega)]; rfl
          ·rw [if_neg g', if_pos g] at hn
           rw [hn, sb, itT (by rfl), if_neg (by omega)]; rfl
         ·rw [if_neg (by omega), if_neg g, if_pos (by omega)] at hn
          rw [hn, sb, itT (by rfl), if_neg (by omega)]; rfl
       ·rw [if_neg c2, sb]
        simp only
        simp [isN, is3, c2]
      ·rw [if_neg c1, sb]
       simp only
       simp [isN, is3, c1]
    ·rw [if_neg h3]
     by_cases h4 : a.toNat / 8 = 30
     ·rw [zgJ 4 (.inr (.inr (.inr ⟨rfl, by omega⟩))), if_pos h4]
      simp only
      match t with
      | [] => rw [itT (by simp)]; rfl
      | [b] => rw [itT (by simp)]; rfl
      | [b, c] => rw [itT (by simp)]; rfl
      | b :: c :: d :: t =>
       rw [itF (by simp; omega), zfb (i := 1) (j := 4) (a := 1) (b := 4) rfl rfl (by omega) (by simp), sb]
       have e0 := zwF (w := a.toNat % 8) (b := b) (c := c) (d := d) (by omega)
       have e0' : zaZ (((a :: b :: c :: d :: t).drop 1).take (4 - 1)) ((a.toNat % 8 : Nat) : Int) 0 = _ := e0
       rw [e0']
       have hb := b.toNat_lt
       have hc := c.toNat_lt
       have hd := d.toNat_lt
       by_cases c1 : cont b = true
       ·rw [if_pos c1]
        by_cases c2 : cont c = true
        ·rw [if_pos c2]
         by_cases c3 : cont d = true
         ·rw [if_pos c3, sb]
          simp only
          have hn := zlw (64 * (64 * (64 * (a.toNat % 8) + b.toNat % 64) + c.toNat % 64) + d.toNat % 64)
          simp only [isN, is4, c1, c2, c3, true_and, decide_eq_true_eq]
          simp only [cont, decide_eq_true_eq] at c1 c2 c3
          by_cases h : a.toNat < 245 ∧ (a.toNat = 240 → 144 ≤ b.toNat) ∧ (a.toNat = 244 → b.toNat < 144)
          ·rw [if_neg (by omega), if_neg (by omega), if_neg (by omega), if_neg (by omega), if_pos (by omega)] at hn
           rw [hn, sb, itF (by rfl), if_pos (by omega)]; rfl
          ·have hw : ¬ (65536 ≤ 64 * (64 * (64 * (a.toNat % 8) + b.toNat % 64) + c.toNat % 64) + d.toNat % 64 ∧ 64 * (64 * (64 * (a.toNat % 8) + b.toNat % 64) + c.toNat % 64) + d.toNat % 64 ≤ 1114111) := by omega
           generalize 64 * (64 * (64 * (a.toNat % 8) + b.toNat % 64) + c.toNat % 64) + d.toNat % 64 = w at hn hw
           have hx : ∃ x : Int, zgY w = some x ∧ x ≠ 4 := ⟨_, hn, by (repeat' split) <;> omega⟩
           obtain ⟨x, hx, h4⟩ := hx
           rw [hx, sb, itT (by simp; omega), if_neg (by omega)]; rfl
         ·rw [if_neg c3, sb]
          simp only
          simp [isN, is4, c3]
        ·rw [if_neg c2, sb]
         simp only
         simp [isN, is4, c2]
       ·rw [if_neg c1, sb]
        simp only
        simp [isN, is4, c1]
     ·rw [if_neg h4, itT (by rfl)]
      by_cases h5 : 240 ≤ a.toNat
      ·rw [zgJ 4 (.inr (.inr (.inr ⟨rfl, h5⟩)))]
       cases hh : isN 4 (a :: t) with
       | false => rfl
       | true =>
        match t, hh with
        | b :: c :: d :: t, hh => simp only [isN, is4, decide_eq_true_eq] at hh; omega
      ·by_cases h0 : nxt (a :: t) = 0
       ·rw [h0]; rfl
       ·obtain ⟨a', t', e, _, g⟩ := zfz (zly h0)
        cases e
        omega
theorem zsP {b : List UInt8} (hb : b.length ≤ 1152921504606846976) (l : List UInt8) : ∀ (a c : Nat), c ≤ a → a ≤ b.length → l = b.drop a →
  zdy b a c ((nxt l : Nat) : Int) = some (((a + (pre4 l).1 : Nat) : Int), ((c + (pre4 l).2 : Nat) : Int)) := by
 refine zuj (fun l => ∀ (a c : Nat), c ≤ a → a ≤ b.length → l = b.drop a → zdy b a c ((nxt l : Nat) : Int) = some (((a + (pre4 l).1 : Nat) : Int), ((c + (pre4 l).2 : Nat) : Int))) ?_ ?_ l
 ·intro l h a c hc ha hl
  rw [h, zsv h]
  refine zlj ?_
  unfold zbV
  rw [itF (by rfl)]; rfl
 ·intro l h ih a c hc ha hl
  subst hl
  have h4 := zoG (b.drop a)
  have hle := zjm (b.drop a)
  simp only [List.length_drop] at hle
  have e1 : (b.drop a).drop (nxt (b.drop a)) = b.drop (a + nxt (b.drop a)) := by rw [List.drop_drop]
  refine (zli (atv' := ((a + nxt (b.drop a) : Nat) : Int)) (points' := ((c + 1 : Nat) : Int)) (size' := ((nxt (b.drop (a + nxt (b.drop a))) : Nat) : Int)) ?_).trans ?_
  ·unfold zbV
   rw [itT (by simp; omega), zz (by omega), zjE (a := a + nxt (b.drop a)) (by push_cast; rfl) rfl (by omega), sb, zrJ, sb, zz (by omega)]; rfl
  ·rw [← e1, ih (a + nxt (b.drop a)) (c + 1) (by omega) (by omega) e1, zvo h]
   simp only [Nat.add_assoc, Nat.add_comm 1]
theorem zuB {b : List UInt8} (hb : b.length ≤ 1152921504606846976) : ziw b = some (((pre4 b).1 : Int), ((pre4 b).2 : Int)) := by
 unfold ziw
 rw [zrJ, sb]
 have h := zsP hb b 0 0 (Nat.le_refl _) (Nat.zero_le _) rfl
 simp only [Nat.zero_add] at h
 have h' : zdy b 0 0 ((nxt b : Nat) : Int) = some (((pre4 b).1 : Int), ((pre4 b).2 : Int)) := h
 rw [h', sb]
theorem zsI {b : List UInt8} (hb : b.length ≤ 1152921504606846976) : zgW b = some ((pre4 b).1 : Int) := by
 unfold zgW
 rw [zuB hb, sb]
theorem zsJ {b : List UInt8} (hb : b.length ≤ 1152921504606846976) : zfv b = some (zdJ b) := by
 unfold zfv zdJ
 rw [zsI hb, sb, zll]
end Go.Proofs.YtnfembipjdohcaaGreat
namespace Go.Proofs.YtnfembipjdohcaaGreat
open Go
set_option linter.unusedVariables false
def zwk : List Str := [[], [105, 110, 116, 51, 50], [105, 110, 116, 54, 52], [117, 105, 110, 116, 51, 50], [117, 105, 110, 116, 54, 52], [115, 105, 110, 116, 51, 50], [115, 105, 110, 116, 54, 52], [98, 111, 111, 108], [101, 110, 117, 109], [102, 105, 120, 101, 100, 51, 50], [115, 102, 105, 120, 101, 100, 51, 50], [102, 108, 111, 97, 116], [102, 105, 120, 101, 100, 54, 52], [115, 102, 105, 120, 101, 100, 54, 52], [100, 111, 117, 98, 108, 101], [115, 116, 114, 105, 110, 103], [98, 121, 116, 101, 115], [109, 101, 115, 115, 97, 103, 101]]
def ztC (k : Int) : Str := (zwk[k.toNat]?).getD []
def kT : List (Int × zp) := [(1, ⟨[105, 110, 116, 51, 50], 0⟩), (2, ⟨[105, 110, 116, 54, 52], 0⟩), (3, ⟨[117, 105, 110, 116, 51, 50], 0⟩), (4, ⟨[117, 105, 110, 116, 54, 52], 0⟩), (5, ⟨[115, 105, 110, 116, 51, 50], 0⟩), (6, ⟨[115, 105, 110, 116, 54, 52], 0⟩), (7, ⟨[98, 111, 111, 108], 0⟩), (8, ⟨[101, 110, 117, 109], 0⟩), (9, ⟨[102, 105, 120, 101, 100, 51, 50], 5⟩), (10, ⟨[115, 102, 105, 120, 101, 100, 51, 50], 5⟩), (11, ⟨[102, 108, 111, 97, 116], 5⟩), (12, ⟨[102, 105, 120, 101, 100, 54, 52], 1⟩), (13, ⟨[115, 102, 105, 120, 101, 100, 54, 52], 1⟩), (14, ⟨[100, 111, 117, 98, 108, 101], 1⟩), (15, ⟨[115, 116, 114, 105, 110, 103], 2⟩), (16, ⟨[98, 121, 116, 101, 115], 2⟩), (17, ⟨[109, 101, 115, 115, 97, 103, 101], 2⟩)]
theorem zpH : zfB = some kT := rfl
theorem zkX {k : Int} (h : zbQ k = true) : k = 1 ∨ k = 2 ∨ k = 3 ∨ k = 4 ∨ k = 5 ∨ k = 6 ∨ k = 7 ∨ k = 8 ∨ k = 9 ∨ k = 10 ∨ k = 11 ∨ k = 12 ∨ k = 13 ∨ k = 14 ∨ k = 15 ∨ k = 16 ∨ k = 17 := by
 have := of_decide_eq_true h
 omega
theorem zwa {k : Int} (h : zbQ k = true) : mget kT k = some ⟨ztC k, zdq k⟩ := by
 rcases zkX h with rfl | rfl | rfl | rfl | rfl | rfl | rfl | rfl | rfl | rfl | rfl | rfl | rfl | rfl | rfl | rfl | rfl <;> rfl
theorem zuY {e : Int × zp} (h : e ∈ kT) : zbQ e.1 = true ∧ e.2 = ⟨ztC e.1, zdq e.1⟩ := by
 have : kT.all (fun e => zbQ e.1 && decide (e.2 = ⟨ztC e.1, zdq e.1⟩)) = true := by decide
 have h1 := List.all_eq_true.1 this e h
 simp only [Bool.and_eq_true, decide_eq_true_eq] at h1
 exact h1
theorem zuZ {k : Int} (h : zbQ k = false) : mget kT k = none := by
 cases hg : mget kT k with
 | none => rfl
 | some x =>
  have mem : ∀ {m : List (Int × zp)} {x : zp}, mget m k = some x → (k, x) ∈ m := fun {m x} hg => by
   induction m with
   | nil => cases hg
   | cons p m ih =>
    rw [mget] at hg
    split at hg
    ·rename_i e; cases hg; rw [e]; exact List.mem_cons_self
    ·exact List.mem_cons_of_mem _ (ih hg)
  have h1 := (zuY (mem hg)).1
  simp only at h1
  rw [h] at h1
  cases h1
theorem zpI (k : Int) : zfs k = some (if zbQ k then (zdq k, 0) else (0, 2)) := by
 unfold zfs
 rw [zpH, sb]
 cases h : zbQ k with
 | true => rw [zwa h]; rfl
 | false => rw [zuZ h]; rfl
theorem zmi (k : Int) : zec k = some (kNum k) := by
 unfold zec
 rw [zpI, sb]
 cases h : zbQ k with
 | true =>
  rcases zkX h with rfl | rfl | rfl | rfl | rfl | rfl | rfl | rfl | rfl | rfl | rfl | rfl | rfl | rfl | rfl | rfl | rfl <;> rfl
 | false =>
  have h1 := of_decide_eq_false h
  have : kNum k = false := decide_eq_false (by omega)
  rw [this]
  rfl
theorem zvb : kT.map Prod.fst = [1, 2, 3, 4, 5, 6, 7, 8, 9, 10, 11, 12, 13, 14, 15, 16, 17] := rfl
theorem zva : zif = some [1, 2, 3, 4, 5, 6, 7, 8, 9, 10, 11, 12, 13, 14, 15, 16, 17] := by
 have e : zpF kT = some [1, 2, 3, 4, 5, 6, 7, 8, 9, 10, 11, 12, 13, 14, 15, 16, 17] := by
  unfold zpF
  rw [if_pos ⟨by decide, by decide⟩, zvb, List.mergeSort_of_pairwise (by decide)]
 unfold zif
 rw [zpH, sb, e, sb]
theorem zsj (k : Int) {w : Int} (h : 0 ≤ w ∧ w ≤ 18446744073709551615) : zfA k w = some (if kNum k then (zex k w, 0) else (0, 2)) := by
 have hs := zur w
 have hc := zpi k h
 unfold zfA
 by_cases h1 : k = 1 ∨ k = 8
 ·have e : (if (k == 1) = true then some (k == 1) else some (k == 8)) = some true := by rcases h1 with rfl | rfl <;> rfl
  have hn : kNum k = true := decide_eq_true (by omega)
  rw [e, sb, itT rfl, zsE, sb, zsQ (by omega), sb, hn]
  unfold zex
  rw [if_pos h1]
  rfl
 ·have e : (if (k == 1) = true then some (k == 1) else some (k == 8)) = some false := by rw [itF (by simp; omega)]; simp; omega
  rw [e, sb, itF rfl]
  by_cases h2 : k = 3 ∨ k = 5 ∨ k = 9 ∨ k = 10 ∨ k = 11
  ·have e2 : (if (k == 3) = true then some (k == 3) else if (k == 5) = true then some (k == 5) else if (k == 9) = true then some (k == 9) else if (k == 10) = true then some (k == 10) else some (k == 11)) = some true := by
    rcases h2 with rfl | rfl | rfl | rfl | rfl <;> rfl
   have hn : kNum k = true := decide_eq_true (by omega)
   have hw : IntKind.u64.wrap (w % 4294967296) = w % 4294967296 := by rw [zfa]; omega
   rw [e2, sb, itT rfl, zpJ, sb, hn, hw]
   unfold zex
   rw [if_neg h1, if_pos h2]
   rfl
  ·have e2 : (if (k == 3) = true then some (k == 3) else if (k == 5) = true then some (k == 5) else if (k == 9) = true then some (k == 9) else if (k == 10) = true then some (k == 10) else some (k == 11)) = some false := by
    rw [itF (by simp; omega), itF (by simp; omega), itF (by simp; omega), itF (by simp; omega)]; simp; omega
   rw [e2, sb, itF rfl]
   by_cases h7 : k = 7
   ·have hn : kNum k = true := decide_eq_true (by omega)
    rw [itT (by simpa using h7), hn]
    unfold zhg zex
    rw [sb, if_neg h1, if_neg h2, if_pos h7]
    by_cases h0 : 0 < w
    ·rw [if_pos h0]
     by_cases h10 : 1 < w
     ·rw [if_pos h10]; rfl
     ·rw [if_neg h10, show w = 1 by omega]; rfl
    ·rw [if_neg h0, if_neg (by omega), show w = 0 by omega]; rfl
   ·rw [itF (by simpa using h7)]
    by_cases hn : kNum k = true
    ·have hk := of_decide_eq_true hn
     have e3 : (if (k == 2) = true then some (k == 2) else if (k == 4) = true then some (k == 4) else if (k == 6) = true then some (k == 6) else if (k == 12) = true then some (k == 12) else if (k == 13) = true then some (k == 13) else some (k == 14)) = some true := by
      have : k = 2 ∨ k = 4 ∨ k = 6 ∨ k = 12 ∨ k = 13 ∨ k = 14 := by omega
      rcases this with rfl | rfl | rfl | rfl | rfl | rfl <;> rfl
     rw [e3, sb, itT rfl, hn]
     unfold zex
     rw [if_neg h1, if_neg h2, if_neg h7]
     rfl
    ·have hn : kNum k = false := by simpa using hn
     have hk := of_decide_eq_false hn
     have e3 : (if (k == 2) = true then some (k == 2) else if (k == 4) = true then some (k == 4) else if (k == 6) = true then some (k == 6) else if (k == 12) = true then some (k == 12) else if (k == 13) = true then some (k == 13) else some (k == 14)) = some false := by
      rw [itF (by simp; omega), itF (by simp; omega), itF (by simp; omega), itF (by simp; omega), itF (by simp; omega)]; simp; omega
     rw [e3, sb, itF rfl, hn]
     rfl
end Go.Proofs.YtnfembipjdohcaaGreat
namespace Go.Proofs.YtnfembipjdohcaaGreat
open Go
set_option linter.unusedVariables false
def lt7 (c : UInt8) : Bool := decide (97 ≤ c.toNat ∧ c.toNat ≤ 122 ∨ 65 ≤ c.toNat ∧ c.toNat ≤ 90 ∨ c.toNat = 95)
def dg7 (c : UInt8) : Bool := decide (48 ≤ c.toNat ∧ c.toNat ≤ 57)
theorem zmd (c : UInt8) : zcM (c.toNat : Int) = some (dg7 c) := by
 unfold zcM dg7
 congr 1
 rw [Bool.eq_iff_iff]
 simp
 omega
theorem zpy (c : UInt8) : zdb (c.toNat : Int) = some (lt7 c) := by
 unfold zdb lt7
 congr 1
 by_cases h1 : (c.toNat : Int) ≥ 97 <;> by_cases h2 : (c.toNat : Int) ≥ 65 <;> simp only [h1, h2, decide_true, decide_false, if_true, if_false, Bool.false_eq_true] <;> rw [Bool.eq_iff_iff] <;> simp <;> omega
theorem zpz (s : List UInt8) (hs : s.length ≤ 1152921504606846976) : ∀ (l : List UInt8) (i : Nat), s.drop i = l → zbY s i = some (if (l.all fun c => lt7 c || dg7 c) = true then .inl () else .inr ()) := by
 intro l
 induction l with
 | nil =>
  intro i hd
  have := zeb hd
  refine zeW ?_
  unfold zaC
  rw [itF (by simp; omega)]
  rfl
 | cons c l ih =>
  intro i hd
  obtain ⟨hi, hc, hd'⟩ := zdr hd
  have hb : zaC s i = if (lt7 c || dg7 c) = true then some (.inl ((i + 1 : Nat) : Int)) else some (.inr (.inr ())) := by
   unfold zaC
   rw [itT (by simp; omega), zaH rfl hi, sb, hc, zpy, sb, sb, zmd, zz (by omega)]
   cases lt7 c <;> cases dg7 c <;> rfl
  rw [List.all_cons]
  cases hk : (lt7 c || dg7 c) with
  | false =>
   rw [hk] at hb
   rw [zeW hb]
   rfl
  | true =>
   rw [hk] at hb
   rw [zit hb, ih _ hd', Bool.true_and]
theorem zrO : ∀ (l : List UInt8) (i : Nat), 0 < i → nmA i l = l.all fun c => lt7 c || dg7 c
 | [], _, _ => rfl
 | c :: l, i, h => by
  rw [nmA, zrO l (i + 1) (by omega), List.all_cons]
  congr 1
  unfold nmc lt7 dg7
  rw [Bool.eq_iff_iff]
  simp
  omega
theorem znK {s : List UInt8} (hs : s.length ≤ 1152921504606846976) : zdi s = some (zcp s) := by
 unfold zdi zcp
 have hl := zpz s hs s 0 rfl
 have hl' : zbY s 0 = _ := hl
 cases s with
 | nil => rfl
 | cons c l =>
  rw [itF (by simp)]
  by_cases h60 : ((c :: l).length : Int) > 60
  ·rw [itT (by simpa using h60), sb, itT rfl]
   have : decide (1 ≤ (c :: l).length ∧ (c :: l).length ≤ 60) = false := by simp only [decide_eq_false_iff_not]; omega
   rw [this, Bool.and_false]
  ·have hd : decide (1 ≤ (c :: l).length ∧ (c :: l).length ≤ 60) = true := by simp only [decide_eq_true_eq]; refine ⟨by simp, by omega⟩
   have hc : idx (c :: l) 0 = some c := by simp [idx]
   rw [itF (by simpa using h60), hc, sb, zmd, sb, sb, hd, Bool.and_true, hl', sb]
   have e : nmA 0 (c :: l) = (lt7 c && l.all fun c => lt7 c || dg7 c) := by
    rw [nmA, zrO l 1 (by omega)]
    congr 1
    unfold nmc lt7
    rw [Bool.eq_iff_iff]
    simp
    omega
   have hx : lt7 c = true → dg7 c = false := by
    unfold lt7 dg7
    simp only [decide_eq_true_eq, decide_eq_false_iff_not]
    omega
   rw [e, List.all_cons]
   cases h1 : lt7 c <;> cases h2 : dg7 c <;> first | (rw [hx h1] at h2; cases h2; done) | skip
   ·rfl
   ·rfl
   ·cases l.all fun c => lt7 c || dg7 c <;> rfl
theorem ztt {l : List Int} (hl : l.length ≤ 1152921504606846976) (v : Int) : zbn l v = some (zgn (fun x => v == x) l) := by
 unfold zbn
 have h := zkt (fun x => v == x) l (fun i => zaD l v i) (zcN (by unfold zH; rw [itF (by simp)])) (fun i hi => by
  by_cases hp : (v == l[i]) = true
  ·rw [if_pos hp]; exact zcN (by unfold zH; rw [itT (by simp; omega), zaH rfl hi, sb, itT hp])
  ·rw [if_neg hp]; exact zeG (by unfold zH; rw [itT (by simp; omega), zaH rfl hi, sb, itF (by simpa using hp), zz (by omega)]; rfl)) l.length 0 (by omega) (fun j _ h => by omega)
 have h' : zaD l v 0 = _ := h
 rw [h', sb]
 unfold zgn
 cases l.findIdx? (fun x => v == x) <;> rfl
theorem zng {α : Type} (p : α → Bool) (l : List α) : decide (zgn p l ≥ 0) = l.any p := by
 cases h : l.findIdx? p with
 | none =>
  rw [zkR h]
  rw [List.findIdx?_eq_none_iff] at h
  symm
  rw [List.any_eq_false.2 fun x hx => by simpa using h x hx]
  rfl
 | some i =>
  rw [zkS h]
  rw [List.findIdx?_eq_some_iff_getElem] at h
  obtain ⟨hi, hp, _⟩ := h
  symm
  rw [List.any_eq_true.2 ⟨l[i], List.getElem_mem hi, hp⟩]
  simp
theorem zpn {l : List Int} (hl : l.length ≤ 1152921504606846976) (v : Int) : zaS l v = some (l.any fun x => v == x) := by
 unfold zaS
 rw [ztt hl, sb, zng]
def K17 : List Int := [1, 2, 3, 4, 5, 6, 7, 8, 9, 10, 11, 12, 13, 14, 15, 16, 17]
theorem zsk (k : Int) : (K17.any fun x => k == x) = zbQ k := by
 unfold zbQ K17
 rw [Bool.eq_iff_iff]
 simp
 omega
def hasN (m : List (zi × Bool)) (i : Int) (n : Str) : Bool := (mget m (⟨i, n⟩ : zi)).getD false
def hasU (m : List (zk × Bool)) (i : Int) (n : Int) : Bool := (mget m (⟨i, n⟩ : zk)).getD false
theorem zgG (m : List (zi × Bool)) (i j : Int) (n k : Str) : hasN (mput m ⟨i, n⟩ true) j k = (decide (j = i ∧ k = n) || hasN m j k) := by
 unfold hasN
 rw [ziH]
 by_cases h : j = i ∧ k = n
 ·obtain ⟨rfl, rfl⟩ := h; simp
 ·rw [if_neg (fun e => h (by injection e with e1 e2; exact ⟨e1, e2⟩))]; simp [h]
theorem zpv (m : List (zk × Bool)) (i j : Int) (n k : Int) : hasU (mput m ⟨i, n⟩ true) j k = (decide (j = i ∧ k = n) || hasU m j k) := by
 unfold hasU
 rw [ziH]
 by_cases h : j = i ∧ k = n
 ·obtain ⟨rfl, rfl⟩ := h; simp
 ·rw [if_neg (fun e => h (by injection e with e1 e2; exact ⟨e1, e2⟩))]; simp [h]
theorem zpA (n : Int) : zdc n = some (decide ¬ (n < 1 ∨ n > 536870911 ∨ (19000 ≤ n ∧ n < 20000))) := by
 unfold zdc
 congr 1
 rw [Bool.eq_iff_iff]
 simp
 omega
theorem zqU (f : Fld) : zdv f = some (f.Repeated && kNum f.Kind) := by
 unfold zdv
 rw [zmi]
 cases f.Repeated <;> rfl
theorem ztN (n : Int) (K : List Int) (nm : List (zi × Bool)) (nu : List (zk × Bool)) (f : Fld) : zcj ⟨n, K, nm, nu⟩ f = some (decide ¬ (f.Kind = 17 ∧ (f.Of < 0 ∨ f.Of ≥ n) ∨ f.Kind ≠ 17 ∧ f.Of ≠ 0)) := by
 unfold zcj
 by_cases h : f.Kind = 17
 ·rw [itT (by simpa using h)]
  congr 1
  rw [Bool.eq_iff_iff]
  simp [h]
 ·rw [itF (by simpa using h)]
  congr 1
  rw [Bool.eq_iff_iff]
  simp [h]
theorem ztj {n i : Int} {nm : List (zi × Bool)} {nu : List (zk × Bool)} {prev : List Fld} {f : Fld} (hf : f.Name.length ≤ 1152921504606846976) (hN : hasN nm i f.Name = prev.any fun g => g.Name == f.Name) (hU : hasU nu i f.Number = prev.any fun g => g.Number == f.Number) :
  zci ⟨n, K17, nm, nu⟩ i f = some (zbg n prev f, if zbg n prev f = 0 then (mput nm ⟨i, f.Name⟩ true, mput nu ⟨i, f.Number⟩ true) else (nm, nu)) := by
 unfold zci
 rw [znK hf, sb]
 have e1 : (mget nm (⟨i, f.Name⟩ : zi)).getD false = hasN nm i f.Name := rfl
 have e2 : (mget nu (⟨i, f.Number⟩ : zk)).getD false = hasU nu i f.Number := rfl
 simp only [e1, e2, hN, hU]
 have hz : ∀ (k : Int) (x y : List (zi × Bool) × List (zk × Bool)), k ≠ 0 → (if k = 0 then x else y) = y := fun k x y h => if_neg h
 by_cases h1 : zcp f.Name = false
 ·have hF : zbg n prev f = 5 := by unfold zbg; rw [if_pos h1]
  rw [hF, hz 5 _ _ (by decide), itT (by rw [h1]; rfl)]
 rw [itF (show (!zcp f.Name) = false by simpa using h1)]
 by_cases h2 : (prev.any fun g => g.Name == f.Name) = true
 ·have hF : zbg n prev f = 6 := by unfold zbg; rw [if_neg h1, if_pos h2]
  rw [hF, hz 6 _ _ (by decide), itT h2]
 have h2' : (prev.any fun g => g.Name == f.Name) = false := eq_false_of_ne_true h2
 rw [itF h2', zpA, sb]
 by_cases h3 : f.Number < 1 ∨ f.Number > 536870911 ∨ (19000 ≤ f.Number ∧ f.Number < 20000)
 ·have hF : zbg n prev f = 7 := by unfold zbg; rw [if_neg h1, if_neg h2, if_pos h3]
  rw [hF, hz 7 _ _ (by decide), itT (by rw [decide_eq_false (fun h => h h3)]; rfl)]
 rw [itF (by rw [decide_eq_true h3]; rfl)]
 by_cases h4 : (prev.any fun g => g.Number == f.Number) = true
 ·have hF : zbg n prev f = 8 := by unfold zbg; rw [if_neg h1, if_neg h2, if_neg h3, if_pos h4]
  rw [hF, hz 8 _ _ (by decide), itT h4]
 have h4' : (prev.any fun g => g.Number == f.Number) = false := eq_false_of_ne_true h4
 rw [itF h4', zpn (by decide), sb, zsk]
 by_cases h5 : zbQ f.Kind = false
 ·have hF : zbg n prev f = 9 := by unfold zbg; rw [if_neg h1, if_neg h2, if_neg h3, if_neg h4, if_pos h5]
  rw [hF, hz 9 _ _ (by decide), itT (by rw [h5]; rfl)]
 rw [itF (show (!zbQ f.Kind) = false by simpa using h5), zqU]
 have hg : (if f.Packed = true then (some (f.Repeated && kNum f.Kind) >>= fun rv4 => some (!rv4)) else some false) = some (decide (f.Packed = true ∧ ¬ (f.Repeated = true ∧ kNum f.Kind = true))) := by
  cases f.Packed <;> cases f.Repeated <;> cases kNum f.Kind <;> rfl
 rw [hg, sb]
 by_cases h6 : f.Packed = true ∧ ¬ (f.Repeated = true ∧ kNum f.Kind = true)
 ·have hF : zbg n prev f = 10 := by unfold zbg; rw [if_neg h1, if_neg h2, if_neg h3, if_neg h4, if_neg h5, if_pos h6]
  rw [hF, hz 10 _ _ (by decide), itT (decide_eq_true h6)]
 rw [itF (decide_eq_false h6), ztN, sb]
 by_cases h7 : f.Kind = 17 ∧ (f.Of < 0 ∨ f.Of ≥ n) ∨ f.Kind ≠ 17 ∧ f.Of ≠ 0
 ·have hF : zbg n prev f = 11 := by unfold zbg; rw [if_neg h1, if_neg h2, if_neg h3, if_neg h4, if_neg h5, if_neg h6, if_pos h7]
  rw [hF, hz 11 _ _ (by decide), itT (by rw [decide_eq_false (fun h => h h7)]; rfl)]
 have hF : zbg n prev f = 0 := by unfold zbg; rw [if_neg h1, if_neg h2, if_neg h3, if_neg h4, if_neg h5, if_neg h6, if_neg h7]
 rw [hF, if_pos rfl, itF (by rw [decide_eq_true h7]; rfl)]
theorem zqV {n : Int} {nm : List (zi × Bool)} {nu : List (zk × Bool)} {prev : List Mes} {m : Mes} (hm : m.Name.length ≤ 1152921504606846976) (hN : hasN nm (-1) m.Name = prev.any fun g => g.Name == m.Name) :
  zbJ ⟨n, K17, nm, nu⟩ m = some (if zcp m.Name = false then (2, nm, nu) else if (prev.any fun g => g.Name == m.Name) = true then (3, nm, nu) else if 200 < m.Fields.length then (4, nm, nu) else (0, mput nm ⟨-1, m.Name⟩ true, nu)) := by
 unfold zbJ
 rw [znK hm, sb]
 have e1 : (mget nm (⟨(-1), m.Name⟩ : zi)).getD false = hasN nm (-1) m.Name := rfl
 simp only [e1, hN]
 by_cases h1 : zcp m.Name = false
 ·rw [if_pos h1, itT (show (!zcp m.Name) = true by rw [h1]; rfl)]
 rw [if_neg h1, itF (show (!zcp m.Name) = false by simpa using h1)]
 by_cases h2 : (prev.any fun g => g.Name == m.Name) = true
 ·rw [if_pos h2, itT h2]
 have h2' : (prev.any fun g => g.Name == m.Name) = false := eq_false_of_ne_true h2
 rw [if_neg h2, itF h2']
 by_cases h3 : 200 < m.Fields.length
 ·rw [if_pos h3, itT (show decide ((m.Fields.length : Int) > 200) = true by simp; omega)]
 rw [if_neg h3, itF (show decide ((m.Fields.length : Int) > 200) = false by simp; omega)]
structure Met (nm : List (zi × Bool)) (nu : List (zk × Bool)) (i : Nat) (prev : List Mes) (p : List Fld) : Prop where
 mes : ∀ n, hasN nm (-1) n = prev.any fun g => g.Name == n
 nam : ∀ n, hasN nm i n = p.any fun g => g.Name == n
 num : ∀ n, hasU nu i n = p.any fun g => g.Number == n
 later : ∀ (j : Nat) n, i < j → hasN nm j n = false
 laterU : ∀ (j : Nat) n, i < j → hasU nu j n = false
theorem Met.step {nm : List (zi × Bool)} {nu : List (zk × Bool)} {i : Nat} {prev : List Mes} {p : List Fld} (h : Met nm nu i prev p) (f : Fld) : Met (mput nm ⟨i, f.Name⟩ true) (mput nu ⟨i, f.Number⟩ true) i prev (p ++ [f]) := by
 refine ⟨fun n => ?_, fun n => ?_, fun n => ?_, fun j n hj => ?_, fun j n hj => ?_⟩
 ·rw [zgG, h.mes, decide_eq_false (by omega), Bool.false_or]
 ·rw [zgG, h.nam, List.any_append, Bool.or_comm]
  congr 1
  simp only [List.any_cons, List.any_nil, Bool.or_false]
  rw [Bool.eq_iff_iff]; simp; exact eq_comm
 ·rw [zpv, h.num, List.any_append, Bool.or_comm]
  congr 1
  simp only [List.any_cons, List.any_nil, Bool.or_false]
  rw [Bool.eq_iff_iff]; simp; exact eq_comm
 ·rw [zgG, h.later j n hj, decide_eq_false (by omega)]; rfl
 ·rw [zpv, h.laterU j n hj, decide_eq_false (by omega)]; rfl
theorem zte {s : List Mes} {i : Nat} {prev : List Mes} {m : Mes} (hb : m.Fields.length ≤ 140737488351232) (hn : ∀ f ∈ m.Fields, f.Name.length ≤ 140737488351232) :
  ∀ (l : List Fld) (k : Nat) (nm : List (zi × Bool)) (nu : List (zk × Bool)), m.Fields.drop k = l → k ≤ m.Fields.length → Met nm nu i prev (m.Fields.take k) →
   (∃ j w, msgF s.length (m.Fields.take k) l = some (j, w) ∧ zby K17 s i m k nm nu = some (.inr ((j : Int), w))) ∨
   (msgF s.length (m.Fields.take k) l = none ∧ ∃ nm' nu', zby K17 s i m k nm nu = some (.inl (nm', nu')) ∧ Met nm' nu' i prev m.Fields) := by
 intro l
 induction l with
 | nil =>
  intro k nm nu hd hk hM
  have := zeb hd
  have hkl : k = m.Fields.length := by omega
  subst hkl
  refine .inr ⟨rfl, nm, nu, zfi ?_, by simpa using hM⟩
  unfold zaB
  rw [itF (by simp)]
 | cons f l ih =>
  intro k nm nu hd hk hM
  obtain ⟨hi, hc, hd'⟩ := zdr hd
  have hf := hn f (by rw [← hc]; exact List.getElem_mem hi)
  have hfld := ztj (n := (s.length : Int)) (i := (i : Int)) (nm := nm) (nu := nu) (prev := m.Fields.take k) (f := f) (by omega) (hM.nam _) (hM.num _)
  have htk : m.Fields.take (k + 1) = m.Fields.take k ++ [f] := by rw [List.take_succ_eq_append_getElem hi, hc]
  have hlen : (m.Fields.take k).length = k := by simp; omega
  obtain ⟨bd, _⟩ := zlS (s.length : Int) (m.Fields.take k) f
  rw [msgF]
  by_cases h0 : zbg s.length (m.Fields.take k) f = 0
  ·rw [if_neg (by omega)]
   rw [h0, if_pos rfl] at hfld
   have hstep : zaB K17 s i m k nm nu = some (.inl (((k + 1 : Nat) : Int), mput nm ⟨i, f.Name⟩ true, mput nu ⟨i, f.Number⟩ true)) := by
    unfold zaB
    rw [itT (by simp; omega), zaH rfl hi, sb, hc, hfld, sb]
    dsimp only
    rw [itF (show ((0 : Int) != 0) = false from rfl), zz (by omega)]
    rfl
   rw [ziS hstep, ← htk]
   exact ih (k + 1) _ _ hd' (by omega) (by rw [htk]; exact hM.step f)
  ·rw [if_pos (by omega)]
   rw [if_neg h0] at hfld
   refine .inl ⟨k, _, by rw [hlen], zfi ?_⟩
   unfold zaB
   rw [itT (by simp; omega), zaH rfl hi, sb, hc, hfld, sb]
   dsimp only
   rw [itT (show (zbg (s.length : Int) (m.Fields.take k) f != 0) = true by simpa using h0)]
theorem ztd {s : List Mes} (hw : WS s) : ∀ (l : List Mes) (i : Nat) (nm : List (zi × Bool)) (nu : List (zk × Bool)), s.drop i = l → i ≤ s.length → Met nm nu i (s.take i) [] →
  zcr K17 s i nm nu = some (match chkF s.length (s.take i) l with | some (j, k, w) => .inr ((j : Int), k, w) | none => .inl ()) := by
 intro l
 induction l with
 | nil =>
  intro i nm nu hd hi hM
  have := zeb hd
  refine zbR ?_
  unfold zaj
  rw [itF (by simp; omega)]
  rfl
 | cons m l ih =>
  intro i nm nu hd hi hM
  obtain ⟨hil, hc, hd'⟩ := zdr hd
  obtain ⟨w1, w2⟩ := hw
  obtain ⟨m1, m2, m3⟩ := w2 m (by rw [← hc]; exact List.getElem_mem hil)
  have hmes := zqV (n := (s.length : Int)) (nm := nm) (nu := nu) (prev := s.take i) (m := m) (by omega) (hM.mes _)
  have htk : s.take (i + 1) = s.take i ++ [m] := by rw [List.take_succ_eq_append_getElem hil, hc]
  have hlen : (s.take i).length = i := by simp; omega
  rw [chkF]
  by_cases h1 : zcp m.Name = false
  ·rw [if_pos h1] at hmes ⊢
   refine zbR ?_
   unfold zaj
   rw [itT (by simp; omega), zaH rfl hil, sb, hc, hmes, sb]
   dsimp only
   rw [itT (show ((2 : Int) != 0) = true from rfl), hlen]
  rw [if_neg h1] at hmes ⊢
  by_cases h2 : ((s.take i).any fun g => g.Name == m.Name) = true
  ·rw [if_pos h2] at hmes ⊢
   refine zbR ?_
   unfold zaj
   rw [itT (by simp; omega), zaH rfl hil, sb, hc, hmes, sb]
   dsimp only
   rw [itT (show ((3 : Int) != 0) = true from rfl), hlen]
  rw [if_neg h2] at hmes ⊢
  by_cases h3 : 200 < m.Fields.length
  ·rw [if_pos h3] at hmes ⊢
   refine zbR ?_
   unfold zaj
   rw [itT (by simp; omega), zaH rfl hil, sb, hc, hmes, sb]
   dsimp only
   rw [itT (show ((4 : Int) != 0) = true from rfl), hlen]
  rw [if_neg h3] at hmes ⊢
  have hM0 : Met (mput nm ⟨-1, m.Name⟩ true) nu i (s.take i ++ [m]) (m.Fields.take 0) := by
   refine ⟨fun n => ?_, fun n => ?_, fun n => ?_, fun j n hj => ?_, fun j n hj => hM.laterU j n hj⟩
   ·rw [zgG, hM.mes, List.any_append, Bool.or_comm]
    congr 1
    simp only [List.any_cons, List.any_nil, Bool.or_false]
    rw [Bool.eq_iff_iff]; simp; exact eq_comm
   ·rw [zgG, hM.nam, decide_eq_false (by omega)]; rfl
   ·rw [hM.num]; rfl
   ·rw [zgG, hM.later j n hj, decide_eq_false (by omega)]; rfl
  have hl2 := zte (s := s) (i := i) m2 m3 m.Fields 0 _ nu rfl (by omega) hM0
  simp only [List.take_zero] at hl2
  rcases hl2 with ⟨j, w, g1, g2⟩ | ⟨g1, nm', nu', g2, g3⟩
  ·rw [g1]
   refine zbR ?_
   unfold zaj
   have g2' : zby K17 s i m 0 (mput nm ⟨-1, m.Name⟩ true) nu = _ := g2
   rw [itT (by simp; omega), zaH rfl hil, sb, hc, hmes, sb]
   dsimp only
   rw [itF (show ((0 : Int) != 0) = false from rfl), g2', sb]
   simp only [hlen]
  ·rw [g1]
   have hstep : zaj K17 s i nm nu = some (.inl (((i + 1 : Nat) : Int), nm', nu')) := by
    unfold zaj
    have g2' : zby K17 s i m 0 (mput nm ⟨-1, m.Name⟩ true) nu = _ := g2
    rw [itT (by simp; omega), zaH rfl hil, sb, hc, hmes, sb]
    dsimp only
    rw [itF (show ((0 : Int) != 0) = false from rfl), g2', sb]
    dsimp only
    rw [zz (by omega)]
    rfl
   rw [ziR hstep]
   simp only []
   rw [← htk]
   refine ih (i + 1) nm' nu' hd' (by omega) ⟨fun n => ?_, fun n => ?_, fun n => ?_, fun j n hj => g3.later j n (by omega), fun j n hj => g3.laterU j n (by omega)⟩
   ·rw [htk]; exact g3.mes n
   ·rw [g3.later (i + 1) n (by omega)]; rfl
   ·rw [g3.laterU (i + 1) n (by omega)]; rfl
theorem ztc {s : List Mes} (hw : WS s) : zem s = some (⟨(zey s).1, (zey s).2.1, (zey s).2.2⟩, if (zey s).2.2 = 0 then 0 else 9) := by
 unfold zem zey
 by_cases h : s.length = 0 ∨ 100 < s.length
 ·rw [itT (by simp; omega), if_pos h]
  rfl
 ·rw [itF (by simp; omega), if_neg h, zva, sb]
  have hl := ztd hw s 0 [] [] rfl (by omega) ⟨fun n => rfl, fun n => rfl, fun n => rfl, fun j n _ => rfl, fun j n _ => rfl⟩
  simp only [List.take_zero] at hl
  have hl' : zcr [1, 2, 3, 4, 5, 6, 7, 8, 9, 10, 11, 12, 13, 14, 15, 16, 17] s 0 [] [] = _ := hl
  rw [hl', sb]
  cases hc : chkF s.length [] s with
  | none => rfl
  | some q =>
   obtain ⟨i, k, w⟩ := q
   have := zrt _ _ _ _ _ _ hc
   simp only
   rw [if_neg (by omega)]
theorem zum {s : List Mes} (hw : WS s) : zen s = some (zhq s) := by
 unfold zen zhq
 rw [ztc hw, sb]
 by_cases h : (zey s).2.2 = 0 <;> simp [h]
end Go.Proofs.YtnfembipjdohcaaGreat
namespace Go.Proofs.YtnfembipjdohcaaGreat
open Go
set_option linter.unusedVariables false
theorem zqo {k : Int} {b : List UInt8} (h : (zdL k b).2 = 0) : kNum k = true ∧ (pcs k b).2 = 0 ∧ (zdL k b).1 = (pcs k b).1.map (zuH k) := by
 unfold zdL at h ⊢
 cases hn : kNum k with
 | false => rw [hn, if_pos rfl] at h; simp at h
 | true =>
  rw [hn, if_neg (by simp)] at h
  rw [if_neg (by simp)]
  by_cases h0 : (pcs k b).2 = 0
  ·rw [if_pos h0]; exact ⟨rfl, h0, rfl⟩
  ·rw [if_neg h0] at h; exact absurd h h0
theorem zrq {k : Int} {b : List UInt8} (h : (zdL k b).2 ≠ 0) : (zdL k b).1 = [] ∧ ((zdL k b).2 = 2 ∨ (zdL k b).2 = 3 ∨ (zdL k b).2 = 4) := by
 unfold zdL at h ⊢
 by_cases hn : kNum k = false
 ·rw [if_pos hn]; simp
 ·rw [if_neg hn] at h ⊢
  by_cases h0 : (pcs k b).2 = 0
  ·rw [if_pos h0] at h; exact absurd rfl h
  ·rw [if_neg h0]
   rcases zpO k b with h1 | h1 | h1
   ·exact absurd h1 h0
   ·rw [h1]; simp
   ·rw [h1]; simp
end Go.Proofs.YtnfembipjdohcaaGreat
namespace Go.Proofs.YtnfembipjdohcaaGreat
open Go
set_option linter.unusedVariables false
def wid (k : Int) : Nat := if 12 ≤ k then 8 else if 9 ≤ k then 4 else 0
theorem zsG (k : Int) : zel k = some (if kNum k then ((wid k : Int), 0) else (0, 2)) := by
 cases hn : kNum k with
 | true =>
  have h := zmh.1 hn
  have hk : k = 1 ∨ k = 2 ∨ k = 3 ∨ k = 4 ∨ k = 5 ∨ k = 6 ∨ k = 7 ∨ k = 8 ∨ k = 9 ∨ k = 10 ∨ k = 11 ∨ k = 12 ∨ k = 13 ∨ k = 14 := by omega
  rcases hk with rfl | rfl | rfl | rfl | rfl | rfl | rfl | rfl | rfl | rfl | rfl | rfl | rfl | rfl <;> rfl
 | false =>
  have h := of_decide_eq_false hn
  unfold zel
  have hne : ∀ c : Int, 1 ≤ c → c ≤ 14 → (k == c) = false := fun c h1 h2 => by simp; omega
  simp only [hne 1 (by omega) (by omega), hne 2 (by omega) (by omega), hne 3 (by omega) (by omega), hne 4 (by omega) (by omega), hne 5 (by omega) (by omega), hne 6 (by omega) (by omega), hne 7 (by omega) (by omega), hne 8 (by omega) (by omega), hne 9 (by omega) (by omega), hne 10 (by omega) (by omega), hne 11 (by omega) (by omega), hne 12 (by omega) (by omega), hne 13 (by omega) (by omega), hne 14 (by omega) (by omega)]
  rfl
theorem zut {k w : Int} (h : 0 ≤ w ∧ w ≤ 18446744073709551615) : zeV k w = some (if kNum k then ((sPut k w).length : Int) else 0) := by
 have hc := zpi k h
 obtain ⟨c, hcc⟩ : ∃ c : Nat, zex k w = c := ⟨(zex k w).toNat, by omega⟩
 unfold zeV
 rw [zsG, sb]
 cases hn : kNum k with
 | false => rfl
 | true =>
  simp only [if_true]
  unfold sPut zrf
  rw [hcc, Int.toNat_natCast]
  unfold wid
  by_cases h1 : 12 ≤ k
  ·rw [if_pos h1, if_pos h1, itT (by rfl), zdP]
  ·rw [if_neg h1, if_neg h1]
   by_cases h2 : 9 ≤ k
   ·rw [if_pos h2, if_pos h2, itT (by rfl), zdP]
   ·rw [if_neg h2, if_neg h2, itF (by rfl), zsj k h, sb, hn]
    simp only [if_true]
    rw [hcc, zwe (by omega), sb, zrw]
end Go.Proofs.YtnfembipjdohcaaGreat
namespace Go.Proofs.YtnfembipjdohcaaGreat
open Go
set_option linter.unusedVariables false
def wid9 (k : Int) : Int := if kNum k then (if 12 ≤ k then 8 else if 9 ≤ k then 4 else 1) else 0
theorem znp {k : Int} (hk : kNum k = true) : (((sPut k 0).length : Nat) : Int) = (if 12 ≤ k then 8 else if 9 ≤ k then 4 else 1) := by
 have hk' := zmh.1 hk
 have hc : (zex k 0).toNat = 0 := by
  have : k = 1 ∨ k = 2 ∨ k = 3 ∨ k = 4 ∨ k = 5 ∨ k = 6 ∨ k = 7 ∨ k = 8 ∨ k = 9 ∨ k = 10 ∨ k = 11 ∨ k = 12 ∨ k = 13 ∨ k = 14 := by omega
  rcases this with h | h | h | h | h | h | h | h | h | h | h | h | h | h <;> subst h <;> decide
 unfold sPut
 rw [hc]
 unfold zrf
 by_cases h1 : 12 ≤ k
 ·rw [if_pos h1, if_pos h1, zdP]; rfl
 ·rw [if_neg h1, if_neg h1]
  by_cases h2 : 9 ≤ k
  ·rw [if_pos h2, if_pos h2, zdP]; rfl
  ·rw [if_neg h2, if_neg h2, zrw]
   simp [lenN]
theorem zsD (k : Int) : zgP k = some (wid9 k) := by
 unfold zgP wid9
 rw [zut (by omega), sb]
 cases hk : kNum k with
 | false => rfl
 | true => simp only [if_true]; rw [znp hk]
theorem zrW {k : Int} (hk : kNum k = true) : (k < 9 → wid9 k = 1) ∧ (¬ k < 9 → k < 12 → wid9 k = 4) ∧ (¬ k < 12 → wid9 k = 8) := by
 unfold wid9
 rw [hk, if_pos rfl]
 refine ⟨fun h => ?_, fun h1 h2 => ?_, fun h => ?_⟩
 ·rw [if_neg (show ¬ 12 ≤ k by omega), if_neg (show ¬ 9 ≤ k by omega)]
 ·rw [if_neg (show ¬ 12 ≤ k by omega), if_pos (show 9 ≤ k by omega)]
 ·rw [if_pos (show 12 ≤ k by omega)]
theorem zuG {k : Int} (hk : kNum k = false) : wid9 k = 0 := by unfold wid9; rw [hk]; rfl
theorem zvz {k : Int} (hk : kNum k = true) : (wid9 k == 0) = false := by
 obtain ⟨h1, h2, h3⟩ := zrW hk
 by_cases h9 : k < 9
 ·rw [h1 h9]; rfl
 ·by_cases h12 : k < 12
  ·rw [h2 h9 h12]; rfl
  ·rw [h3 h12]; rfl
theorem znZ {k : Int} (hk : kNum k = true) (b : List UInt8) : zgO (wid9 k) b = some (match zhA k b with | .inl c => (0, c) | .inr n => ((n : Int), 0)) := by
 obtain ⟨w1, w2, w3⟩ := zrW hk
 unfold zgO zhA
 by_cases h9 : k < 9
 ·rw [w1 h9, itT (by rfl), zrT, sb, if_pos h9]
  rcases zmB b with h | ⟨h, _⟩ | ⟨x, c, y, e, hx, hc, hl, hv, h⟩
  ·rw [h]; rfl
  ·rw [h]; rfl
  ·rw [h, if_neg (by simp)]; simp
 ·rw [if_neg h9]
  by_cases h12 : k < 12
  ·rw [w2 h9 h12, itF (by rfl), if_pos h12]
   by_cases hl : b.length < 4
   ·rw [itT (by simp; omega), if_pos hl]
   ·rw [itF (by simp; omega), if_neg hl]; rfl
  ·rw [w3 h12, itF (by rfl), if_neg h12]
   by_cases hl : b.length < 8
   ·rw [itT (by simp; omega), if_pos hl]
   ·rw [itF (by simp; omega), if_neg hl]; rfl
def ziA (k : Int) (b : List UInt8) : List (List UInt8) × Int := if kNum k = false then ([], 2) else pcs k b
def go9 {σ ρ : Type} (kb : σ → (List UInt8 × Int) → Option (σ ⊕ ρ)) : List (List UInt8) → Int → σ → Option (σ ⊕ ρ)
 | [], c, s => if c = 0 then some (.inl s) else kb s ([], c)
 | p :: ps, c, s => match kb s (p, 0) with
  | some (.inl s') => go9 kb ps c s'
  | some (.inr r) => some (.inr r)
  | none => none
theorem zrd {σ ρ χ : Type} {kb : σ → χ → Option (σ ⊕ ρ)} {s : σ} {x : χ} {o : σ ⊕ ρ} (h : kb s x = some o) : ∃ c, rnd kb (.inl s) x = some (c, o) ∧ (c = true ∧ (∃ s', o = .inl s') ∨ c = false ∧ ∃ r, o = .inr r) := by
 cases o with
 | inl s' => exact ⟨true, by simp only [rnd, h], .inl ⟨rfl, s', rfl⟩⟩
 | inr r => exact ⟨false, by simp only [rnd, h], .inr ⟨rfl, r, rfl⟩⟩
theorem zwP {σ ρ : Type} (kb : σ → (List UInt8 × Int) → Option (σ ⊕ ρ)) {k : Int} (hk : kNum k = true) (b : List UInt8) : ∀ (s : σ) (o : σ ⊕ ρ), go9 kb (pcs k b).1 (pcs k b).2 s = some o →
  ∃ q, zcq (rnd kb) (wid9 k) b (.inl s) = some q ∧ (q = .inl o ∨ q = .inr o) := by
 refine zjX k (fun b => ∀ (s : σ) (o : σ ⊕ ρ), go9 kb (pcs k b).1 (pcs k b).2 s = some o →
  ∃ q, zcq (rnd kb) (wid9 k) b (.inl s) = some q ∧ (q = .inl o ∨ q = .inr o)) ?_ ?_ ?_ b
 ·intro s o h
  rw [zjY] at h
  have h' : some (.inl s) = some o := h
  refine ⟨.inl o, zdK ?_, .inl rfl⟩
  unfold zaA
  rw [itF (by rfl), ← Option.some.inj h']
 ·intro l c hl hu hc s o h
  rw [zjW hl hu] at h
  have h' : kb s ([], c) = some o := by
   have h2 : (if c = 0 then some (.inl s) else kb s ([], c)) = some o := h
   rwa [if_neg (by omega)] at h2
  obtain ⟨t, ht, _⟩ := zrd h'
  refine ⟨.inr o, zdK ?_, .inr rfl⟩
  have hp := List.length_pos_iff.2 hl
  unfold zaA
  rw [itT (by simp; omega), znZ hk, sb, hu]
  simp only
  rw [zfb (i := 0) (j := 0) (a := 0) (b := 0) rfl rfl (Nat.le_refl _) (Nat.zero_le _), sb]
  simp only [List.drop_zero, Nat.sub_self, List.take_zero]
  rw [ht, sb, itT (by simp; omega)]
 ·intro l n hl hu g1 g2 g3 ih s o h
  rw [ziq hl hu] at h
  have hp := List.length_pos_iff.2 hl
  have hbody : ∀ {t : Bool} {y : σ ⊕ ρ}, rnd kb (.inl s) (l.take n, 0) = some (t, y) → zaA (rnd kb) (wid9 k) l (.inl s) = (if t then some (.inl (l.drop n, y)) else some (.inr (.inr y))) := by
   intro t y ht
   unfold zaA
   rw [itT (by simp; omega), znZ hk, sb, hu]
   simp only
   rw [zfb (i := 0) (j := (n : Int)) (a := 0) (b := n) rfl rfl (Nat.zero_le _) g2, sb]
   simp only [List.drop_zero, Nat.sub_zero]
   rw [ht, sb]
   cases t with
   | false => rw [itT (by rfl)]; rfl
   | true => rw [itF (by rfl), zjE (a := n) rfl rfl g2, sb]; rfl
  simp only [go9] at h
  cases hb : kb s (l.take n, 0) with
  | none => rw [hb] at h; cases h
  | some z =>
   rw [hb] at h
   obtain ⟨t, ht, hcase⟩ := zrd hb
   have hB := hbody ht
   rcases hcase with ⟨rfl, s', rfl⟩ | ⟨rfl, r, rfl⟩
   ·obtain ⟨q, hq, hq'⟩ := ih s' o h
    exact ⟨q, by rw [ziQ hB]; exact hq, hq'⟩
   ·have h' : some (.inr r) = some o := h
    exact ⟨.inr (.inr r), zdK hB, .inr (by rw [Option.some.inj h'])⟩
theorem zvy {σ ρ : Type} (kb : σ → (List UInt8 × Int) → Option (σ ⊕ ρ)) (k : Int) (b : List UInt8) {s : σ} {o : σ ⊕ ρ} (h : go9 kb (ziA k b).1 (ziA k b).2 s = some o) : zcW k b (rnd kb) (.inl s) = some o := by
 unfold zcW
 rw [zsD, sb]
 unfold ziA at h
 cases hk : kNum k with
 | false =>
  rw [hk, if_pos rfl] at h
  have h' : kb s ([], 2) = some o := h
  obtain ⟨t, ht, _⟩ := zrd h'
  rw [zuG hk, itT (by rfl), ht, sb]
 | true =>
  rw [hk, if_neg (by simp)] at h
  have hw := zvz hk
  obtain ⟨q, hq, hq'⟩ := zwP kb hk b s o h
  rw [itF hw, hq, sb]
  rcases hq' with rfl | rfl <;> rfl
theorem zrm (k : Int) (b : List UInt8) : (ziA k b).2 = (zdL k b).2 ∧ ((zdL k b).2 = 0 → (ziA k b).1 = (pcs k b).1) ∧ (∀ p ∈ (ziA k b).1, zps (zdq k) p = true ∧ 1 ≤ p.length ∧ p.length ≤ 10) ∧ (ziA k b).1.length ≤ b.length ∧ ((ziA k b).1 = [] ∨ kNum k = true) := by
 unfold ziA zdL
 by_cases hn : kNum k = false
 ·rw [if_pos hn, if_pos hn]; exact ⟨rfl, fun h => by simp at h, (fun p hp => by cases hp), Nat.zero_le _, .inl rfl⟩
 ·have hk : kNum k = true := by simpa using hn
  rw [if_neg hn, if_neg hn]
  refine ⟨?_, fun _ => rfl, zuf hk b, zvn k b, .inr hk⟩
  by_cases h0 : (pcs k b).2 = 0
  ·rw [if_pos h0]; exact h0
  ·rw [if_neg h0]
theorem zpo (c : Int) : ∀ (ps : List (List UInt8)) (n : Nat), n + ps.length ≤ 1048576 →
  go9 (fun (s : Int) (x : List UInt8 × Int) => zcA s x.1 x.2) ps c (n : Int) = some (if c = 0 then .inl ((n + ps.length : Nat) : Int) else .inr (c, ((n + ps.length : Nat) : Int)))
 | [], n, hl => by
  simp only [go9, List.length_nil, Nat.add_zero]
  by_cases h0 : c = 0
  ·rw [if_pos h0, if_pos h0]
  ·rw [if_neg h0, if_neg h0]; unfold zcA; rw [itT (by simpa using h0)]
 | p :: ps, n, hl => by
  simp only [List.length_cons] at hl
  have h1 : zcA (n : Int) p 0 = some (.inl ((n + 1 : Nat) : Int)) := by
   unfold zcA
   rw [itF (by rfl), zz (by omega)]; rfl
  simp only [go9, h1]
  rw [zpo c ps (n + 1) (by omega)]
  simp only [List.length_cons]
  rw [Nat.add_right_comm, Nat.add_assoc]
theorem zsw (k : Int) {b : List UInt8} (hb : b.length ≤ 1048576) : zgN k b = some (((zdL k b).1.length : Int), (zdL k b).2) := by
 obtain ⟨h1, h2, h3, h4, h5⟩ := zrm k b
 unfold zgN zhs
 rw [sb]
 simp only
 have hgo := zpo (ziA k b).2 (ziA k b).1 0 (by omega)
 rw [zvy (s := (0 : Int)) _ k b hgo, sb, h1]
 by_cases h0 : (zdL k b).2 = 0
 ·rw [if_pos h0, h2 h0]
  simp only
  rw [(zqo h0).2.2, h0]
  simp
 ·rw [if_neg h0]
  simp only
  rw [(zrq h0).1]
  rfl
end Go.Proofs.YtnfembipjdohcaaGreat
namespace Go.Proofs.YtnfembipjdohcaaGreat
open Go
set_option linter.unusedVariables false
abbrev PVw := zb
def prV (v : Vw) : PVw := ⟨v.R, v.Field, v.Run⟩
end Go.Proofs.YtnfembipjdohcaaGreat
namespace Go.Proofs.YtnfembipjdohcaaGreat
open Go
theorem zoe (t : zar) : zgT t = some (zdm t.Number t.Wire) := by
 have e : zdS t.Wire = some (decide (t.Wire = 0 ∨ t.Wire = 1 ∨ t.Wire = 2 ∨ t.Wire = 5)) := by
  unfold zdS
  by_cases h0 : t.Wire = 0
  ·simp [h0]
  by_cases h1 : t.Wire = 1
  ·simp [h1]
  by_cases h2 : t.Wire = 2
  ·simp [h2]
  by_cases h5 : t.Wire = 5
  ·simp [h5]
  simp [h0, h1, h2, h5]
 unfold zgT zdm
 rw [e]
 by_cases h1 : 1 ≤ t.Number
 ·by_cases h2 : t.Number ≤ 536870911
  ·rw [itT (by simpa using h1), itT (by simpa using h2), sb, sb]; simp [h1, h2]
  ·rw [itT (by simpa using h1), itF (by simpa using h2), sb]; simp [h2]
 ·rw [itF (by simpa using h1), sb]; simp [h1]
theorem zww (w : Nat) (h : w < 18446744073709551616) : andI .u64 (w : Int) 7 = ((w % 8 : Nat) : Int) := by
 have e := zpe (k := .u64) rfl (a := w) (b := 7) (by simpa [IntKind.bits] using h) (by simp [IntKind.bits])
 have e2 : w &&& 7 = w % 8 := Nat.and_two_pow_sub_one_eq_mod w 3
 rw [e2] at e; exact e
theorem zwJ (w : Nat) : shrI .u64 (w : Int) 3 = ((w / 8 : Nat) : Int) := zmP (k := .u64) (a := w) (b := 3) (by simp [IntKind.bits])
theorem zuA (b : List UInt8) : ziu b = some ((⟨(tg b).1, (tg b).2.1⟩ : zar), (tg b).2.2.1, (tg b).2.2.2) := by
 obtain ⟨h1, h2, h3, h4, h5, h6, h7⟩ := zeE b
 unfold ziu tg
 rw [zoK, sb]
 by_cases h : (rd b).2.2 = 0
 ·rw [itF (by simpa using h)]
  obtain ⟨w, hw⟩ : ∃ w : Nat, (rd b).1 = w := ⟨(rd b).1.toNat, by omega⟩
  rw [hw] at h2 ⊢
  rw [zwJ, zww w (by omega)]
  have e0 : IntKind.i64.wrap ((w % 8 : Nat) : Int) = (w : Int) % 8 := by rw [zz (by omega)]; omega
  by_cases hg : 4294967295 < w
  ·have e1 : IntKind.i64.wrap (if (536870912 : Int) < ((w / 8 : Nat) : Int) then 536870912 else ((w / 8 : Nat) : Int)) = 536870912 := by
    split
    ·rfl
    ·rw [zz (by omega)]; omega
   rw [e0, e1, zoe, sb]
   have e2 : zdm 536870912 ((w : Int) % 8) = false := by simp [zdm]
   simp only [e2]
   rw [itT (by rfl), ziv h (.inl (by rw [hw]; omega))]
  ·have e1 : IntKind.i64.wrap (if (536870912 : Int) < ((w / 8 : Nat) : Int) then 536870912 else ((w / 8 : Nat) : Int)) = (w : Int) / 8 := by
    rw [if_neg (by omega), zz (by omega)]; omega
   rw [e0, e1, zoe, sb]
   simp only
   cases ht : zdm ((w : Int) / 8) ((w : Int) % 8)
   ·rw [itT (by rfl), ziv h (.inr (by rw [hw]; exact ht))]
   ·rw [itF (by rfl), zri h (by rw [hw, ht]; simp; omega), hw]
 ·rw [itT (by simpa using h), zoW h]
end Go.Proofs.YtnfembipjdohcaaGreat
namespace Go.Proofs.YtnfembipjdohcaaGreat
open Go
theorem zvv {w : Int} {b : List UInt8} (hw : w = 0 ∨ w = 1 ∨ w = 2 ∨ w = 5) (hb : b.length ≤ 1048576) :
  zeU w b = some (match zcY w 0 b with | .inl c => (0, (if w = 0 then (rd b).2.1 else 0), c) | .inr (a, t) => ((a : Int), (t : Int), 0)) := by
 obtain ⟨h1, h2, h3, h4, h5, h6, h7⟩ := zeE b
 unfold zeU zcY
 rcases hw with rfl | rfl | rfl | rfl
 ·rw [itT (by rfl), zrT, sb, if_pos rfl]
  by_cases h : (rd b).2.2 = 0
  ·rw [if_neg (by simpa using h)]
   simp only [h, Nat.zero_add]
   congr 3
   simp; omega
  ·rw [if_pos h]; rfl
 ·rw [itF (by rfl), itT (by rfl), sb, itF (by rfl), if_neg (show ¬ ((1 : Int) = 0) by omega), if_neg (show ¬ ((1 : Int) = 2) by omega)]
  simp only
  have e : IntKind.u64.wrap (IntKind.i64.wrap ((b.length : Int) - 0)) = (b.length : Int) := by rw [zz (by omega), zfa]; omega
  rw [e]
  by_cases g : b.length < 8
  ·rw [itT (by simp; omega), if_pos (by simpa using g)]; rfl
  ·rw [itF (by simp; omega), if_neg (by simpa using g)]; rfl
 ·rw [itF (by rfl), itF (by rfl), itF (by rfl), itT (by rfl), zoK, sb, sb, if_neg (show ¬ ((2 : Int) = 0) by omega), if_pos (show (2 : Int) = 2 from rfl)]
  by_cases h : (rd b).2.2 = 0
  ·have hk := h7 h
   rw [itF (by simpa using h), if_neg (show ¬ ((rd b).2.2 ≠ 0) from fun g => g h)]
   simp only
   have e : IntKind.u64.wrap (IntKind.i64.wrap ((b.length : Int) - (rd b).2.1)) = (b.length : Int) - (rd b).2.1 := by rw [zz (by omega), zfa]; omega
   rw [e]
   by_cases g : (b.length : Int) - (rd b).2.1 < (rd b).1
   ·rw [itT (by simpa using g), if_pos g]; rfl
   ·rw [itF (by simpa using g), if_neg g, zz (x := (rd b).1) (by omega), zz (by omega)]
    simp; omega
  ·rw [itT (by simpa using h), if_pos h]; rfl
 ·rw [itF (by rfl), itF (by rfl), itT (by rfl), sb, itF (by rfl), if_neg (show ¬ ((5 : Int) = 0) by omega), if_neg (show ¬ ((5 : Int) = 2) by omega)]
  simp only
  have e : IntKind.u64.wrap (IntKind.i64.wrap ((b.length : Int) - 0)) = (b.length : Int) := by rw [zz (by omega), zfa]; omega
  rw [e]
  by_cases g : b.length < 4
  ·rw [itT (by simp; omega), if_pos (by simpa using g)]; rfl
  ·rw [itF (by simp; omega), if_neg (by simpa using g)]; rfl
theorem zph (w : Int) (k : Nat) (m : List UInt8) : zcY w k m = match zcY w 0 m with | .inl c => .inl c | .inr (a, t) => .inr (k + a, k + t) := by
 unfold zcY
 repeat' split
 all_goals first
  | rfl
  | (rename_i h1 h2; injection h2 with h3; injection h3 with h4 h5; subst h4 h5; simp <;> omega)
  | simp_all <;> omega
theorem zrM {b : List UInt8} (hb : b.length ≤ 1048576) (at5 : Int) : zed b at5 = some (zcL b at5) := by
 unfold zed zcL
 by_cases h : at5 < 0 ∨ at5 ≥ b.length
 ·rw [itT (by simpa using h), if_pos h]; rfl
 ·rw [itF (by simpa using h), if_neg h]
  obtain ⟨p, rfl⟩ : ∃ p : Nat, at5 = p := ⟨at5.toNat, by omega⟩
  rw [zjE rfl rfl (by omega), sb, zuA, sb, Int.toNat_natCast]
  have hdl : (b.drop p).length = b.length - p := by simp
  rcases zmV (b.drop p) with ⟨c, ht, hc⟩ | ⟨n, w, k, ht, hr, k1, k2, k3, hrd⟩
  ·have e : rec5 (b.drop p) = .inl c := by unfold rec5; rw [ht, if_pos (by simp only; omega)]
   rw [e, ht, itT (by simp; omega)]; rfl
  ·obtain ⟨k, rfl⟩ : ∃ j : Nat, k = j := ⟨k.toNat, by omega⟩
   have e : rec5 (b.drop p) = match zcY w k ((b.drop p).drop k) with
    | .inl c => .inl c
    | .inr p => .inr (n, w, p.1, p.2) := by unfold rec5; rw [ht]; simp <;> rfl
   have hdd : (b.drop p).drop k = b.drop (p + k) := by rw [List.drop_drop]
   have hml : (b.drop (p + k)).length = b.length - (p + k) := by simp
   have ew : IntKind.i64.wrap ((p : Int) + k) = ((p + k : Nat) : Int) := by rw [zz (by omega)]; push_cast; rfl
   rw [e, ht, itF (by simp), hdd]
   simp only [ew]
   rw [zjE rfl rfl (by omega), sb, zvv (zmU.1 hr).2.2 (by omega), sb, zph w k]
   rcases zkP w 0 (b.drop (p + k)) with ⟨c, hc, hc2⟩ | ⟨a, t, hc, _, _, hle, _⟩
   ·rw [hc]
    simp only
    rw [itT (by simp; omega)]; rfl
   ·rw [hc]
    simp only
    rw [itF (by rfl), zz (by omega), zz (by omega)]
    simp only [Option.some.injEq, Prod.mk.injEq, zj.mk.injEq, true_and, and_true]
    push_cast
    omega
end Go.Proofs.YtnfembipjdohcaaGreat
namespace Go.Proofs.YtnfembipjdohcaaGreat
open Go
set_option linter.unusedVariables false
abbrev Head := zD
abbrev Role := zJ
def rol (m : Mes) (h : Head) : Role := match vw m h.number h.wire with
 | .inl c => ⟨0, false, c⟩
 | .inr (i, run) => ⟨i, run, 0⟩
theorem zsM {m : Mes} (hm : m.Fields.length ≤ 1152921504606846976) (n : Int) : zfK m n = some (fldI m n) := by
 unfold zfK zQ
 have h := zkt (fun f : Fld => f.Number == n) m.Fields (fun i => zB m.Fields n i) (zay (by unfold zw; rw [itF (by simp)])) (fun i hi => by
  by_cases hp : (m.Fields[i].Number == n) = true
  ·rw [if_pos hp]; exact zay (by unfold zw zeo; rw [itT (by simp; omega), zaH rfl hi, sb, sb, itT hp])
  ·rw [if_neg hp]; exact zbz (by unfold zw zeo; rw [itT (by simp; omega), zaH rfl hi, sb, sb, itF (eq_false_of_ne_true hp), zz (by omega)]; rfl)) m.Fields.length 0 (by omega) (fun j _ h => by omega)
 have h' : zB m.Fields n 0 = _ := h
 rw [h', sb]
 unfold fldI zgn
 cases m.Fields.findIdx? (fun f : Fld => f.Number == n) with
 | none => rfl
 | some i => rfl
theorem zsN (f : Fld) (w : Int) : zfL f w = some (decide (f.Repeated = true ∧ kNum f.Kind = true ∧ w = 2)) := by
 unfold zfL
 cases f.Repeated
 ·simp [sb]
 ·by_cases hw : w = 2
  ·subst hw
   rw [itT rfl, itT (c := (2 : Int) == 2) rfl, zmi, sb, sb]
   cases kNum f.Kind <;> rfl
  ·rw [itT rfl, itF (by simpa using hw), sb]
   simp [hw]
theorem zuD (k w : Int) : zha k w = some (decide (¬ (zbQ k = false ∨ zdq k ≠ w))) := by
 unfold zha
 rw [zpI, sb]
 cases zbQ k with
 | false => rfl
 | true =>
  by_cases h : zdq k = w <;> simp [h]
theorem zrn {m : Mes} (hm : m.Fields.length ≤ 1152921504606846976) (h : Head) : zei m h = some (rol m h) := by
 unfold zei rol
 rw [zsM hm, sb]
 unfold vw
 rcases zjj m h.number with ⟨hf, _⟩ | ⟨i, hi, hf, _⟩
 ·rw [hf, itT (by rfl), if_pos (by decide)]
 ·rw [hf, itF (by simp), if_neg (by omega), zaH rfl hi, sb, zgE hi, zsN, sb]
  by_cases h1 : (m.Fields[i]).Repeated = true ∧ kNum (m.Fields[i]).Kind = true ∧ h.wire = 2
  ·rw [if_pos h1, decide_eq_true h1]
   rfl
  ·rw [if_neg h1, decide_eq_false h1, itT (by rfl), zuD, sb, sb]
   by_cases h2 : zbQ (m.Fields[i]).Kind = false ∨ zdq (m.Fields[i]).Kind ≠ h.wire
   ·rw [if_pos h2, itT (by rw [decide_eq_false (fun g => g h2)]; rfl)]
   ·rw [if_neg h2, itF (by rw [decide_eq_true h2]; rfl)]
def zjz (m : Mes) (met : List (Head × Role)) : Prop := ∀ h x, mget met h = some x → x = rol m h
theorem zjz.nil (m : Mes) : zjz m [] := fun h x g => by cases g
theorem zjz.put {m : Mes} {met : List (Head × Role)} (g : zjz m met) (h : Head) : zjz m (mput met h (rol m h)) := fun j x hx => by
 rw [ziH] at hx
 by_cases e : j = h
 ·rw [if_pos e] at hx; rw [e]; exact (Option.some.inj hx).symm
 ·rw [if_neg e] at hx; exact g j x hx
theorem ztY {m : Mes} (hm : m.Fields.length ≤ 1152921504606846976) {b : List UInt8} (hb : b.length ≤ 1048576) (p : Int) {met : List (Head × Role)} (g : zjz m met) :
  ∃ met', zhb m b p met = some (prV (zbS m b p).1, (zbS m b p).2, met') ∧ zjz m met' := by
 unfold zhb zbS
 rw [zrM hb, sb]
 by_cases h : (zcL b p).2 = 0
 ·rw [itF (by simpa using h), if_neg (show ¬ ((zcL b p).2 ≠ 0) from fun q => q h)]
  generalize (zcL b p).1 = r
  have key : ∃ met', (if (!(mget met (⟨r.Number, r.Wire⟩ : Head)).isSome) then (zei m (⟨r.Number, r.Wire⟩ : Head) >>= fun rv2 => some ((mput met (⟨r.Number, r.Wire⟩ : Head) rv2), rv2.field, rv2.run, rv2.e))
    else some (met, ((mget met (⟨r.Number, r.Wire⟩ : Head)).getD (⟨0, false, 0⟩ : Role)).field, ((mget met (⟨r.Number, r.Wire⟩ : Head)).getD (⟨0, false, 0⟩ : Role)).run, ((mget met (⟨r.Number, r.Wire⟩ : Head)).getD (⟨0, false, 0⟩ : Role)).e)) = some (met', (rol m ⟨r.Number, r.Wire⟩).field, (rol m ⟨r.Number, r.Wire⟩).run, (rol m ⟨r.Number, r.Wire⟩).e) ∧ zjz m met' := by
   cases hg : mget met (⟨r.Number, r.Wire⟩ : Head) with
   | none =>
    rw [itT (by rfl), zrn hm, sb]
    exact ⟨_, rfl, g.put _⟩
   | some x =>
    rw [itF (by rfl)]
    refine ⟨met, ?_, g⟩
    rw [← g _ x hg]
    rfl
  obtain ⟨met', hk, hM⟩ := key
  refine ⟨met', ?_, hM⟩
  rw [hk, sb]
  unfold rol
  rcases zhc m r.Number r.Wire with hv | ⟨hv, _⟩ | ⟨i, run, hv, _⟩
  ·simp only [hv]; rfl
  ·simp only [hv]; rfl
  ·simp only [hv]; rfl
 ·rw [itT (by simpa using h), if_pos h]
  exact ⟨met, rfl, g⟩
theorem zuE {m : Mes} (hm : m.Fields.length ≤ 1152921504606846976) {b : List UInt8} (hb : b.length ≤ 1048576) (p : Int) : zgZ m b p = some (prV (zbS m b p).1, (zbS m b p).2) := by
 obtain ⟨met', h, _⟩ := ztY hm hb p (zjz.nil m)
 unfold zgZ
 rw [h, sb]
end Go.Proofs.YtnfembipjdohcaaGreat
namespace Go.Proofs.YtnfembipjdohcaaGreat
open Go
set_option linter.unusedVariables false
def zhz (m : Mes) (g : Int → List UInt8 → Nat) (b : List UInt8) (r : Rec) : Nat := match vw m r.Number r.Wire with
 | .inl _ => 0
 | .inr (i, run) => if i < 0 ∨ run = true then 0 else if (zcn m i).Kind = 17 then g (zcn m i).Of (valB b r) + 1 else 0
def zfZ (m : Mes) (g : Int → List UInt8 → Nat) (b : List UInt8) : List Rec → Nat
 | [] => 0
 | r :: l => max (zhz m g b r) (zfZ m g b l)
def zdW (s : List Mes) : Nat → Int → List UInt8 → Nat
 | 0, k, b => zfZ (zak s k) (fun _ _ => 0) b (spl 0 b).1
 | d + 1, k, b => zfZ (zak s k) (zdW s d) b (spl 0 b).1
theorem zjK {m : Mes} {g : Int → List UInt8 → Nat} {b : List UInt8} {e : Nat} : ∀ {l : List Rec}, zfZ m g b l ≤ e ↔ ∀ r ∈ l, zhz m g b r ≤ e
 | [] => by simp [zfZ]
 | r :: l => by
  have ih := zjK (m := m) (g := g) (b := b) (e := e) (l := l)
  unfold zfZ
  rw [List.forall_mem_cons, ← ih]; omega
theorem ziN {m : Mes} {a c : zgx} {g : Int → List UInt8 → Nat} {b : List UInt8} {r : Rec} {e : Nat} (h : zbr m a b r = none) (hc0 : c = none ↔ e = 0)
  (hc : ∀ q, a = some q → ∀ q', c = some q' → ∀ k v, q k v = none → (q' k v = none ↔ g k v + 1 ≤ e)) : zbr m c b r = none ↔ zhz m g b r ≤ e := by
 unfold zbr at h ⊢
 unfold zhz
 cases hv : vw m r.Number r.Wire with
 | inl x => rw [hv] at h; cases h
 | inr p =>
  obtain ⟨i, run⟩ := p
  rw [hv] at h
  simp only at h ⊢
  by_cases hi : i < 0
  ·rw [if_pos hi, if_pos (.inl hi)]; simp
  ·rw [if_neg hi] at h ⊢
   unfold zhi at h ⊢
   by_cases hr : run = true
   ·rw [if_pos hr] at h
    rw [if_pos hr, if_pos (show i < 0 ∨ run = true from .inr hr)]
    exact ⟨fun _ => Nat.zero_le _, fun _ => h⟩
   ·rw [if_neg hr] at h ⊢
    rw [if_neg (show ¬ (i < 0 ∨ run = true) from fun q => q.elim hi hr)]
    by_cases h15 : (zcn m i).Kind = 15 ∧ zdJ (valB b r) = false
    ·rw [if_pos h15] at h; cases h
    ·rw [if_neg h15] at h ⊢
     by_cases h17 : (zcn m i).Kind = 17
     ·rw [if_pos h17] at h ⊢
      rw [if_pos h17]
      cases a with
      | none => cases h
      | some q =>
       simp only at h
       cases hq : q (zcn m i).Of (valB b r) with
       | some z => rw [hq] at h; cases h
       | none =>
        cases c with
        | none =>
         have := hc0.1 rfl
         simp only
         exact ⟨(fun hh => nomatch hh), (fun hh => by omega)⟩
        | some q' =>
         have := hc q rfl q' rfl _ _ hq
         simp only
         rw [← this]
         cases q' (zcn m i).Of (valB b r) <;> simp
     ·rw [if_neg h17, if_neg h17]; simp
theorem zjF (s : List Mes) : ∀ (d e : Nat) (k : Int) (b : List UInt8), e ≤ d → zaf s d k b = none → (zaf s e k b = none ↔ zdW s d k b ≤ e)
 | 0, e, k, b, he, h => by
  have : e = 0 := by omega
  subst this
  refine ⟨fun _ => zjK.2 (fun r hr => ?_), fun _ => h⟩
  have h' := (zfr.1 h).1 r hr
  exact (ziN (a := none) (c := none) h' (by simp) (fun q hq q' hq' => nomatch hq')).1 h'
 | d + 1, 0, k, b, he, h => by
  have h' : zaG (zak s k) (some (zaf s d)) b (spl 0 b) = none := h
  rw [zfr] at h'
  show zaG (zak s k) none b (spl 0 b) = none ↔ zfZ _ _ _ _ ≤ 0
  rw [zfr, zjK]
  constructor
  ·intro hh r hr
   exact (ziN (a := some (zaf s d)) (c := none) (h'.1 r hr) (by simp) (fun q hq q' hq' => nomatch hq')).1 (hh.1 r hr)
  ·intro hh
   exact ⟨fun r hr => (ziN (a := some (zaf s d)) (c := none) (h'.1 r hr) (by simp) (fun q hq q' hq' => nomatch hq')).2 (hh r hr), h'.2⟩
 | d + 1, e + 1, k, b, he, h => by
  have h' : zaG (zak s k) (some (zaf s d)) b (spl 0 b) = none := h
  rw [zfr] at h'
  show zaG (zak s k) (some (zaf s e)) b (spl 0 b) = none ↔ zfZ _ _ _ _ ≤ e + 1
  rw [zfr, zjK]
  have key : ∀ r ∈ (spl 0 b).1, zbr (zak s k) (some (zaf s e)) b r = none ↔ zhz (zak s k) (zdW s d) b r ≤ e + 1 := fun r hr =>
   ziN (a := some (zaf s d)) (h'.1 r hr) (by simp) (fun q hq q' hq' k v hk => by
    cases hq; cases hq'
    have := zjF s d e k v (by omega) hk
    rw [this]; omega)
  exact ⟨fun hh r hr => (key r hr).1 (hh.1 r hr), fun hh => ⟨fun r hr => (key r hr).2 (hh r hr), h'.2⟩⟩
theorem zqE {s : List Mes} {root : Int} {b : List UInt8} (h : is11 s root b 64 = true) : zfl s root b = zdW s 64 root b := by
 obtain ⟨ha, hf⟩ := zgH.1 h
 have hf' : zaf s 64 root b = none := hf
 have l1 := zqD (s := s) (root := root) (b := b)
 have l2 := (zjF s 64 64 root b (Nat.le_refl _) hf').1 hf'
 have iff : ∀ e : Nat, e ≤ 64 → (is11 s root b (e : Nat) = true ↔ zdW s 64 root b ≤ e) := fun e he => by
  rw [zgH, Int.toNat_natCast, ← zjF s 64 e root b he hf']
  exact ⟨fun h => h.2, fun h => ⟨zlH ha (by omega), h⟩⟩
 have k1 := (iff _ l1).1 ((zkQ h l1).2 (Nat.le_refl _))
 have k2 := (zkQ h l2).1 ((iff _ l2).2 (Nat.le_refl _))
 omega
abbrev zeu := zg
def zdn (s : List Mes) (met : List (zeu × PVw)) : Prop := ∀ h x, mget met h = some x → vw (zak s h.message) h.number h.wire = .inr (x.Field, x.Run)
theorem zdn.nil (s : List Mes) : zdn s [] := fun h x g => by cases g
theorem zdn.put {s : List Mes} {met : List (zeu × PVw)} (g : zdn s met) {h : zeu} {v : PVw} (hv : vw (zak s h.message) h.number h.wire = .inr (v.Field, v.Run)) : zdn s (mput met h v) := fun j x hx => by
 rw [ziH] at hx
 by_cases e : j = h
 ·rw [if_pos e] at hx; cases hx; rw [e]; exact hv
 ·rw [if_neg e] at hx; exact g j x hx
theorem zqn {s : List Mes} {k : Nat} (hk : k < s.length) (hm : (zak s k).Fields.length ≤ 1152921504606846976) {b : List UInt8} (hb : b.length ≤ 1048576) (p : Int) {t : Nat} (ht : t ≤ b.length) {met : List (zeu × PVw)} (g : zdn s met) :
  ∃ met', zdd ⟨s, b, met⟩ k p t = some (prV (zbS (zak s k) (b.take t) p).1, (zbS (zak s k) (b.take t) p).2, met') ∧ zdn s met' := by
 have hbt : (b.take t).length ≤ 1048576 := by rw [List.length_take]; omega
 have hcut : cut b 0 (t : Int) = some (b.take t) := by
  rw [zfb (i := 0) (j := t) rfl rfl (Nat.zero_le _) ht]; simp
 have hidx : idx s (k : Int) = some (zak s k) := by rw [zaH rfl hk, zgI hk]
 have hvl := zuE hm hbt p
 unfold zdd
 simp only
 rw [hcut, sb, zrM hbt, sb]
 unfold zbS at hvl ⊢
 by_cases h : (zcL (b.take t) p).2 = 0
 ·rw [itF (by simpa using h), if_neg (show ¬ ((zcL (b.take t) p).2 ≠ 0) from fun q => q h)]
  rw [if_neg (show ¬ ((zcL (b.take t) p).2 ≠ 0) from fun q => q h)] at hvl
  generalize (zcL (b.take t) p).1 = r at hvl ⊢
  cases hg : mget met (⟨(k : Int), r.Number, r.Wire⟩ : zeu) with
  | none =>
   rw [itT (by rfl), hidx, sb, hvl, sb]
   cases hv : vw (zak s k) r.Number r.Wire with
   | inl c =>
    have hc : c = 6 := by
     rcases zhc (zak s k) r.Number r.Wire with h' | ⟨h', _⟩ | ⟨_, _, h', _⟩ <;> rw [hv] at h' <;> cases h'
     rfl
    subst hc
    exact ⟨met, by rw [itT (by rfl)]; rfl, g⟩
   | inr q =>
    obtain ⟨i, run⟩ := q
    refine ⟨_, ?_, g.put (h := ⟨(k : Int), r.Number, r.Wire⟩) (v := prV ⟨r, i, run⟩) hv⟩
    rw [itF (by rfl)]
    rfl
  | some x =>
   have hv := g _ _ hg
   simp only at hv
   rw [itF (by rfl), hv]
   exact ⟨met, rfl, g⟩
 ·rw [itT (by simpa using h), if_pos h]
  exact ⟨met, rfl, g⟩
def zib (f : Fld) (run : Bool) (v : List UInt8) : Int := if run = true then (zgC f.Kind v).2 else if f.Kind = 15 ∧ zdJ v = false then 7 else if f.Kind = 17 then 8 else 0
theorem zsL (f : Fld) (run : Bool) {v : List UInt8} (hv : v.length ≤ 1048576) : zeZ f run v = some (zib f run v) := by
 unfold zeZ zib
 cases run
 ·rw [itF (c := false) rfl, if_neg (show ¬ (false = true) by simp)]
  have e15 : (if (f.Kind == 15) = true then (zfv v >>= fun rv2 => some (!rv2)) else some false) = some (decide (f.Kind = 15 ∧ zdJ v = false)) := by
   rw [zsJ (by omega), sb]
   by_cases h15 : f.Kind = 15
   ·rw [itT (by simpa using h15)]; cases zdJ v <;> simp [h15]
   ·rw [itF (by simpa using h15)]; simp [h15]
  rw [e15, sb]
  by_cases h15 : f.Kind = 15 ∧ zdJ v = false
  ·rw [itT (decide_eq_true h15), if_pos h15]
  ·rw [itF (decide_eq_false h15), if_neg h15]
   by_cases h17 : f.Kind = 17
   ·rw [itT (by simpa using h17), if_pos h17]
   ·rw [itF (by simpa using h17), if_neg h17]
 ·rw [itT (c := true) rfl, if_pos (show true = true from rfl), zsw _ hv, sb]
  unfold zdL zgC
  split
  ·rfl
  ·split <;> rfl
abbrev Find := zt
def okR (o : Option (Int × Int)) (a dp : Nat) (r : Find) : Prop := match o with
 | none => r = ⟨(dp : Int), 0, 0⟩
 | some (p, c) => r.place = (a : Int) + p ∧ r.e = c
def zmT (s : List Mes) : Nat → zgx
 | 0 => none
 | d + 1 => some (zaf s d)
def zkr (s : List Mes) : Nat → Int → List UInt8 → Nat
 | 0 => fun _ _ => 0
 | d + 1 => zdW s d
theorem zsd (s : List Mes) (d : Nat) (k : Int) (b : List UInt8) : zaf s d k b = zaG (zak s k) (zmT s d) b (spl 0 b) := by cases d <;> rfl
theorem zuS (s : List Mes) (d : Nat) (k : Int) (b : List UInt8) : zdW s d k b = zfZ (zak s k) (zkr s d) b (spl 0 b).1 := by cases d <;> rfl
theorem zuy (s : List Mes) (d : Nat) : ∀ g, zmT s d = some g → zkm g := fun g h => by
 cases d with
 | zero => cases h
 | succ d => cases h; exact zez s d
theorem zvm (b : List UInt8) (t a x y : Nat) (h : a + y ≤ t) : (((b.take t).drop a).drop x).take (y - x) = (b.take (a + y)).drop (a + x) := by
 rw [List.drop_drop, List.drop_take, List.drop_take, List.take_take]
 congr 1
 omega
theorem zsR {s : List Mes} {k : Nat} (hk : k < s.length) (hm : (zak s k).Fields.length ≤ 1152921504606846976) {b : List UInt8} (hb : b.length ≤ 1048576) {d : Int} {a t : Nat} (hat : a ≤ t) (ht : t ≤ b.length) {sub : zgx} {gd : Int → List UInt8 → Nat}
  (hg : ∀ g, sub = some g → zkm g) {recv : zN → Int → zb → Int → Option (zt × (List (zg × zb)))} {met0 : List (zeu × PVw)}
  (hval : ∀ met, zdn s met → ∀ (n w i : Int) (run : Bool) (base x y : Nat), vw (zak s k) n w = .inr (i, run) → 1 ≤ x → x ≤ y → a + base + y ≤ t →
   ∃ R met', recv ⟨s, b, met⟩ k ⟨⟨n, w, ((a + base : Nat) : Int), ((a + (base + x) : Nat) : Int), ((a + (base + y) : Nat) : Int)⟩, i, run⟩ d = some (R, met') ∧ zdn s met' ∧
    okR (zbr (zak s k) sub ((b.take t).drop a) ⟨n, w, base, (base + x : Nat), (base + y : Nat)⟩) a (zhz (zak s k) gd ((b.take t).drop a) ⟨n, w, base, (base + x : Nat), (base + y : Nat)⟩) R)
  (base : Nat) (l : List UInt8) : ∀ (met : List (zeu × PVw)) (dp : Nat), zdn s met → l = ((b.take t).drop a).drop base → base ≤ t - a →
  ∃ met' D, zdn s met' ∧ zaO d k recv t ⟨s, b, met0⟩ met ((a + base : Nat) : Int) dp = some (match zaG (zak s k) sub ((b.take t).drop a) (spl base l) with
   | none => .inl (met', ((max dp (zfZ (zak s k) gd ((b.take t).drop a) (spl base l).1) : Nat) : Int))
   | some (p, c) => .inr (met', D, (a : Int) + p, c)) := by
 have hvl : ((b.take t).drop a).length = t - a := by simp; omega
 generalize hvv : (b.take t).drop a = v at hval hvl ⊢
 refine zoT (fun base l => ∀ (met : List (zeu × PVw)) (dp : Nat), zdn s met → l = v.drop base → base ≤ t - a →
  ∃ met' D, zdn s met' ∧ zaO d k recv t ⟨s, b, met0⟩ met ((a + base : Nat) : Int) dp = some (match zaG (zak s k) sub v (spl base l) with
   | none => .inl (met', ((max dp (zfZ (zak s k) gd v (spl base l).1) : Nat) : Int))
   | some (p, c) => .inr (met', D, (a : Int) + p, c))) ?_ ?_ ?_ base l
 ·intro base met dp g hl hbase
  have : v.length ≤ base := by have := congrArg List.length hl; simp at this; omega
  refine ⟨met, 0, g, ?_⟩
  rw [ziM]
  refine zbA ?_
  unfold zO
  rw [itF (by simp; omega)]
  simp [zaG, zfZ]
 ·intro base l c hl h hc met dp g hld hbase
  have hlt : a + base < t := by have := List.length_pos_iff.2 hl; rw [hld] at this; simp at this; omega
  have hdr : (b.take t).drop (a + base) = l := by rw [hld, ← hvv, List.drop_drop]
  have e : zcL (b.take t) ((a + base : Nat) : Int) = (zrec, c) := by unfold zcL; rw [if_neg (by simp; omega), Int.toNat_natCast, hdr, h]
  have e2 : zbS (zak s k) (b.take t) ((a + base : Nat) : Int) = (zvw, c) := by unfold zbS; rw [e, if_pos (by simp only; omega)]
  obtain ⟨met', hlk, g'⟩ := zqn hk hm hb ((a + base : Nat) : Int) ht g
  refine ⟨met', 0, g', ?_⟩
  rw [zoS hl h]
  refine zbA ?_
  unfold zO
  simp only
  rw [itT (by simp; omega), hlk, sb, e2, itT (by simp; omega)]
  simp [zaG]
 ·intro base l n w x y hl h _ g1 g2 g3 ih met dp g hld hbase
  have hly : base + y ≤ t - a := by rw [hld] at g3; simp at g3; omega
  have hdr : (b.take t).drop (a + base) = l := by rw [hld, ← hvv, List.drop_drop]
  have e : zcL (b.take t) ((a + base : Nat) : Int) = (⟨n, w, ((a + base : Nat) : Int), ((a + (base + x) : Nat) : Int), ((a + (base + y) : Nat) : Int)⟩, 0) := by
   unfold zcL; rw [if_neg (by simp; omega), Int.toNat_natCast, hdr, h]
   have q1 : ((a + base : Nat) : Int) + x = ((a + (base + x) : Nat) : Int) := by omega
   have q2 : ((a + base : Nat) : Int) + y = ((a + (base + y) : Nat) : Int) := by omega
   simp only [q1, q2]
  obtain ⟨met', hlk, g'⟩ := zqn hk hm hb ((a + base : Nat) : Int) ht g
  have hfr : zaG (zak s k) sub v (spl base l) = match zbr (zak s k) sub v ⟨n, w, base, (base + x : Nat), (base + y : Nat)⟩ with
    | some p => some p
    | none => zaG (zak s k) sub v (spl (base + y) (l.drop y)) := by
   unfold zaG
   rw [zgS hl h]
   simp only [List.findSome?_cons]
   cases zbr (zak s k) sub v ⟨n, w, base, (base + x : Nat), (base + y : Nat)⟩ <;> rfl
  have hfd : zfZ (zak s k) gd v (spl base l).1 = max (zhz (zak s k) gd v ⟨n, w, base, (base + x : Nat), (base + y : Nat)⟩) (zfZ (zak s k) gd v (spl (base + y) (l.drop y)).1) := by
   rw [zgS hl h]; rfl
  cases hv : vw (zak s k) n w with
  | inl c =>
   have hc : c = 6 := by
    rcases zhc (zak s k) n w with h' | ⟨h', _⟩ | ⟨_, _, h', _⟩ <;> rw [hv] at h' <;> cases h'
    rfl
   subst hc
   have e2 : zbS (zak s k) (b.take t) ((a + base : Nat) : Int) = (zvw, 6) := by unfold zbS; rw [e]; simp only [ne_eq, not_true_eq_false, if_false, hv]
   have hst : zbr (zak s k) sub v ⟨n, w, base, (base + x : Nat), (base + y : Nat)⟩ = some ((base : Int), 6) := by unfold zbr; simp only [hv]
   refine ⟨met', 0, g', ?_⟩
   rw [hfr, hst]
   refine zbA ?_
   unfold zO
   simp only
   rw [itT (by simp; omega), hlk, sb, e2, itT (by rfl)]
   simp
  | inr q =>
   obtain ⟨i, run⟩ := q
   have e2 : zbS (zak s k) (b.take t) ((a + base : Nat) : Int) = (⟨⟨n, w, ((a + base : Nat) : Int), ((a + (base + x) : Nat) : Int), ((a + (base + y) : Nat) : Int)⟩, i, run⟩, 0) := by unfold zbS; rw [e]; simp only [ne_eq, not_true_eq_false, if_false, hv]
   obtain ⟨R, met2, hrv, g2', hok⟩ := hval met' g' n w i run base x y hv g1 g2 (by omega)
   have hpr : prV (⟨⟨n, w, ((a + base : Nat) : Int), ((a + (base + x) : Nat) : Int), ((a + (base + y) : Nat) : Int)⟩, i, run⟩ : Vw) = ⟨⟨n, w, ((a + base : Nat) : Int), ((a + (base + x) : Nat) : Int), ((a + (base + y) : Nat) : Int)⟩, i, run⟩ := rfl
   cases hst : zbr (zak s k) sub v ⟨n, w, base, (base + x : Nat), (base + y : Nat)⟩ with
   | some pc =>
    obtain ⟨p, c⟩ := pc
    have hgd := zob hg g1 g2 (b := v) (base := base) (by omega) hst
    rw [hst] at hok
    obtain ⟨o1, o2⟩ := hok
    refine ⟨met2, R.depth, g2', ?_⟩
    rw [hfr, hst]
    refine zbA ?_
    unfold zO
    simp only
    rw [itT (by simp; omega), hlk, sb, e2, itF (by rfl), hpr, hrv, sb, itT (by rw [o2]; simp; omega), o1, o2]
   | none =>
    rw [hst] at hok
    have hok' : R = ⟨((zhz (zak s k) gd v ⟨n, w, base, (base + x : Nat), (base + y : Nat)⟩ : Nat) : Int), 0, 0⟩ := hok
    obtain ⟨met3, D, g3', h3⟩ := ih met2 (max dp (zhz (zak s k) gd v ⟨n, w, base, (base + x : Nat), (base + y : Nat)⟩)) g2' (by rw [hld, List.drop_drop]) hly
    refine ⟨met3, D, g3', ?_⟩
    rw [hfr, hst, hfd, ← Nat.max_assoc, ← h3]
    refine zfX ?_
    unfold zO
    simp only
    rw [itT (by simp; omega), hlk, sb, e2, itF (by rfl), hpr, hrv, sb, hok', itF (by rfl)]
    simp only [Option.some.injEq, Sum.inl.injEq, Prod.mk.injEq, true_and]
    split <;> omega
theorem zvG {s : List Mes} (hr : zlF s) {k : Nat} (hk : k < s.length) {b : List UInt8} (hb : b.length ≤ 1048576) {d fuel : Nat} (hd : d ≤ 64) {a t : Nat} (ht : t ≤ b.length)
  (ih : ∀ e, d = e + 1 → ∀ (q A T : Nat) (met : List (zeu × PVw)), q < s.length → A ≤ T → T ≤ b.length → zdn s met →
   ∃ R met', zaq fuel ⟨s, b, met⟩ q A T e = some (R, met') ∧ zdn s met' ∧ okR (zaf s e q ((b.take T).drop A)) A (zdW s e q ((b.take T).drop A)) R)
  (met : List (zeu × PVw)) (g : zdn s met) (n w i : Int) (run : Bool) (base x y : Nat) (hv : vw (zak s k) n w = .inr (i, run)) (h1 : 1 ≤ x) (h2 : x ≤ y) (hy : a + base + y ≤ t) :
  ∃ R met', zbD (fuel + 1) ⟨s, b, met⟩ k ⟨⟨n, w, ((a + base : Nat) : Int), ((a + (base + x) : Nat) : Int), ((a + (base + y) : Nat) : Int)⟩, i, run⟩ d = some (R, met') ∧ zdn s met' ∧
    okR (zbr (zak s k) (zmT s d) ((b.take t).drop a) ⟨n, w, base, (base + x : Nat), (base + y : Nat)⟩) a (zhz (zak s k) (zkr s d) ((b.take t).drop a) ⟨n, w, base, (base + x : Nat), (base + y : Nat)⟩) R := by
 have hidx : idx s (k : Int) = some (zak s k) := by rw [zaH rfl hk, zgI hk]
 have hun : ∀ w' v', zbD (fuel + 1) w' k v' d = zbE (zaq fuel) (zbD fuel) w' k v' d := fun _ _ => rfl
 have hvb : valB ((b.take t).drop a) ⟨n, w, base, (base + x : Nat), (base + y : Nat)⟩ = (b.take (a + (base + y))).drop (a + (base + x)) := by
  unfold valB
  simp only [Int.toNat_natCast]
  exact zvm b t a (base + x) (base + y) (by omega)
 rcases zhc (zak s k) n w with h' | ⟨h', _⟩ | ⟨j, run', h', _, hi⟩
 ·rw [hv] at h'; cases h'
 ·rw [hv] at h'
  obtain ⟨rfl, rfl⟩ : i = -1 ∧ run = false := by simpa using h'
  refine ⟨⟨0, 0, 0⟩, met, ?_, g, ?_⟩
  ·rw [hun]; unfold zbE; rw [itT (by rfl)]
  ·unfold zbr zhz; simp only [hv]
   rw [if_pos (show ((-1 : Int) < 0) by omega), if_pos (.inl (show ((-1 : Int) < 0) by omega))]; rfl
 ·rw [hv] at h'
  obtain ⟨rfl, rfl⟩ : i = j ∧ run = run' := by simpa using h'
  have hfm : zcn (zak s k) (j : Int) ∈ (zak s k).Fields := by rw [zgE hi]; exact List.getElem_mem hi
  have hmem : zak s k ∈ s := by rw [zgI hk]; exact List.getElem_mem hk
  have hrun : run = true → (zcn (zak s k) (j : Int)).Kind ≠ 17 := fun hh h17 => by
   subst hh
   have := (zuF hv).1
   rw [h17] at this; cases this
  have hcut : cut b ((a + (base + x) : Nat) : Int) ((a + (base + y) : Nat) : Int) = some ((b.take (a + (base + y))).drop (a + (base + x))) := by
   rw [zfb rfl rfl (by omega) (by omega), List.drop_take]
  have hlen : ((b.take (a + (base + y))).drop (a + (base + x))).length ≤ 1048576 := by simp; omega
  unfold zbr zhz
  simp only [hv]
  rw [if_neg (show ¬ ((j : Int) < 0) by omega), hvb]
  have hif : (if ((j : Int) < 0 ∨ run = true) then 0 else if (zcn (zak s k) (j : Int)).Kind = 17 then zkr s d (zcn (zak s k) (j : Int)).Of ((b.take (a + (base + y))).drop (a + (base + x))) + 1 else 0) = (if (zcn (zak s k) (j : Int)).Kind = 17 then zkr s d (zcn (zak s k) (j : Int)).Of ((b.take (a + (base + y))).drop (a + (base + x))) + 1 else 0) := by
   cases run with
   | false => rw [if_neg (by simp)]
   | true => rw [if_pos (.inr rfl), if_neg (hrun rfl)]
  rw [hif]
  simp only [hun]
  unfold zbE
  simp only
  rw [itF (show ((j : Int) == -1) = false by simp), hidx, sb, zaH (i := j) rfl hi, sb, ← zgE hi]
  generalize hvv : (b.take (a + (base + y))).drop (a + (base + x)) = v at hlen hcut ⊢
  have hof := (hr.fld _ hmem _ hfm).sub
  generalize zcn (zak s k) (j : Int) = f at hfm hrun hof ⊢
  by_cases hs : f.Kind = 17 ∧ 0 < d
  ·obtain ⟨e, rfl⟩ : ∃ e, d = e + 1 := ⟨d - 1, by omega⟩
   have hrf : run = false := by
    cases run with
    | false => rfl
    | true => exact absurd hs.1 (hrun rfl)
   subst hrf
   have hof' := hof hs.1
   obtain ⟨q, hq⟩ : ∃ q : Nat, f.Of = q := ⟨f.Of.toNat, by omega⟩
   obtain ⟨R, met', hR, g', hok⟩ := ih e rfl q (a + (base + x)) (a + (base + y)) met (by omega) (by omega) (by omega) g
   rw [hvv] at hok
   have hw1 : IntKind.i64.wrap (((e + 1 : Nat) : Int) - 1) = (e : Int) := by rw [zz (by omega)]; omega
   refine ⟨⟨IntKind.i64.wrap (R.depth + 1), R.place, R.e⟩, met', ?_, g', ?_⟩
   ·rw [itT (by simp [hs.1]), hw1, hq, hR, sb]
   ·rw [if_pos hs.1]
    unfold zhi
    rw [if_neg (by simp), if_neg (by rw [hs.1]; simp), if_pos hs.1]
    simp only [zmT, zkr, hq]
    cases hf : zaf s e q v with
    | none =>
     rw [hf] at hok
     have hok' : R = ⟨((zdW s e q v : Nat) : Int), 0, 0⟩ := hok
     have hdl := (zjF s e e q v (Nat.le_refl _) hf).1 hf
     subst hok'
     show (⟨IntKind.i64.wrap (((zdW s e q v : Nat) : Int) + 1), 0, 0⟩ : Find) = _
     rw [zz (by omega)]
     rfl
    | some pc =>
     obtain ⟨p, c⟩ := pc
     rw [hf] at hok
     obtain ⟨o1, o2⟩ := hok
     refine ⟨?_, o2⟩
     simp only
     rw [o1]; push_cast; omega
  ·have hno : ((f.Kind == 17) && decide (((d : Nat) : Int) > 0)) = false := by
    rw [Bool.and_eq_false_iff]
    by_cases h17 : f.Kind = 17
    ·exact .inr (decide_eq_false (by have := fun h => hs ⟨h17, h⟩; omega))
    ·exact .inl (by simpa using h17)
   have hlf : zhi f run (zmT s d) ⟨n, w, base, (base + x : Nat), (base + y : Nat)⟩ v = if zib f run v ≠ 0 then some ((base : Int), zib f run v) else none := by
    unfold zhi zib
    by_cases hrt : run = true
    ·rw [if_pos hrt, if_pos hrt]
    ·rw [if_neg hrt, if_neg hrt]
     by_cases h15 : f.Kind = 15 ∧ zdJ v = false
     ·rw [if_pos h15, if_pos h15, if_pos (by omega)]
     ·rw [if_neg h15, if_neg h15]
      by_cases h17 : f.Kind = 17
      ·have : d = 0 := by have := fun h => hs ⟨h17, h⟩; omega
       subst this
       rw [if_pos h17, if_pos h17, if_pos (by omega)]; rfl
      ·rw [if_neg h17, if_neg h17, if_neg (by omega)]
   rw [itF hno, hcut, sb, zsL f run hlen, sb, hlf]
   by_cases h0 : zib f run v = 0
   ·refine ⟨⟨0, 0, 0⟩, met, by rw [itF (by simpa using h0)], g, ?_⟩
    rw [if_neg (by simpa using h0)]
    have : f.Kind ≠ 17 := fun h17 => by
     have hrf : run = false := by
      cases run with
      | false => rfl
      | true => exact absurd h17 (hrun rfl)
     subst hrf
     unfold zib at h0
     rw [if_neg (by simp), if_neg (by rw [h17]; simp), if_pos h17] at h0
     omega
    rw [if_neg this]
    rfl
   ·refine ⟨⟨0, ((a + base : Nat) : Int), zib f run v⟩, met, by rw [itT (by simpa using h0)], g, ?_⟩
    rw [if_pos h0]
    exact ⟨by simp, rfl⟩
theorem zvC {s : List Mes} (hr : zlF s) {b : List UInt8} (hb : b.length ≤ 1048576) : ∀ (d fuel : Nat), d ≤ 64 → 2 * d + 2 ≤ fuel → ∀ (q A T : Nat) (met : List (zeu × PVw)), q < s.length → A ≤ T → T ≤ b.length → zdn s met →
   ∃ R met', zaq fuel ⟨s, b, met⟩ q A T d = some (R, met') ∧ zdn s met' ∧ okR (zaf s d q ((b.take T).drop A)) A (zdW s d q ((b.take T).drop A)) R := by
 have step : ∀ (d fuel : Nat), d ≤ 64 → (∀ e, d = e + 1 → ∀ (q A T : Nat) (met : List (zeu × PVw)), q < s.length → A ≤ T → T ≤ b.length → zdn s met →
   ∃ R met', zaq fuel ⟨s, b, met⟩ q A T e = some (R, met') ∧ zdn s met' ∧ okR (zaf s e q ((b.take T).drop A)) A (zdW s e q ((b.take T).drop A)) R) →
   ∀ (q A T : Nat) (met : List (zeu × PVw)), q < s.length → A ≤ T → T ≤ b.length → zdn s met →
   ∃ R met', zaq (fuel + 2) ⟨s, b, met⟩ q A T d = some (R, met') ∧ zdn s met' ∧ okR (zaf s d q ((b.take T).drop A)) A (zdW s d q ((b.take T).drop A)) R := by
  intro d fuel hd ih q A T met hq hAT hT g
  have hun : ∀ w' k' p' t' d', zaq (fuel + 2) w' k' p' t' d' = zbM (zaq (fuel + 1)) (zbD (fuel + 1)) w' k' p' t' d' := fun _ _ _ _ _ => rfl
  have hm : (zak s q).Fields.length ≤ 1152921504606846976 := by
   rw [zgI hq]; have := hr.few _ (List.getElem_mem hq); omega
  obtain ⟨met', D, g', hl⟩ := zsR (s := s) hq hm hb (d := (d : Int)) hAT hT (sub := zmT s d) (gd := zkr s d) (zuy s d) (recv := zbD (fuel + 1)) (met0 := met)
   (fun met1 g1 n w i run base x y hv h1 h2 hy => zvG hr hq hb hd hT ih met1 g1 n w i run base x y hv h1 h2 hy) 0 _ met 0 g rfl (Nat.zero_le _)
  have hl' : zaO d q (zbD (fuel + 1)) T ⟨s, b, met⟩ met (A : Int) 0 = _ := hl
  rw [hun, zsd, zuS]
  unfold zbM
  simp only
  rw [List.drop_zero, Nat.zero_max] at hl'
  rw [hl', sb]
  cases hf : zaG (zak s q) (zmT s d) ((b.take T).drop A) (spl 0 ((b.take T).drop A)) with
  | none => exact ⟨_, _, rfl, g', rfl⟩
  | some pc => exact ⟨_, _, rfl, g', rfl, rfl⟩
 intro d
 induction d with
 | zero =>
  intro fuel hd hf
  obtain ⟨fuel, rfl⟩ : ∃ z, fuel = z + 2 := ⟨fuel - 2, by omega⟩
  exact step 0 fuel hd (fun e he => by omega)
 | succ d ih =>
  intro fuel hd hf
  obtain ⟨fuel, rfl⟩ : ∃ z, fuel = z + 2 := ⟨fuel - 2, by omega⟩
  refine step (d + 1) fuel hd (fun e he => ?_)
  obtain rfl : d = e := by omega
  exact ih fuel (by omega) (by omega)
theorem zql {s : List Mes} (hw : WS s) (root d : Int) : zeH s root d = some (argS s root d) := by
 unfold zeH argS
 rw [zum hw, sb]
 cases h : zhq s
 ·rw [itT (c := !false) rfl, if_pos (show false = false from rfl)]
 ·rw [itF (c := !true) rfl, if_neg (show ¬ (true = false) by simp)]
  by_cases h2 : root < 0 ∨ root ≥ s.length ∨ d < 0 ∨ d > 64
  ·rw [itT (by simpa using h2), if_pos h2]
  ·rw [itF (by simp; omega), if_neg h2]
theorem zrz {s : List Mes} (hw : WS s) (root : Int) {b : List UInt8} (hb : b.length ≤ 1048576) (d : Int) {fuel : Nat} (hf : 130 ≤ fuel) :
  ∃ R, zeI fuel s root b d = some R ∧ R.place = (zck s root b d).1 ∧ R.e = (zck s root b d).2 ∧ ((zck s root b d).2 = 0 → R.depth = ((zdW s d.toNat root b : Nat) : Int)) := by
 unfold zeI zck
 rw [zql hw, sb]
 by_cases h : argS s root d = 0
 ·obtain ⟨hr, h1, h2, h3, h4⟩ := znx h
  obtain ⟨k, rfl⟩ : ∃ k : Nat, root = k := ⟨root.toNat, by omega⟩
  obtain ⟨e, rfl⟩ : ∃ k : Nat, d = k := ⟨d.toNat, by omega⟩
  obtain ⟨R, met', hR, _, hok⟩ := zvC hr hb e fuel (by omega) (by omega) k 0 b.length [] (by omega) (Nat.zero_le _) (Nat.le_refl _) (zdn.nil s)
  have hR' : zaq fuel ⟨s, b, []⟩ k 0 (b.length : Int) e = some (R, met') := hR
  rw [List.take_length, List.drop_zero] at hok
  rw [itF (by simpa using h), if_neg (by simpa using h), hR', sb, Int.toNat_natCast]
  refine ⟨R, rfl, ?_⟩
  cases hfi : zaf s e k b with
  | none =>
   rw [hfi] at hok
   have hok' : R = ⟨((zdW s e k b : Nat) : Int), 0, 0⟩ := hok
   subst hok'
   exact ⟨rfl, rfl, fun _ => rfl⟩
  | some pc =>
   obtain ⟨p, c⟩ := pc
   rw [hfi] at hok
   obtain ⟨o1, o2⟩ := hok
   have := zez s e k b p c hfi
   simp only [Option.getD_some]
   refine ⟨by rw [o1]; simp, o2, fun h0 => by omega⟩
 ·rw [itT (by simpa using h), if_pos h]
  exact ⟨_, rfl, rfl, rfl, fun h0 => absurd h0 h⟩
theorem zof {s : List Mes} (hw : WS s) (root : Int) {b : List UInt8} (hb : b.length ≤ 1048576) (d : Int) {fuel : Nat} (hf : 130 ≤ fuel) : zeg fuel s root b d = some (zck s root b d) := by
 obtain ⟨R, hR, h1, h2, _⟩ := zrz hw root hb d hf
 unfold zeg
 rw [hR, sb, h1, h2]
theorem zro {s : List Mes} (hw : WS s) (root : Int) {b : List UInt8} (hb : b.length ≤ 1048576) (d : Int) {fuel : Nat} (hf : 130 ≤ fuel) : zfI fuel s root b d = some (is11 s root b d) := by
 unfold zfI
 rw [zof hw root hb d hf, sb]; rfl
theorem zsK {s : List Mes} (hw : WS s) (root : Int) {b : List UInt8} (hb : b.length ≤ 1048576) {fuel : Nat} (hf : 130 ≤ fuel) : zeY fuel s root b = some (znB s root b) := by
 obtain ⟨R, hR, h1, h2, h3⟩ := zrz hw root hb 64 hf
 unfold zeY znB
 rw [hR, sb, h2]
 by_cases h : (zck s root b 64).2 = 0
 ·have hd := zqE (s := s) (root := root) (b := b) (by unfold is11; simpa using h)
  rw [itF (by simpa using h), if_neg (by simpa using h), h3 h, hd]
  rfl
 ·rw [itT (by simpa using h), if_pos h]
end Go.Proofs.YtnfembipjdohcaaGreat
