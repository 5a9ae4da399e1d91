/-
  What the plain functions of layer 4 (utf) are. No condition.
-/
import Derived.Test.YtfcmlcegeiphdaaS04
import Derived.Test.YtfcmlcegeiphdaaPure
namespace Go.Proofs.Ytfcmlcegeiphdaa
open Go

/-! ### the words of the layer -/
/-- The numbers of a code point's bytes. -/
def cpN (r : Nat) : List Nat :=
  if r < 128 then [r] else if r < 2048 then [192 + r / 64, 128 + r % 64]
  else if r < 65536 then (if 55296 ≤ r ∧ r ≤ 57343 then [] else [224 + r / 4096, 128 + r / 64 % 64, 128 + r % 64])
  else if r ≤ 1114111 then [240 + r / 262144, 128 + r / 4096 % 64, 128 + r / 64 % 64, 128 + r % 64] else []
def cpB (r : Nat) : List UInt8 := (cpN r).map UInt8.ofNat
/-- Is it a byte behind a first one? -/
def cont (c : UInt8) : Bool := decide (128 ≤ c.toNat ∧ c.toNat < 192)
def is1 : List UInt8 → Bool
  | a :: _ => decide (a.toNat < 128)
  | _ => false
def is2 : List UInt8 → Bool
  | a :: b :: _ => decide (194 ≤ a.toNat ∧ a.toNat < 224 ∧ cont b = true)
  | _ => false
def is3 : List UInt8 → Bool
  | a :: b :: c :: _ => decide (224 ≤ a.toNat ∧ a.toNat < 240 ∧ cont b = true ∧ cont c = true ∧ (a.toNat = 224 → 160 ≤ b.toNat) ∧ (a.toNat = 237 → b.toNat < 160))
  | _ => false
def is4 : List UInt8 → Bool
  | a :: b :: c :: d :: _ => decide (240 ≤ a.toNat ∧ a.toNat < 245 ∧ cont b = true ∧ cont c = true ∧ cont d = true ∧ (a.toNat = 240 → 144 ≤ b.toNat) ∧ (a.toNat = 244 → b.toNat < 144))
  | _ => false
/-- How many bytes the first code point has; 0: there is none. -/
def nxt (l : List UInt8) : Nat := if is1 l then 1 else if is2 l then 2 else if is3 l then 3 else if is4 l then 4 else 0

/-! ### the document's code points -/
theorem ofNat_eq {n : Nat} {c : UInt8} (h : n < 256) : (UInt8.ofNat n = c) ↔ n = c.toNat := by
  constructor
  · intro e; rw [← e, UInt8.toNat_ofNat']; omega
  · intro e; rw [e, UInt8.ofNat_toNat]
theorem refcp_is (r : Int) : darningref04_Put r = some (if r < 0 then [] else cpB r.toNat) := by
  unfold darningref04_Put
  by_cases h0 : r < 0
  · rw [itT (by simp; omega), if_pos h0]
  · rw [if_neg h0]
    obtain ⟨n, rfl⟩ : ∃ n : Nat, r = n := ⟨r.toNat, by omega⟩
    rw [Int.toNat_natCast]
    unfold cpB cpN
    by_cases h1 : n < 128
    · rw [itF (by simp; omega), itT (by simp; omega), if_pos h1, wrap_u8, byteO_nat (n := n) (by omega) (by omega)]; rfl
    · rw [if_neg h1]
      by_cases h2 : n < 2048
      · rw [itF (by simp; omega), itF (by simp; omega), itT (by simp; omega), if_pos h2]
        simp only [Int.tdiv_eq_ediv_of_nonneg (show (0 : Int) ≤ n by omega), Int.tmod_eq_emod_of_nonneg (show (0 : Int) ≤ n by omega), wrap_u8]
        rw [wrap_i64 (x := (n : Int) / 64) (by omega), wrap_i64 (by omega), wrap_i64 (by omega), byteO_nat (n := 192 + n / 64) (by omega) (by omega), sb, byteO_nat (n := 128 + n % 64) (by omega) (by omega)]; rfl
      · rw [if_neg h2]
        by_cases h3 : n < 65536
        · rw [if_pos h3]
          by_cases h4 : 55296 ≤ n ∧ n ≤ 57343
          · rw [itT (by simp; omega), if_pos h4]; rfl
          · rw [itF (by simp; omega), itF (by simp; omega), itF (by simp; omega), itT (by simp; omega), if_neg h4]
            simp only [Int.tdiv_eq_ediv_of_nonneg (show (0 : Int) ≤ n by omega), Int.tmod_eq_emod_of_nonneg (show (0 : Int) ≤ n by omega), wrap_u8]
            rw [wrap_i64 (x := (n : Int) / 4096) (by omega), wrap_i64 (x := (n : Int) / 64) (by omega), Int.tmod_eq_emod_of_nonneg (by omega), wrap_i64 (by omega), wrap_i64 (by omega), wrap_i64 (by omega),
              byteO_nat (n := 224 + n / 4096) (by omega) (by omega), sb, byteO_nat (n := 128 + n / 64 % 64) (by omega) (by omega), sb, byteO_nat (n := 128 + n % 64) (by omega) (by omega)]; rfl
        · rw [if_neg h3]
          by_cases h4 : n ≤ 1114111
          · rw [itF (by simp; omega), itF (by simp; omega), itF (by simp; omega), itF (by simp; omega), if_pos h4]
            simp only [Int.tdiv_eq_ediv_of_nonneg (show (0 : Int) ≤ n by omega), Int.tmod_eq_emod_of_nonneg (show (0 : Int) ≤ n by omega), wrap_u8]
            rw [wrap_i64 (x := (n : Int) / 262144) (by omega), wrap_i64 (x := (n : Int) / 4096) (by omega), wrap_i64 (x := (n : Int) / 64) (by omega), Int.tmod_eq_emod_of_nonneg (by omega), Int.tmod_eq_emod_of_nonneg (by omega), wrap_i64 (by omega), wrap_i64 (by omega), wrap_i64 (by omega), wrap_i64 (by omega),
              byteO_nat (n := 240 + n / 262144) (by omega) (by omega), sb, byteO_nat (n := 128 + n / 4096 % 64) (by omega) (by omega), sb, byteO_nat (n := 128 + n / 64 % 64) (by omega) (by omega), sb, byteO_nat (n := 128 + n % 64) (by omega) (by omega)]; rfl
          · rw [itT (by simp; omega), if_neg h4]; rfl
/-- The value that n bytes of a code point would have. -/
def cpVal : Nat → List UInt8 → Nat
  | 1, a :: _ => a.toNat
  | 2, a :: b :: _ => 64 * (a.toNat % 32) + b.toNat % 64
  | 3, a :: b :: c :: _ => 64 * (64 * (a.toNat % 16) + b.toNat % 64) + c.toNat % 64
  | 4, a :: b :: c :: d :: _ => 64 * (64 * (64 * (a.toNat % 8) + b.toNat % 64) + c.toNat % 64) + d.toNat % 64
  | _, _ => 0
theorem map1 {l : List Nat} {a : UInt8} (h : ∀ x ∈ l, x < 256) : l.map UInt8.ofNat = [a] ↔ l = [a.toNat] := by
  cases l with
  | nil => simp
  | cons x l => cases l with
    | nil => simp only [List.map_cons, List.map_nil, List.cons.injEq, and_true]; exact ofNat_eq (h x (by simp))
    | cons y l => simp
theorem map2 {l : List Nat} {a b : UInt8} (h : ∀ x ∈ l, x < 256) : l.map UInt8.ofNat = [a, b] ↔ l = [a.toNat, b.toNat] := by
  cases l with
  | nil => simp
  | cons x l => simp only [List.map_cons, List.cons.injEq, ofNat_eq (h x (by simp)), map1 (l := l) fun y hy => h y (by simp [hy])]
theorem map3 {l : List Nat} {a b c : UInt8} (h : ∀ x ∈ l, x < 256) : l.map UInt8.ofNat = [a, b, c] ↔ l = [a.toNat, b.toNat, c.toNat] := by
  cases l with
  | nil => simp
  | cons x l => simp only [List.map_cons, List.cons.injEq, ofNat_eq (h x (by simp)), map2 (l := l) fun y hy => h y (by simp [hy])]
theorem map4 {l : List Nat} {a b c d : UInt8} (h : ∀ x ∈ l, x < 256) : l.map UInt8.ofNat = [a, b, c, d] ↔ l = [a.toNat, b.toNat, c.toNat, d.toNat] := by
  cases l with
  | nil => simp
  | cons x l => simp only [List.map_cons, List.cons.injEq, ofNat_eq (h x (by simp)), map3 (l := l) fun y hy => h y (by simp [hy])]
theorem cpN_lt (r : Nat) : ∀ x ∈ cpN r, x < 256 := by
  intro x hx
  unfold cpN at hx
  split at hx
  · simp at hx; omega
  · split at hx
    · simp at hx; omega
    · split at hx
      · split at hx
        · cases hx
        · simp at hx; omega
      · split at hx
        · simp at hx; omega
        · cases hx
theorem cpB1 (a : UInt8) : cpB a.toNat = [a] ↔ a.toNat < 128 := by
  have ha := a.toNat_lt
  unfold cpB
  rw [map1 (cpN_lt _)]
  unfold cpN
  by_cases h : a.toNat < 128
  · simp [h]
  · rw [if_neg h, if_pos (by omega)]; simp; omega
theorem cpB2 (a b : UInt8) : cpB (64 * (a.toNat % 32) + b.toNat % 64) = [a, b] ↔ 194 ≤ a.toNat ∧ a.toNat < 224 ∧ cont b = true := by
  have ha := a.toNat_lt
  have hb := b.toNat_lt
  unfold cpB cont
  rw [map2 (cpN_lt _)]
  unfold cpN
  by_cases h : 64 * (a.toNat % 32) + b.toNat % 64 < 128
  · rw [if_pos h]; simp; omega
  · rw [if_neg h, if_pos (by omega)]; simp; omega
theorem cpB3 (a b c : UInt8) : cpB (64 * (64 * (a.toNat % 16) + b.toNat % 64) + c.toNat % 64) = [a, b, c] ↔ 224 ≤ a.toNat ∧ a.toNat < 240 ∧ cont b = true ∧ cont c = true ∧ (a.toNat = 224 → 160 ≤ b.toNat) ∧ (a.toNat = 237 → b.toNat < 160) := by
  have ha := a.toNat_lt
  have hb := b.toNat_lt
  have hc := c.toNat_lt
  unfold cpB cont
  rw [map3 (cpN_lt _)]
  unfold cpN
  by_cases h : 64 * (64 * (a.toNat % 16) + b.toNat % 64) + c.toNat % 64 < 128
  · rw [if_pos h]; simp; omega
  · rw [if_neg h]
    by_cases h2 : 64 * (64 * (a.toNat % 16) + b.toNat % 64) + c.toNat % 64 < 2048
    · rw [if_pos h2]; simp; omega
    · rw [if_neg h2, if_pos (by omega)]
      by_cases h3 : 55296 ≤ 64 * (64 * (a.toNat % 16) + b.toNat % 64) + c.toNat % 64 ∧ 64 * (64 * (a.toNat % 16) + b.toNat % 64) + c.toNat % 64 ≤ 57343
      · rw [if_pos h3]; simp; omega
      · rw [if_neg h3]; simp; omega
theorem cpB4 (a b c d : UInt8) : cpB (64 * (64 * (64 * (a.toNat % 8) + b.toNat % 64) + c.toNat % 64) + d.toNat % 64) = [a, b, c, d] ↔
    240 ≤ a.toNat ∧ a.toNat < 245 ∧ cont b = true ∧ cont c = true ∧ cont d = true ∧ (a.toNat = 240 → 144 ≤ b.toNat) ∧ (a.toNat = 244 → b.toNat < 144) := by
  have ha := a.toNat_lt
  have hb := b.toNat_lt
  have hc := c.toNat_lt
  have hd := d.toNat_lt
  unfold cpB cont
  rw [map4 (cpN_lt _)]
  unfold cpN
  by_cases h : 64 * (64 * (64 * (a.toNat % 8) + b.toNat % 64) + c.toNat % 64) + d.toNat % 64 < 65536
  · have : ∀ l : List Nat, l.length ≤ 3 → (l = [a.toNat, b.toNat, c.toNat, d.toNat]) = False := fun l hl => by simp only [eq_iff_iff, iff_false]; intro e; rw [e] at hl; simp at hl
    rw [if_pos h]
    split
    · rw [this _ (by simp)]; simp; omega
    · split
      · rw [this _ (by simp)]; simp; omega
      · split
        · rw [this _ (by simp)]; simp; omega
        · rw [this _ (by simp)]; simp; omega
  · rw [if_neg (by omega), if_neg (by omega), if_neg h]
    by_cases h2 : 64 * (64 * (64 * (a.toNat % 8) + b.toNat % 64) + c.toNat % 64) + d.toNat % 64 ≤ 1114111
    · rw [if_pos h2]; simp; omega
    · rw [if_neg h2]; simp; omega

def isN (n : Nat) (l : List UInt8) : Bool := match n with
  | 1 => is1 l
  | 2 => is2 l
  | 3 => is3 l
  | 4 => is4 l
  | _ => false
theorem isN_iff (n : Nat) (l : List UInt8) (h1 : 1 ≤ n) (h4 : n ≤ 4) (hl : n ≤ l.length) : cpB (cpVal n l) = l.take n ↔ isN n l = true := by
  match n, l, h1, h4, hl with
  | 1, a :: t, _, _, _ => simp only [cpVal, List.take_succ_cons, List.take_zero, cpB1, isN, is1, decide_eq_true_eq]
  | 2, a :: b :: t, _, _, _ => simp only [cpVal, List.take_succ_cons, List.take_zero, cpB2, isN, is2, decide_eq_true_eq]
  | 3, a :: b :: c :: t, _, _, _ => simp only [cpVal, List.take_succ_cons, List.take_zero, cpB3, isN, is3, decide_eq_true_eq]
  | 4, a :: b :: c :: d :: t, _, _, _ => simp only [cpVal, List.take_succ_cons, List.take_zero, cpB4, isN, is4, decide_eq_true_eq]
theorem isN_len (n : Nat) (l : List UInt8) (h : l.length < n) : isN n l = false := by
  match n, l with
  | 0, _ => rfl
  | 1, [] => rfl
  | 2, [] => rfl
  | 2, [_] => rfl
  | 3, [] => rfl
  | 3, [_] => rfl
  | 3, [_, _] => rfl
  | 4, [] => rfl
  | 4, [_] => rfl
  | 4, [_, _] => rfl
  | 4, [_, _, _] => rfl
  | n + 5, _ => rfl
  | 1, _ :: _ => simp at h
  | 2, _ :: _ :: _ => simp at h; omega
  | 3, _ :: _ :: _ :: _ => simp at h; omega
  | 4, _ :: _ :: _ :: _ :: _ => simp at h; omega

theorem l2_step {b : List UInt8} {a n i r : Nat} (hb : b.length ≤ 1152921504606846976) (hn : n ≤ 4) (h : i < n) (ha : a + i < b.length) (hr : r ≤ 1000000000) :
    darningref04_Next_l2 a b n r i = darningref04_Next_l2 a b n ((64 * r + (b[a + i]).toNat % 64 : Nat) : Int) ((i + 1 : Nat) : Int) := by
  refine darningref04_Next_l2_inl ?_
  unfold darningref04_Next_b2
  have hc := (b[a + i]).toNat_lt
  rw [itT (by simp; omega), wrap_i64 (by omega), idx_of (show (a : Int) + i = ((a + i : Nat) : Int) by push_cast; rfl) ha, sb]
  simp (disch := omega) only [wrap_i64, Int.tmod_eq_emod_of_nonneg]
  push_cast; rfl
theorem l2_end {b : List UInt8} {a n i r : Nat} (h : n ≤ i) : darningref04_Next_l2 a b n r i = some (r : Int) := by
  refine darningref04_Next_l2_inr ?_
  unfold darningref04_Next_b2
  rw [itF (by simp; omega)]
theorem drop_get {b : List UInt8} {a i : Nat} {c : UInt8} (h : (b.drop a)[i]? = some c) : ∃ h : a + i < b.length, b[a + i] = c := by
  rw [List.getElem?_drop] at h
  exact List.getElem?_eq_some_iff.1 h
theorem l2_is {b : List UInt8} {a n : Nat} {c : UInt8} {t : List UInt8} (hb : b.length ≤ 1152921504606846976) (hl : b.drop a = c :: t) (h1 : 1 ≤ n) (h4 : n ≤ 4) (hn : n ≤ (b.drop a).length) :
    darningref04_Next_l2 a b n ((if 1 < n then c.toNat % ([0, 0, 32, 16, 8].getD n 0) else c.toNat : Nat) : Int) (1 : Nat) = some ((cpVal n (b.drop a) : Nat) : Int) := by
  have hc := c.toNat_lt
  rw [hl] at hn
  match n, t, h1, h4, hn with
  | 1, t, _, _, _ => rw [l2_end (by omega), hl]; rfl
  | 2, x :: t, _, _, _ =>
    obtain ⟨g1, e1⟩ := drop_get (b := b) (a := a) (i := 1) (c := x) (by rw [hl]; rfl)
    rw [if_pos (by omega), l2_step hb (by omega) (by omega) g1 (by simp; omega), l2_end (by omega), hl, e1]; rfl
  | 3, x :: y :: t, _, _, _ =>
    obtain ⟨g1, e1⟩ := drop_get (b := b) (a := a) (i := 1) (c := x) (by rw [hl]; rfl)
    obtain ⟨g2, e2⟩ := drop_get (b := b) (a := a) (i := 2) (c := y) (by rw [hl]; rfl)
    have hx := x.toNat_lt
    rw [if_pos (by omega), l2_step hb (by omega) (by omega) g1 (by simp; omega), l2_step hb (by omega) (by omega) g2 (by simp; omega), l2_end (by omega), hl, e1, e2]; rfl
  | 4, x :: y :: z :: t, _, _, _ =>
    obtain ⟨g1, e1⟩ := drop_get (b := b) (a := a) (i := 1) (c := x) (by rw [hl]; rfl)
    obtain ⟨g2, e2⟩ := drop_get (b := b) (a := a) (i := 2) (c := y) (by rw [hl]; rfl)
    obtain ⟨g3, e3⟩ := drop_get (b := b) (a := a) (i := 3) (c := z) (by rw [hl]; rfl)
    have hx := x.toNat_lt
    have hy := y.toNat_lt
    rw [if_pos (by omega), l2_step hb (by omega) (by omega) g1 (by simp; omega), l2_step hb (by omega) (by omega) g2 (by simp; omega), l2_step hb (by omega) (by omega) g3 (by simp; omega), l2_end (by omega), hl, e1, e2, e3]; rfl
theorem b1_is {b : List UInt8} {a n : Nat} (hb : b.length ≤ 1152921504606846976) (ha : a ≤ b.length) (h1 : 1 ≤ n) (h5 : n ≤ 5) :
    darningref04_Next_b1 a b n = if isN n (b.drop a) then some (.inr (.inr (n : Int))) else if n ≤ 4 ∧ n ≤ (b.drop a).length then some (.inl ((n + 1 : Nat) : Int)) else some (.inr (.inl ())) := by
  have hdl : (b.drop a).length = b.length - a := by simp
  unfold darningref04_Next_b1
  by_cases h : n ≤ 4 ∧ n ≤ (b.drop a).length
  · rw [if_pos h, wrap_i64 (by omega), itT (by simp; omega)]
    obtain ⟨c, t, hl⟩ : ∃ c t, b.drop a = c :: t := by
      cases hh : b.drop a with
      | nil => rw [hh] at h; simp at h; omega
      | cons c t => exact ⟨c, t, rfl⟩
    obtain ⟨g0, e0⟩ := drop_get (b := b) (a := a) (i := 0) (c := c) (by rw [hl]; rfl)
    have hc := c.toNat_lt
    rw [idx_of rfl (show a < b.length by omega), sb]
    have e0' : b[a]'(by omega) = c := by simpa using e0
    rw [e0', wrap_i64 (by omega)]
    have hp : (if (decide ((n : Int) > 1)) = true then (idx ([0, 0, 32, 16, 8] : (List Int)) (n : Int) >>= fun x2 => remI (c.toNat : Int) x2 >>= fun v3 => some v3) else some (c.toNat : Int)) = some (((if 1 < n then c.toNat % ([0, 0, 32, 16, 8].getD n 0) else c.toNat : Nat)) : Int) := by
      match n, h1, h.1 with
      | 1, _, _ => rfl
      | 2, _, _ => rfl
      | 3, _, _ => rfl
      | 4, _, _ => rfl
    rw [hp, sb]
    have h2 := l2_is hb hl h1 h.1 h.2
    have h2' : darningref04_Next_l2 a b n ((if 1 < n then c.toNat % ([0, 0, 32, 16, 8].getD n 0) else c.toNat : Nat) : Int) 1 = some ((cpVal n (b.drop a) : Nat) : Int) := h2
    rw [h2', sb, refcp_is, sb, if_neg (by omega), Int.toNat_natCast, cut_of rfl (show (a : Int) + n = ((a + n : Nat) : Int) by push_cast; rfl) (by omega) (by omega), sb, Nat.add_sub_cancel_left]
    by_cases hi : isN n (b.drop a) = true
    · rw [if_pos hi, itT (by simpa using (isN_iff n _ h1 h.1 h.2).2 hi)]
    · rw [if_neg hi, itF (by simpa using fun e => hi ((isN_iff n _ h1 h.1 h.2).1 e)), wrap_i64 (by omega)]; rfl
  · have hn : isN n (b.drop a) = false := by
      by_cases h4 : n ≤ 4
      · exact isN_len _ _ (by omega)
      · have : n = 5 := by omega
        subst this; rfl
    rw [if_neg h, hn, wrap_i64 (by omega), itF (by simp; omega)]; rfl
theorem refnext_is {b : List UInt8} {a : Nat} (hb : b.length ≤ 1152921504606846976) (ha : a ≤ b.length) : darningref04_Next b a = some ((nxt (b.drop a) : Nat) : Int) := by
  have key : ∀ (k n : Nat), n + k = 5 → 1 ≤ n → (∀ j, 1 ≤ j → j < n → isN j (b.drop a) = false) → ∃ q, darningref04_Next_l1 a b n = some q ∧ (match q with | .inl _ => (0 : Int) | .inr u => u) = ((nxt (b.drop a) : Nat) : Int) := by
    intro k
    induction k with
    | zero =>
      intro n hn h1 hj
      have : n = 5 := by omega
      subst this
      refine ⟨.inl (), darningref04_Next_l1_inr ?_, ?_⟩
      · rw [b1_is hb ha h1 (by omega), if_neg (by simp [isN]), if_neg (by omega)]
      · have j1 := hj 1 (by omega) (by omega)
        have j2 := hj 2 (by omega) (by omega)
        have j3 := hj 3 (by omega) (by omega)
        have j4 := hj 4 (by omega) (by omega)
        simp only [isN] at j1 j2 j3 j4
        simp [nxt, j1, j2, j3, j4]
    | succ k ih =>
      intro n hn h1 hj
      have hb1 := b1_is hb ha h1 (show n ≤ 5 by omega)
      by_cases hi : isN n (b.drop a) = true
      · rw [if_pos hi] at hb1
        refine ⟨.inr n, darningref04_Next_l1_inr hb1, ?_⟩
        have e : nxt (b.drop a) = n := by
          match n, h1, (show n ≤ 4 by omega), hi, hj with
          | 1, _, _, hi, _ => simp only [isN] at hi; simp [nxt, hi]
          | 2, _, _, hi, hj => have j1 := hj 1 (by omega) (by omega); simp only [isN] at hi j1; simp [nxt, hi, j1]
          | 3, _, _, hi, hj => have j1 := hj 1 (by omega) (by omega); have j2 := hj 2 (by omega) (by omega); simp only [isN] at hi j1 j2; simp [nxt, hi, j1, j2]
          | 4, _, _, hi, hj => have j1 := hj 1 (by omega) (by omega); have j2 := hj 2 (by omega) (by omega); have j3 := hj 3 (by omega) (by omega); simp only [isN] at hi j1 j2 j3; simp [nxt, hi, j1, j2, j3]
        simp only [e]
      · rw [if_neg hi] at hb1
        by_cases hl : n ≤ 4 ∧ n ≤ (b.drop a).length
        · rw [if_pos hl] at hb1
          obtain ⟨q, h2, h3⟩ := ih (n + 1) (by omega) (by omega) fun j g1 g2 => by
            by_cases he : j = n
            · subst he; simpa using hi
            · exact hj j g1 (by omega)
          exact ⟨q, (darningref04_Next_l1_inl hb1).trans h2, h3⟩
        · rw [if_neg hl] at hb1
          refine ⟨.inl (), darningref04_Next_l1_inr hb1, ?_⟩
          have hall : ∀ j, 1 ≤ j → isN j (b.drop a) = false := fun j g1 => by
            by_cases g2 : j < n
            · exact hj j g1 g2
            · by_cases g3 : j ≤ 4
              · exact isN_len _ _ (by omega)
              · match j, g3 with
                | j + 5, _ => rfl
          have j1 := hall 1 (by omega)
          have j2 := hall 2 (by omega)
          have j3 := hall 3 (by omega)
          have j4 := hall 4 (by omega)
          simp only [isN] at j1 j2 j3 j4
          simp [nxt, j1, j2, j3, j4]
  obtain ⟨q, h1, h2⟩ := key 4 1 rfl (by omega) fun j g1 g2 => by omega
  unfold darningref04_Next
  have h1' : darningref04_Next_l1 a b 1 = some q := h1
  rw [h1', sb, ← h2]
  cases q <;> rfl

/-! ### code points, one behind the other -/
theorem isN_head {n : Nat} {l : List UInt8} (h : isN n l = true) : ∃ a t, l = a :: t ∧ n ≤ l.length ∧ (n = 1 ∧ a.toNat < 128 ∨ n = 2 ∧ 194 ≤ a.toNat ∧ a.toNat < 224 ∨ n = 3 ∧ 224 ≤ a.toNat ∧ a.toNat < 240 ∨ n = 4 ∧ 240 ≤ a.toNat) := by
  match n, l with
  | 1, a :: t => simp only [isN, is1, decide_eq_true_eq] at h; exact ⟨a, t, rfl, by simp, .inl ⟨rfl, h⟩⟩
  | 2, a :: b :: t => simp only [isN, is2, decide_eq_true_eq] at h; exact ⟨a, _, rfl, by simp, .inr (.inl ⟨rfl, h.1, h.2.1⟩)⟩
  | 3, a :: b :: c :: t => simp only [isN, is3, decide_eq_true_eq] at h; exact ⟨a, _, rfl, by simp, .inr (.inr (.inl ⟨rfl, h.1, h.2.1⟩))⟩
  | 4, a :: b :: c :: d :: t => simp only [isN, is4, decide_eq_true_eq] at h; exact ⟨a, _, rfl, by simp, .inr (.inr (.inr ⟨rfl, h.1⟩))⟩
  | 0, _ => cases h
  | 1, [] => cases h
  | 2, [] => cases h
  | 2, [_] => cases h
  | 3, [] => cases h
  | 3, [_] => cases h
  | 3, [_, _] => cases h
  | 4, [] => cases h
  | 4, [_] => cases h
  | 4, [_, _] => cases h
  | 4, [_, _, _] => cases h
  | _ + 5, _ => cases h
theorem isN_one {n m : Nat} {l : List UInt8} (h : isN n l = true) (h' : isN m l = true) : n = m := by
  obtain ⟨a, t, e, _, g⟩ := isN_head h
  obtain ⟨a', t', e', _, g'⟩ := isN_head h'
  rw [e] at e'
  cases e'
  omega
theorem nxt_of {n : Nat} {l : List UInt8} (h : isN n l = true) : nxt l = n := by
  obtain ⟨_, _, _, _, g⟩ := isN_head h
  have k : ∀ m, m ≠ n → isN m l = false := fun m hm => by
    cases hh : isN m l with
    | false => rfl
    | true => exact absurd (isN_one hh h) hm
  have hn : n = 1 ∨ n = 2 ∨ n = 3 ∨ n = 4 := by omega
  rcases hn with rfl | rfl | rfl | rfl
  · simp only [isN] at h; simp [nxt, h]
  · have j1 := k 1 (by omega); simp only [isN] at h j1; simp [nxt, h, j1]
  · have j1 := k 1 (by omega); have j2 := k 2 (by omega); simp only [isN] at h j1 j2; simp [nxt, h, j1, j2]
  · have j1 := k 1 (by omega); have j2 := k 2 (by omega); have j3 := k 3 (by omega); simp only [isN] at h j1 j2 j3; simp [nxt, h, j1, j2, j3]
theorem nxt_isN {l : List UInt8} (h : nxt l ≠ 0) : isN (nxt l) l = true := by
  unfold nxt at h ⊢
  by_cases h1 : is1 l = true
  · simp [h1, isN]
  · by_cases h2 : is2 l = true
    · simp [h1, h2, isN]
    · by_cases h3 : is3 l = true
      · simp [h1, h2, h3, isN]
      · by_cases h4 : is4 l = true
        · simp [h1, h2, h3, h4, isN]
        · simp [h1, h2, h3, h4] at h
theorem nxt_le (l : List UInt8) : nxt l ≤ l.length := by
  by_cases h : nxt l = 0
  · omega
  · obtain ⟨_, _, _, g, _⟩ := isN_head (nxt_isN h); exact g
theorem nxt_le4 (l : List UInt8) : nxt l ≤ 4 := by
  by_cases h : nxt l = 0
  · omega
  · obtain ⟨_, _, _, _, g⟩ := isN_head (nxt_isN h); omega
theorem isN_append (n : Nat) (x y : List UInt8) (h : n ≤ x.length) : isN n (x ++ y) = isN n x := by
  match n, x with
  | 0, _ => rfl
  | 1, _ :: _ => rfl
  | 2, _ :: _ :: _ => rfl
  | 3, _ :: _ :: _ :: _ => rfl
  | 4, _ :: _ :: _ :: _ :: _ => rfl
  | _ + 5, _ => rfl
  | 1, [] => simp at h
  | 2, [] => simp at h
  | 2, [_] => simp at h
  | 3, [] => simp at h
  | 3, [_] => simp at h
  | 3, [_, _] => simp at h
  | 4, [] => simp at h
  | 4, [_] => simp at h
  | 4, [_, _] => simp at h
  | 4, [_, _, _] => simp at h
theorem nxt_append {x : List UInt8} (y : List UInt8) (h : nxt x ≠ 0) : nxt (x ++ y) = nxt x :=
  nxt_of (by rw [isN_append _ _ _ (nxt_le x)]; exact nxt_isN h)
theorem nxt_cut {x y : List UInt8} (h : nxt (x ++ y) ≤ x.length) : nxt x = nxt (x ++ y) := by
  by_cases h0 : nxt x = 0
  · by_cases h1 : nxt (x ++ y) = 0
    · omega
    · have := nxt_isN h1
      rw [isN_append _ _ _ h] at this
      exact nxt_of this
  · exact (nxt_append y h0).symm
theorem nxt_take {l : List UInt8} {k : Nat} (h : nxt l ≤ k) : nxt (l.take k) = nxt l := by
  have e : l.take k ++ l.drop k = l := List.take_append_drop k l
  have h2 := nxt_le l
  have := nxt_cut (x := l.take k) (y := l.drop k) (by rw [e, List.length_take]; omega)
  rw [this, e]

/-- How many bytes and how many code points stand ahead, of at most so many bytes. -/
def fst4 (m : Int) (l : List UInt8) : Nat × Nat :=
  if h : nxt l = 0 ∨ (nxt l : Int) > m then (0, 0) else (nxt l + (fst4 (m - nxt l) (l.drop (nxt l))).1, (fst4 (m - nxt l) (l.drop (nxt l))).2 + 1)
termination_by l.length
decreasing_by all_goals (have := nxt_le l; simp only [List.length_drop]; omega)
theorem fst4_stop {m : Int} {l : List UInt8} (h : nxt l = 0 ∨ (nxt l : Int) > m) : fst4 m l = (0, 0) := by rw [fst4, dif_pos h]
theorem fst4_go {m : Int} {l : List UInt8} (h : ¬ (nxt l = 0 ∨ (nxt l : Int) > m)) : fst4 m l = (nxt l + (fst4 (m - nxt l) (l.drop (nxt l))).1, (fst4 (m - nxt l) (l.drop (nxt l))).2 + 1) := by rw [fst4, dif_neg h]
theorem fst4_nil (m : Int) : fst4 m [] = (0, 0) := fst4_stop (.inl rfl)
theorem fst4_ind (P : Int → List UInt8 → Prop) (h0 : ∀ m l, (nxt l = 0 ∨ (nxt l : Int) > m) → P m l) (h1 : ∀ m l, ¬ (nxt l = 0 ∨ (nxt l : Int) > m) → P (m - nxt l) (l.drop (nxt l)) → P m l) (m : Int) (l : List UInt8) : P m l := by
  generalize hn : l.length = n
  induction n using Nat.strongRecOn generalizing m l with
  | _ n ih =>
    by_cases h : nxt l = 0 ∨ (nxt l : Int) > m
    · exact h0 m l h
    · have := nxt_le l
      exact h1 m l h (ih _ (by simp only [List.length_drop]; omega) _ _ rfl)
theorem fst4_le (m : Int) (l : List UInt8) : (fst4 m l).1 ≤ l.length ∧ (fst4 m l).2 ≤ (fst4 m l).1 ∧ ((fst4 m l).1 = 0 ∨ ((fst4 m l).1 : Int) ≤ m) := by
  refine fst4_ind (fun m l => (fst4 m l).1 ≤ l.length ∧ (fst4 m l).2 ≤ (fst4 m l).1 ∧ ((fst4 m l).1 = 0 ∨ ((fst4 m l).1 : Int) ≤ m)) ?_ ?_ m l
  · intro m l h; rw [fst4_stop h]; simp
  · intro m l h ih
    have := nxt_le l
    rw [fst4_go h]
    simp only [List.length_drop] at ih ⊢
    omega
theorem reffirst_loop {b : List UInt8} (hb : b.length ≤ 1048576) (most : Int) (m : Int) (l : List UInt8) : ∀ (a c : Nat), c ≤ a → a ≤ b.length → l = b.drop a → m = most - a →
    darningref04_First_l1 b most a c = some (((a + (fst4 m l).1 : Nat) : Int), ((c + (fst4 m l).2 : Nat) : Int)) := by
  refine fst4_ind (fun m l => ∀ (a c : Nat), c ≤ a → a ≤ b.length → l = b.drop a → m = most - a → darningref04_First_l1 b most a c = some (((a + (fst4 m l).1 : Nat) : Int), ((c + (fst4 m l).2 : Nat) : Int))) ?_ ?_ m l
  · intro m l h a c hc ha hl hm
    subst hl hm
    have h4 := nxt_le4 (b.drop a)
    refine darningref04_First_l1_inr ?_
    unfold darningref04_First_b1
    rw [refnext_is (by omega) ha, sb, wrap_i64 (by omega), itT (by simp; omega), fst4_stop h]; rfl
  · intro m l h ih a c hc ha hl hm
    subst hl hm
    have h4 := nxt_le4 (b.drop a)
    have hle := nxt_le (b.drop a)
    simp only [List.length_drop] at hle
    refine (darningref04_First_l1_inl (atv' := ((a + nxt (b.drop a) : Nat) : Int)) (count' := ((c + 1 : Nat) : Int)) ?_).trans ?_
    · unfold darningref04_First_b1
      rw [refnext_is (by omega) ha, sb, wrap_i64 (by omega), itF (by simp; omega), wrap_i64 (by omega)]; rfl
    · rw [ih (a + nxt (b.drop a)) (c + 1) (by omega) (by omega) (by rw [List.drop_drop]) (by omega), fst4_go h]
      simp only [Nat.add_assoc, Nat.add_comm 1]
theorem reffirst_is {b : List UInt8} (hb : b.length ≤ 1048576) (most : Int) : darningref04_First b most = some (((fst4 most b).1 : Int), ((fst4 most b).2 : Int)) := by
  unfold darningref04_First
  have h := reffirst_loop hb most most b 0 0 (Nat.le_refl _) (Nat.zero_le _) rfl (by omega)
  simp only [Nat.zero_add] at h
  have h' : darningref04_First_l1 b most 0 0 = some (((fst4 most b).1 : Int), ((fst4 most b).2 : Int)) := h
  rw [h', sb]

/-! ### right texts -/
/-- How many bytes and code points are right from the beginning on. -/
def pre4 (l : List UInt8) : Nat × Nat := fst4 l.length l
theorem fst4_big {m : Int} {l : List UInt8} (h : (l.length : Int) ≤ m) : fst4 m l = pre4 l := by
  have key : ∀ (n : Nat) (l : List UInt8) (m m' : Int), l.length = n → (l.length : Int) ≤ m → (l.length : Int) ≤ m' → fst4 m l = fst4 m' l := by
    intro n
    induction n using Nat.strongRecOn with
    | _ n ih =>
      intro l m m' hn hm hm'
      have hle := nxt_le l
      by_cases h : nxt l = 0
      · rw [fst4_stop (.inl h), fst4_stop (.inl h)]
      · rw [fst4_go (m := m) (l := l) (by omega), fst4_go (m := m') (l := l) (by omega), ih _ (by simp only [List.length_drop]; omega) (l.drop (nxt l)) (m - nxt l) (m' - nxt l) rfl (by simp only [List.length_drop]; omega) (by simp only [List.length_drop]; omega)]
  exact key _ l m l.length rfl h (Int.le_refl _)
theorem pre4_nil : pre4 [] = (0, 0) := fst4_nil _
theorem pre4_stop {l : List UInt8} (h : nxt l = 0) : pre4 l = (0, 0) := fst4_stop (.inl h)
theorem pre4_go {l : List UInt8} (h : nxt l ≠ 0) : pre4 l = (nxt l + (pre4 (l.drop (nxt l))).1, (pre4 (l.drop (nxt l))).2 + 1) := by
  have hle := nxt_le l
  unfold pre4
  rw [fst4_go (by omega), fst4_big (m := (l.length : Int) - nxt l) (by simp only [List.length_drop]; omega)]
  rfl
theorem pre4_le (l : List UInt8) : (pre4 l).1 ≤ l.length ∧ (pre4 l).2 ≤ (pre4 l).1 := by
  have := fst4_le l.length l
  exact ⟨this.1, this.2.1⟩
theorem pre4_ind (P : List UInt8 → Prop) (h0 : ∀ l, nxt l = 0 → P l) (h1 : ∀ l, nxt l ≠ 0 → P (l.drop (nxt l)) → P l) (l : List UInt8) : P l := by
  generalize hn : l.length = n
  induction n using Nat.strongRecOn generalizing l with
  | _ n ih =>
    by_cases h : nxt l = 0
    · exact h0 l h
    · have := nxt_le l
      exact h1 l h (ih _ (by simp only [List.length_drop]; omega) _ rfl)
/-- What is cut is right. -/
theorem pre4_take (m : Int) (l : List UInt8) : pre4 (l.take (fst4 m l).1) = fst4 m l := by
  refine fst4_ind (fun m l => pre4 (l.take (fst4 m l).1) = fst4 m l) ?_ ?_ m l
  · intro m l h; rw [fst4_stop h, List.take_zero]; exact pre4_nil
  · intro m l h ih
    have hn : nxt (l.take (fst4 m l).1) = nxt l := nxt_take (by rw [fst4_go h]; simp only; omega)
    rw [pre4_go (by rw [hn]; omega), hn, List.drop_take]
    have e : (fst4 m l).1 - nxt l = (fst4 (m - nxt l) (l.drop (nxt l))).1 := by rw [fst4_go h]; simp
    rw [e, ih, fst4_go h]
/-- Two right texts are right together. -/
theorem pre4_append (y : List UInt8) (x : List UInt8) : (pre4 x).1 = x.length → pre4 (x ++ y) = (x.length + (pre4 y).1, (pre4 x).2 + (pre4 y).2) := by
  refine pre4_ind (fun x => (pre4 x).1 = x.length → pre4 (x ++ y) = (x.length + (pre4 y).1, (pre4 x).2 + (pre4 y).2)) ?_ ?_ x
  · intro x h hx
    rw [pre4_stop h] at hx ⊢
    have : x = [] := List.eq_nil_of_length_eq_zero hx.symm
    subst this
    simp
  · intro x h ih hx
    have hle := nxt_le x
    rw [pre4_go h] at hx ⊢
    simp only at hx
    rw [pre4_go (by rw [nxt_append y h]; exact h), nxt_append y h, List.drop_append_of_le_length hle, ih (by simp only [List.length_drop]; omega)]
    simp only [List.length_drop, Prod.mk.injEq]
    omega
theorem cp_nxt (r : Nat) (h : cpB r ≠ []) : nxt (cpB r) = (cpB r).length ∧ 1 ≤ (cpB r).length := by
  have hN : ∀ n, isN n (cpB r) = true → n = (cpB r).length → nxt (cpB r) = (cpB r).length ∧ 1 ≤ (cpB r).length := fun n h1 h2 => by
    refine ⟨by rw [nxt_of h1, h2], ?_⟩
    cases hc : cpB r with
    | nil => exact absurd hc h
    | cons _ _ => simp
  have hb := cpN_lt r
  have tn : ∀ n : Nat, n < 256 → (UInt8.ofNat n).toNat = n := fun n hn => by rw [UInt8.toNat_ofNat']; omega
  unfold cpB cpN at h hN ⊢
  by_cases h1 : r < 128
  · simp only [if_pos h1] at h hN ⊢
    refine hN 1 ?_ rfl
    simp only [List.map_cons, isN, is1, tn r (by omega)]; simpa using h1
  · simp only [if_neg h1] at h hN ⊢
    by_cases h2 : r < 2048
    · simp only [if_pos h2] at h hN ⊢
      refine hN 2 ?_ rfl
      simp only [List.map_cons, isN, is2, cont, tn (192 + r / 64) (by omega), tn (128 + r % 64) (by omega), decide_eq_true_eq]; omega
    · simp only [if_neg h2] at h hN ⊢
      by_cases h3 : r < 65536
      · simp only [if_pos h3] at h hN ⊢
        by_cases h4 : 55296 ≤ r ∧ r ≤ 57343
        · rw [if_pos h4] at h; exact absurd rfl h
        · simp only [if_neg h4] at h hN ⊢
          refine hN 3 ?_ rfl
          simp only [List.map_cons, isN, is3, cont, tn (224 + r / 4096) (by omega), tn (128 + r / 64 % 64) (by omega), tn (128 + r % 64) (by omega), decide_eq_true_eq]; omega
      · simp only [if_neg h3] at h hN ⊢
        by_cases h4 : r ≤ 1114111
        · simp only [if_pos h4] at h hN ⊢
          refine hN 4 ?_ rfl
          simp only [List.map_cons, isN, is4, cont, tn (240 + r / 262144) (by omega), tn (128 + r / 4096 % 64) (by omega), tn (128 + r / 64 % 64) (by omega), tn (128 + r % 64) (by omega), decide_eq_true_eq]; omega
        · rw [if_neg h4] at h; exact absurd rfl h
theorem cp_pre (r : Nat) (h : cpB r ≠ []) : pre4 (cpB r) = ((cpB r).length, 1) ∧ fst4 (((cpB r).length : Int) - 1) (cpB r) = (0, 0) := by
  obtain ⟨h1, h2⟩ := cp_nxt r h
  constructor
  · rw [pre4_go (by omega), h1, List.drop_length, pre4_nil]; rfl
  · exact fst4_stop (by omega)
def right4 (l : List UInt8) : Bool := decide ((pre4 l).1 = l.length)
theorem right4_append (x y : List UInt8) (h : right4 x = true) : right4 (x ++ y) = right4 y := by
  unfold right4 at h ⊢
  rw [pre4_append y x (by simpa using h)]
  simp
theorem refright_is {b : List UInt8} (hb : b.length ≤ 1048576) : darningref04_Right b = some (right4 b) := by
  unfold darningref04_Right
  rw [reffirst_is hb, sb]
  unfold right4 pre4
  by_cases h : (fst4 (b.length : Int) b).1 = b.length
  · simp [h]
  · have h2 : ¬ (((fst4 (b.length : Int) b).1 : Int) = b.length) := by omega
    simp [h, h2]
end Go.Proofs.Ytfcmlcegeiphdaa
