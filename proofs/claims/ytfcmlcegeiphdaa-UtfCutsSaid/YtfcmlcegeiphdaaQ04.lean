/-
  The project's functions of layer 4 (utf), as plain functions. No condition.
-/
import Derived.Test.YtfcmlcegeiphdaaP04
namespace Go.Proofs.Ytfcmlcegeiphdaa
open Go

theorem open_is : ∀ a < 256, utf_open ((a : Nat) : Int) = some (if a < 128 then (1, (a : Int)) else if a / 32 = 6 then (2, ((a % 32 : Nat) : Int)) else if a / 16 = 14 then (3, ((a % 16 : Nat) : Int)) else if a / 8 = 30 then (4, ((a % 8 : Nat) : Int)) else (0, 0)) := by decide +kernel
theorem shr_u32 (w k : Nat) (h : k ≤ 32) : shrI .u32 (w : Int) (k : Int) = ((w / 2 ^ k : Nat) : Int) := shrI_nat (k := .u32) (a := w) (b := k) (by simpa [IntKind.bits] using h)
theorem need_is (w : Nat) : utf_need (w : Int) = some (if w < 128 then 1 else if w < 2048 then 2 else if 55296 ≤ w ∧ w ≤ 57343 then 0 else if w < 65536 then 3 else if w ≤ 1114111 then 4 else 0) := by
  unfold utf_need
  have e7 : shrI .u32 (w : Int) 7 = ((w / 128 : Nat) : Int) := shr_u32 w 7 (by omega)
  have e11 : shrI .u32 (w : Int) 11 = ((w / 2048 : Nat) : Int) := shr_u32 w 11 (by omega)
  have e16 : shrI .u32 (w : Int) 16 = ((w / 65536 : Nat) : Int) := shr_u32 w 16 (by omega)
  rw [e7, e11, e16]
  by_cases h1 : w < 128
  · rw [itT (by simp; omega), if_pos h1]
  · rw [itF (by simp; omega), if_neg h1]
    by_cases h2 : w < 2048
    · rw [itT (by simp; omega), if_pos h2]
    · rw [itF (by simp; omega), if_neg h2]
      by_cases h3 : 55296 ≤ w ∧ w ≤ 57343
      · rw [itT (by simp; omega), if_pos h3]
      · rw [itF (by simp; omega), if_neg h3]
        by_cases h4 : w < 65536
        · rw [itT (by simp; omega), if_pos h4]
        · rw [itF (by simp; omega), if_neg h4]
          by_cases h5 : w ≤ 1114111
          · rw [itT (by simp; omega), if_pos h5]
          · rw [itF (by simp; omega), if_neg h5]
theorem lead_bits : ∀ c < 256, shrI .u8 ((c : Nat) : Int) 6 = ((c / 64 : Nat) : Int) ∧ IntKind.u32.wrap (andI .u8 ((c : Nat) : Int) 63) = ((c % 64 : Nat) : Int) := by decide +kernel
theorem lead_step {v : List UInt8} {w i : Nat} (h : i < v.length) (hv : v.length ≤ 1000) (hw : w ≤ 1000000) :
    utf_lead_l1 v w i = if cont v[i] then utf_lead_l1 v ((64 * w + v[i].toNat % 64 : Nat) : Int) ((i + 1 : Nat) : Int) else some (.inr ()) := by
  have hc := v[i].toNat_lt
  obtain ⟨e1, e2⟩ := lead_bits v[i].toNat (by omega)
  have hb : utf_lead_b1 v w i = if cont v[i] then some (.inl (((64 * w + v[i].toNat % 64 : Nat) : Int), ((i + 1 : Nat) : Int))) else some (.inr (.inr ())) := by
    unfold utf_lead_b1
    rw [itT (by simp; omega), idx_of rfl h, sb, e1, e2]
    by_cases hk : cont v[i] = true
    · rw [if_pos hk]
      unfold cont at hk
      simp only [decide_eq_true_eq] at hk
      rw [itF (by simp; omega), wrap_i64 (by omega)]
      have e3 : shlI .u32 (w : Int) 6 = ((w * 64 : Nat) : Int) := by
        have : shlI .u32 (w : Int) 6 = ((w * 64 % 4294967296 : Nat) : Int) := by simp [shlI, IntKind.bits, wrap_u32]
        rw [this, Nat.mod_eq_of_lt (by omega)]
      rw [e3, orI_nat rfl (by simp [IntKind.bits]; omega) (by simp [IntKind.bits]; omega), Nat.or_comm, or_high' _ w 6 (by omega)]
      have e4 : v[i].toNat % 64 + w * 2 ^ 6 = 64 * w + v[i].toNat % 64 := by omega
      rw [e4]; rfl
    · rw [if_neg hk]
      unfold cont at hk
      simp only [decide_eq_true_eq] at hk
      rw [itT (by simp; omega)]
  by_cases hk : cont v[i] = true
  · rw [if_pos hk] at hb ⊢; exact utf_lead_l1_inl hb
  · rw [if_neg hk] at hb ⊢; exact utf_lead_l1_inr hb
theorem lead_end {v : List UInt8} {w i : Nat} (h : v.length ≤ i) : utf_lead_l1 v w i = some (.inl (w : Int)) := by
  refine utf_lead_l1_inr ?_
  unfold utf_lead_b1
  rw [itF (by simp; omega)]
theorem lead1 {w : Nat} {b : UInt8} (hw : w ≤ 100) : utf_lead_l1 [b] w 0 = if cont b then some (.inl ((64 * w + b.toNat % 64 : Nat) : Int)) else some (.inr ()) := by
  have h := lead_step (v := [b]) (w := w) (i := 0) (by simp) (by simp) (by omega)
  refine Eq.trans h ?_
  simp only [List.getElem_cons_zero]
  rw [lead_end (by simp)]
theorem lead2 {w : Nat} {b c : UInt8} (hw : w ≤ 100) : utf_lead_l1 [b, c] w 0 = if cont b then (if cont c then some (.inl ((64 * (64 * w + b.toNat % 64) + c.toNat % 64 : Nat) : Int)) else some (.inr ())) else some (.inr ()) := by
  have h := lead_step (v := [b, c]) (w := w) (i := 0) (by simp) (by simp) (by omega)
  refine Eq.trans h ?_
  rw [lead_step (i := 0 + 1) (by simp) (by simp) (by omega)]
  simp only [List.getElem_cons_zero, List.getElem_cons_succ, Nat.zero_add]
  rw [lead_end (by simp)]
theorem lead3 {w : Nat} {b c d : UInt8} (hw : w ≤ 100) : utf_lead_l1 [b, c, d] w 0 = if cont b then (if cont c then (if cont d then some (.inl ((64 * (64 * (64 * w + b.toNat % 64) + c.toNat % 64) + d.toNat % 64 : Nat) : Int)) else some (.inr ())) else some (.inr ())) else some (.inr ()) := by
  have h := lead_step (v := [b, c, d]) (w := w) (i := 0) (by simp) (by simp) (by omega)
  refine Eq.trans h ?_
  rw [lead_step (i := 0 + 1) (by simp) (by simp) (by omega), lead_step (i := 0 + 1 + 1) (by simp) (by simp) (by omega)]
  simp only [List.getElem_cons_zero, List.getElem_cons_succ, Nat.zero_add]
  rw [lead_end (by simp)]
/-- The first byte tells which length alone can be. -/
theorem nxt_only (n : Nat) {l : List UInt8} (h : ∀ m, m ≠ n → isN m l = false) : nxt l = if isN n l then n else 0 := by
  by_cases hn : isN n l = true
  · rw [if_pos hn, nxt_of hn]
  · rw [if_neg hn]
    by_cases h0 : nxt l = 0
    · exact h0
    · have h1 := nxt_isN h0
      by_cases h2 : nxt l = n
      · rw [h2] at h1; exact absurd h1 hn
      · rw [h _ h2] at h1; cases h1
theorem nxt_class (n : Nat) {a : UInt8} {t : List UInt8} (h : n = 1 ∧ a.toNat < 128 ∨ n = 2 ∧ 192 ≤ a.toNat ∧ a.toNat < 224 ∨ n = 3 ∧ 224 ≤ a.toNat ∧ a.toNat < 240 ∨ n = 4 ∧ 240 ≤ a.toNat) : nxt (a :: t) = if isN n (a :: t) then n else 0 := by
  refine nxt_only n fun m hm => ?_
  cases hh : isN m (a :: t) with
  | false => rfl
  | true =>
    obtain ⟨a', t', e, _, g⟩ := isN_head hh
    cases e
    omega
theorem lead_is (b : List UInt8) : utf_lead b = some ((nxt b : Nat) : Int) := by
  cases b with
  | nil => rfl
  | cons a t =>
    have ha := a.toNat_lt
    unfold utf_lead
    have e00 : idx (a :: t) (0 : Int) = some a := idx_of (n := 0) rfl (by simp)
    rw [itF (by simp; omega), e00, sb]
    rw [open_is _ (by omega), sb]
    by_cases h1 : a.toNat < 128
    · rw [nxt_class 1 (.inl ⟨rfl, h1⟩), if_pos h1]
      simp only
      rw [itF (by simp; omega), cut_of (i := 1) (j := 1) (a := 1) (b := 1) rfl rfl (by omega) (by simp), sb]
      have e0 : utf_lead_l1 (((a :: t).drop 1).take (1 - 1)) (a.toNat : Int) 0 = some (.inl (a.toNat : Int)) := lead_end (i := 0) (by simp)
      rw [e0, sb]
      simp only
      rw [need_is, sb, if_pos h1, itF (by rfl)]
      simp [isN, is1, h1]
    · rw [if_neg h1]
      by_cases h2 : a.toNat / 32 = 6
      · rw [nxt_class 2 (.inr (.inl ⟨rfl, by omega, by omega⟩)), if_pos h2]
        simp only
        match t with
        | [] => rw [itT (by simp)]; rfl
        | b :: t =>
          rw [itF (by simp; omega), cut_of (i := 1) (j := 2) (a := 1) (b := 2) rfl rfl (by omega) (by simp), sb]
          have e0 := lead1 (w := a.toNat % 32) (b := b) (by omega)
          have e0' : utf_lead_l1 (((a :: b :: t).drop 1).take (2 - 1)) ((a.toNat % 32 : Nat) : Int) 0 = _ := e0
          rw [e0']
          have hb := b.toNat_lt
          by_cases c1 : cont b = true
          · rw [if_pos c1, sb]
            simp only
            have hn := need_is (64 * (a.toNat % 32) + b.toNat % 64)
            simp only [isN, is2, c1, and_true, decide_eq_true_eq]
            simp only [cont, decide_eq_true_eq] at c1
            by_cases h : 194 ≤ a.toNat
            · rw [if_neg (by omega), if_pos (by omega)] at hn
              rw [hn, sb, itF (by rfl), if_pos (by omega)]; rfl
            · rw [if_pos (by omega)] at hn
              rw [hn, sb, itT (by rfl), if_neg (by omega)]; rfl
          · rw [if_neg c1, sb]
            simp only
            simp [isN, is2, c1]
      · rw [if_neg h2]
        by_cases h3 : a.toNat / 16 = 14
        · rw [nxt_class 3 (.inr (.inr (.inl ⟨rfl, by omega, by omega⟩))), if_pos h3]
          simp only
          match t with
          | [] => rw [itT (by simp)]; rfl
          | [b] => rw [itT (by simp)]; rfl
          | b :: c :: t =>
            rw [itF (by simp; omega), cut_of (i := 1) (j := 3) (a := 1) (b := 3) rfl rfl (by omega) (by simp), sb]
            have e0 := lead2 (w := a.toNat % 16) (b := b) (c := c) (by omega)
            have e0' : utf_lead_l1 (((a :: b :: c :: t).drop 1).take (3 - 1)) ((a.toNat % 16 : Nat) : Int) 0 = _ := e0
            rw [e0']
            have hb := b.toNat_lt
            have hc := c.toNat_lt
            by_cases c1 : cont b = true
            · rw [if_pos c1]
              by_cases c2 : cont c = true
              · rw [if_pos c2, sb]
                simp only
                have hn := need_is (64 * (64 * (a.toNat % 16) + b.toNat % 64) + c.toNat % 64)
                simp only [isN, is3, c1, c2, true_and, decide_eq_true_eq]
                simp only [cont, decide_eq_true_eq] at c1 c2
                by_cases h : (a.toNat = 224 → 160 ≤ b.toNat) ∧ (a.toNat = 237 → b.toNat < 160)
                · rw [if_neg (by omega), if_neg (by omega), if_neg (by omega), if_pos (by omega)] at hn
                  rw [hn, sb, itF (by rfl), if_pos (by omega)]; rfl
                · by_cases g : 64 * (64 * (a.toNat % 16) + b.toNat % 64) + c.toNat % 64 < 2048
                  · by_cases g' : 64 * (64 * (a.toNat % 16) + b.toNat % 64) + c.toNat % 64 < 128
                    · rw [if_pos g'] at hn
                      rw [hn, sb, itT (by rfl), if_neg (by omega)]; rfl
                    · rw [if_neg g', if_pos g] at hn
                      rw [hn, sb, itT (by rfl), if_neg (by omega)]; rfl
                  · rw [if_neg (by omega), if_neg g, if_pos (by omega)] at hn
                    rw [hn, sb, itT (by rfl), if_neg (by omega)]; rfl
              · rw [if_neg c2, sb]
                simp only
                simp [isN, is3, c2]
            · rw [if_neg c1, sb]
              simp only
              simp [isN, is3, c1]
        · rw [if_neg h3]
          by_cases h4 : a.toNat / 8 = 30
          · rw [nxt_class 4 (.inr (.inr (.inr ⟨rfl, by omega⟩))), if_pos h4]
            simp only
            match t with
            | [] => rw [itT (by simp)]; rfl
            | [b] => rw [itT (by simp)]; rfl
            | [b, c] => rw [itT (by simp)]; rfl
            | b :: c :: d :: t =>
              rw [itF (by simp; omega), cut_of (i := 1) (j := 4) (a := 1) (b := 4) rfl rfl (by omega) (by simp), sb]
              have e0 := lead3 (w := a.toNat % 8) (b := b) (c := c) (d := d) (by omega)
              have e0' : utf_lead_l1 (((a :: b :: c :: d :: t).drop 1).take (4 - 1)) ((a.toNat % 8 : Nat) : Int) 0 = _ := e0
              rw [e0']
              have hb := b.toNat_lt
              have hc := c.toNat_lt
              have hd := d.toNat_lt
              by_cases c1 : cont b = true
              · rw [if_pos c1]
                by_cases c2 : cont c = true
                · rw [if_pos c2]
                  by_cases c3 : cont d = true
                  · rw [if_pos c3, sb]
                    simp only
                    have hn := need_is (64 * (64 * (64 * (a.toNat % 8) + b.toNat % 64) + c.toNat % 64) + d.toNat % 64)
                    simp only [isN, is4, c1, c2, c3, true_and, decide_eq_true_eq]
                    simp only [cont, decide_eq_true_eq] at c1 c2 c3
                    by_cases h : a.toNat < 245 ∧ (a.toNat = 240 → 144 ≤ b.toNat) ∧ (a.toNat = 244 → b.toNat < 144)
                    · rw [if_neg (by omega), if_neg (by omega), if_neg (by omega), if_neg (by omega), if_pos (by omega)] at hn
                      rw [hn, sb, itF (by rfl), if_pos (by omega)]; rfl
                    · have hw : ¬ (65536 ≤ 64 * (64 * (64 * (a.toNat % 8) + b.toNat % 64) + c.toNat % 64) + d.toNat % 64 ∧ 64 * (64 * (64 * (a.toNat % 8) + b.toNat % 64) + c.toNat % 64) + d.toNat % 64 ≤ 1114111) := by omega
                      generalize 64 * (64 * (64 * (a.toNat % 8) + b.toNat % 64) + c.toNat % 64) + d.toNat % 64 = w at hn hw
                      have hx : ∃ x : Int, utf_need w = some x ∧ x ≠ 4 := ⟨_, hn, by repeat' split
                                                                                     all_goals omega⟩
                      obtain ⟨x, hx, h4⟩ := hx
                      rw [hx, sb, itT (by simp; omega), if_neg (by omega)]; rfl
                  · rw [if_neg c3, sb]
                    simp only
                    simp [isN, is4, c3]
                · rw [if_neg c2, sb]
                  simp only
                  simp [isN, is4, c2]
              · rw [if_neg c1, sb]
                simp only
                simp [isN, is4, c1]
          · rw [if_neg h4, itT (by rfl)]
            by_cases h5 : 240 ≤ a.toNat
            · rw [nxt_class 4 (.inr (.inr (.inr ⟨rfl, h5⟩)))]
              cases hh : isN 4 (a :: t) with
              | false => rfl
              | true =>
                match t, hh with
                | b :: c :: d :: t, hh => simp only [isN, is4, decide_eq_true_eq] at hh; omega
            · by_cases h0 : nxt (a :: t) = 0
              · rw [h0]; rfl
              · obtain ⟨a', t', e, _, g⟩ := isN_head (nxt_isN h0)
                cases e
                omega
theorem walk_loop {b : List UInt8} (hb : b.length ≤ 1152921504606846976) (l : List UInt8) : ∀ (a c : Nat), c ≤ a → a ≤ b.length → l = b.drop a →
    utf_walk_l1 b a c ((nxt l : Nat) : Int) = some (((a + (pre4 l).1 : Nat) : Int), ((c + (pre4 l).2 : Nat) : Int)) := by
  refine pre4_ind (fun l => ∀ (a c : Nat), c ≤ a → a ≤ b.length → l = b.drop a → utf_walk_l1 b a c ((nxt l : Nat) : Int) = some (((a + (pre4 l).1 : Nat) : Int), ((c + (pre4 l).2 : Nat) : Int))) ?_ ?_ l
  · intro l h a c hc ha hl
    rw [h, pre4_stop h]
    refine utf_walk_l1_inr ?_
    unfold utf_walk_b1
    rw [itF (by rfl)]; rfl
  · intro l h ih a c hc ha hl
    subst hl
    have h4 := nxt_le4 (b.drop a)
    have hle := nxt_le (b.drop a)
    simp only [List.length_drop] at hle
    have e1 : (b.drop a).drop (nxt (b.drop a)) = b.drop (a + nxt (b.drop a)) := by rw [List.drop_drop]
    refine (utf_walk_l1_inl (atv' := ((a + nxt (b.drop a) : Nat) : Int)) (points' := ((c + 1 : Nat) : Int)) (size' := ((nxt (b.drop (a + nxt (b.drop a))) : Nat) : Int)) ?_).trans ?_
    · unfold utf_walk_b1
      rw [itT (by simp; omega), wrap_i64 (by omega), cut_drop (a := a + nxt (b.drop a)) (by push_cast; rfl) rfl (by omega), sb, lead_is, sb, wrap_i64 (by omega)]; rfl
    · rw [← e1, ih (a + nxt (b.drop a)) (c + 1) (by omega) (by omega) e1, pre4_go h]
      simp only [Nat.add_assoc, Nat.add_comm 1]
theorem walk_is {b : List UInt8} (hb : b.length ≤ 1152921504606846976) : utf_walk b = some (((pre4 b).1 : Int), ((pre4 b).2 : Int)) := by
  unfold utf_walk
  rw [lead_is, sb]
  have h := walk_loop hb b 0 0 (Nat.le_refl _) (Nat.zero_le _) rfl
  simp only [Nat.zero_add] at h
  have h' : utf_walk_l1 b 0 0 ((nxt b : Nat) : Int) = some (((pre4 b).1 : Int), ((pre4 b).2 : Int)) := h
  rw [h', sb]
theorem ufirst_is {b : List UInt8} (hb : b.length ≤ 1152921504606846976) : utf_First b = some ((pre4 b).1 : Int) := by
  unfold utf_First
  rw [walk_is hb, sb]
theorem ucount_is {b : List UInt8} (hb : b.length ≤ 1152921504606846976) : utf_Count b = some ((pre4 b).2 : Int) := by
  unfold utf_Count
  rw [walk_is hb, sb]
theorem uright_is {b : List UInt8} (hb : b.length ≤ 1152921504606846976) : utf_Right b = some (right4 b) := by
  unfold utf_Right right4
  rw [ufirst_is hb, sb, beq_nat]
theorem pre4_min (k : Nat) (l : List UInt8) : pre4 (l.take k) = fst4 k l := by
  refine fst4_ind (fun m l => ∀ k : Nat, m = k → pre4 (l.take k) = fst4 m l) ?_ ?_ k l k rfl
  · intro m l h k hk
    rw [fst4_stop h]
    refine pre4_stop ?_
    by_cases h0 : nxt (l.take k) = 0
    · exact h0
    · have h1 := nxt_append (l.drop k) h0
      rw [List.take_append_drop] at h1
      have h2 := nxt_le (l.take k)
      rw [List.length_take] at h2
      omega
  · intro m l h ih k hk
    have hn : nxt (l.take k) = nxt l := nxt_take (by omega)
    rw [pre4_go (by omega), hn, List.drop_take, ih (k - nxt l) (by omega), fst4_go h]
/-- A text, cut. -/
def cut4 (n : Int) (l : List UInt8) : List UInt8 := l.take (fst4 n l).1
theorem ucut_is {b : List UInt8} (hb : b.length ≤ 1099511627776) (n : Int) : utf_Cut b n = some (cut4 n b) := by
  unfold utf_Cut
  have key : ∀ m : Nat, pre4 (b.take m) = fst4 n b → m ≤ b.length → (cut b 0 (m : Int) >>= fun v => utf_First v >>= fun rv => cut b 0 rv >>= fun v2 => app 1 ([] : List UInt8) v2 >>= fun v3 => some v3) = some (cut4 n b) := by
    intro m hm hl
    have hf := fst4_le n b
    rw [cut_take rfl hl, sb, ufirst_is (by simp; omega), sb, hm, cut_take rfl hf.1, sb, app_of (by simp; omega), sb]
    rfl
  by_cases h0 : n < 0
  · simp only [if_pos h0]
    rw [if_neg (by omega)]
    refine key 0 ?_ (by omega)
    rw [List.take_zero, pre4_nil, fst4_stop (by omega)]
  · simp only [if_neg h0]
    by_cases h1 : (b.length : Int) < n
    · rw [if_pos h1]
      refine key b.length ?_ (Nat.le_refl _)
      rw [List.take_length, fst4_big (by omega)]
    · rw [if_neg h1]
      obtain ⟨m, rfl⟩ : ∃ m : Nat, n = m := ⟨n.toNat, by omega⟩
      exact key m (pre4_min m b) (by omega)
end Go.Proofs.Ytfcmlcegeiphdaa
