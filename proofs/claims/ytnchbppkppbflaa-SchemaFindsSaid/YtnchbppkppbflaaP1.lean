/-
  What the plain functions are. No condition.
-/
import Derived.Test.YtnchbppkppbflaaS1
import Derived.Test.YtnchbppkppbflaaK2
import Derived.Laws.Bits64b
import Derived.IntWalk
import Derived.RowKit
namespace Go.Proofs.Ytnchbppkppbflaa
open Go
set_option linter.unusedVariables false
def kRight (k : Int) : Bool := decide (1 ≤ k ∧ k ≤ 17)
def kNum (k : Int) : Bool := decide (1 ≤ k ∧ k ≤ 14)
def kWire (k : Int) : Int := if 15 ≤ k then 2 else if 12 ≤ k then 1 else if 9 ≤ k then 5 else 0
end Go.Proofs.Ytnchbppkppbflaa
namespace Go.Proofs.Ytnchbppkppbflaa
open Go
set_option linter.unusedVariables false
abbrev Fld := T_Name_Number_Kind_Repeated_Packed_Of
abbrev Mes := T_Name_Fields
def firstI {α : Type} (p : α → Bool) (l : List α) : Int := match l.findIdx? p with
  | some i => (i : Int)
  | none => -1
theorem firstI_none {α : Type} {p : α → Bool} {l : List α} (h : l.findIdx? p = none) : firstI p l = -1 := by unfold firstI; rw [h]
theorem firstI_some {α : Type} {p : α → Bool} {l : List α} {i : Nat} (h : l.findIdx? p = some i) : firstI p l = (i : Int) := by unfold firstI; rw [h]
theorem find_loop {α : Type} (p : α → Bool) (l : List α) (F : Int → Option (Unit ⊕ Int)) (h0 : F (l.length : Int) = some (.inl ())) (hs : ∀ (i : Nat) (h : i < l.length), F (i : Int) = if p l[i] then some (.inr (i : Int)) else F ((i + 1 : Nat) : Int)) :
    ∀ (d i : Nat), i + d = l.length → (∀ j (h : j < l.length), j < i → p l[j] = false) → F (i : Int) = some (match l.findIdx? p with | some k => .inr (k : Int) | none => .inl ()) := by
  intro d
  induction d with
  | zero =>
    intro i hi hj
    have : i = l.length := by omega
    subst this
    have hn : l.findIdx? p = none := by
      rw [List.findIdx?_eq_none_iff]
      intro x hx
      obtain ⟨j, hj', rfl⟩ := List.getElem_of_mem hx
      exact hj j hj' hj'
    rw [h0, hn]
  | succ d ih =>
    intro i hi hj
    have hil : i < l.length := by omega
    rw [hs i hil]
    by_cases hp : p l[i] = true
    · have hf : l.findIdx? p = some i := by
        rw [List.findIdx?_eq_some_iff_getElem]
        exact ⟨hil, hp, fun j hji => by simpa using hj j (by omega) hji⟩
      rw [if_pos hp, hf]
    · rw [if_neg hp]
      refine ih (i + 1) (by omega) fun j h hji => ?_
      by_cases e : j = i
      · subst e; simpa using hp
      · exact hj j h (by omega)
def fldI (m : Mes) (number : Int) : Int := firstI (fun f : Fld => f.Number == number) m.Fields
def nmdI (m : Mes) (name : List UInt8) : Int := firstI (fun f : Fld => f.Name == name) m.Fields
theorem refField_is {m : Mes} (hm : m.Fields.length ≤ 1152921504606846976) (number : Int) : darningref07_Field m number = some (fldI m number) := by
  unfold darningref07_Field fldI
  have h := find_loop (fun f : Fld => f.Number == number) m.Fields (fun i => darningref07_Field_l1 m number i) (by
      refine darningref07_Field_l1_inr ?_
      unfold darningref07_Field_b1
      rw [itF (by simp)])
    (fun i hi => by
      have hb : darningref07_Field_b1 m number i = if ((m.Fields[i]).Number == number) = true then some (.inr (.inr (i : Int))) else some (.inl ((i + 1 : Nat) : Int)) := by
        unfold darningref07_Field_b1
        rw [itT (by simp; omega), idx_of rfl hi, sb, wrap_i64 (by omega)]; rfl
      by_cases hp : ((m.Fields[i]).Number == number) = true
      · rw [if_pos hp] at hb ⊢; exact darningref07_Field_l1_inr hb
      · rw [if_neg hp] at hb ⊢; exact darningref07_Field_l1_inl hb)
    m.Fields.length 0 (by omega) (fun j _ hj => by omega)
  have h' : darningref07_Field_l1 m number 0 = _ := h
  rw [h', sb]
  unfold firstI
  cases m.Fields.findIdx? (fun f : Fld => f.Number == number) <;> rfl
theorem refNamed_is {m : Mes} (hm : m.Fields.length ≤ 1152921504606846976) (name : List UInt8) : darningref07_Named m name = some (nmdI m name) := by
  unfold darningref07_Named nmdI
  have h := find_loop (fun f : Fld => f.Name == name) m.Fields (fun i => darningref07_Named_l1 m name i) (by
      refine darningref07_Named_l1_inr ?_
      unfold darningref07_Named_b1
      rw [itF (by simp)])
    (fun i hi => by
      have hb : darningref07_Named_b1 m name i = if ((m.Fields[i]).Name == name) = true then some (.inr (.inr (i : Int))) else some (.inl ((i + 1 : Nat) : Int)) := by
        unfold darningref07_Named_b1
        rw [itT (by simp; omega), idx_of rfl hi, sb, wrap_i64 (by omega)]; rfl
      by_cases hp : ((m.Fields[i]).Name == name) = true
      · rw [if_pos hp] at hb ⊢; exact darningref07_Named_l1_inr hb
      · rw [if_neg hp] at hb ⊢; exact darningref07_Named_l1_inl hb)
    m.Fields.length 0 (by omega) (fun j _ hj => by omega)
  have h' : darningref07_Named_l1 m name 0 = _ := h
  rw [h', sb]
  unfold firstI
  cases m.Fields.findIdx? (fun f : Fld => f.Name == name) <;> rfl
def nmc (i : Nat) (c : UInt8) : Bool := decide (65 ≤ c.toNat ∧ c.toNat ≤ 90 ∨ 97 ≤ c.toNat ∧ c.toNat ≤ 122 ∨ c.toNat = 95 ∨ 0 < i ∧ 48 ≤ c.toNat ∧ c.toNat ≤ 57)
def nmA : Nat → List UInt8 → Bool
  | _, [] => true
  | i, c :: l => nmc i c && nmA (i + 1) l
def nameOk (s : List UInt8) : Bool := nmA 0 s && decide (1 ≤ s.length ∧ s.length ≤ 60)
theorem drop_cons7 {α : Type} {l t : List α} {x : α} {k : Nat} (h : l.drop k = x :: t) : ∃ hk : k < l.length, l[k] = x ∧ l.drop (k + 1) = t := by
  have hk : k < l.length := by
    rcases Nat.lt_or_ge k l.length with h' | h'
    · exact h'
    · rw [List.drop_eq_nil_of_le h'] at h; cases h
  rw [List.drop_eq_getElem_cons hk] at h
  injection h with h1 h2
  exact ⟨hk, h1, h2⟩
theorem drop_nil7 {α : Type} {l : List α} {k : Nat} (h : l.drop k = []) : l.length ≤ k := by have := congrArg List.length h; simp at this; omega
def faultF (n : Int) (prev : List Fld) (f : Fld) : Int :=
  if nameOk f.Name = false then 5 else if prev.any (fun g => g.Name == f.Name) = true then 6
  else if f.Number < 1 ∨ f.Number > 536870911 ∨ (19000 ≤ f.Number ∧ f.Number < 20000) then 7
  else if prev.any (fun g => g.Number == f.Number) = true then 8 else if kRight f.Kind = false then 9
  else if f.Packed = true ∧ ¬ (f.Repeated = true ∧ kNum f.Kind = true) then 10
  else if f.Kind = 17 ∧ (f.Of < 0 ∨ f.Of ≥ n) ∨ f.Kind ≠ 17 ∧ f.Of ≠ 0 then 11 else 0
theorem fault_bd (n : Int) (prev : List Fld) (f : Fld) : 0 ≤ faultF n prev f ∧ faultF n prev f ≤ 11 := by
  unfold faultF
  repeat' split
  all_goals omega
def msgF (n : Int) (prev : List Fld) : List Fld → Option (Nat × Int)
  | [] => none
  | f :: l => if 0 < faultF n prev f then some (prev.length, faultF n prev f) else msgF n (prev ++ [f]) l
def chkF (n : Int) (prev : List Mes) : List Mes → Option (Nat × Int × Int)
  | [] => none
  | m :: l => if nameOk m.Name = false then some (prev.length, -1, 2) else if prev.any (fun g => g.Name == m.Name) = true then some (prev.length, -1, 3)
    else if 200 < m.Fields.length then some (prev.length, -1, 4) else match msgF n [] m.Fields with
      | some (k, w) => some (prev.length, (k : Int), w)
      | none => chkF n (prev ++ [m]) l
def checkS (s : List Mes) : Int × Int × Int := if s.length = 0 ∨ 100 < s.length then (-1, -1, 1) else match chkF s.length [] s with
  | none => (0, 0, 0)
  | some (i, k, w) => ((i : Int), k, w)
def rightS (s : List Mes) : Bool := decide ((checkS s).2.2 = 0)
def WS (s : List Mes) : Prop := s.length ≤ 140737488351232 ∧ ∀ m ∈ s, m.Name.length ≤ 140737488351232 ∧ m.Fields.length ≤ 140737488351232 ∧ ∀ f ∈ m.Fields, f.Name.length ≤ 140737488351232
theorem msg_pos : ∀ (n : Int) (l prev : List Fld) (k : Nat) (w : Int), msgF n prev l = some (k, w) → 0 < w := by
  intro n l
  induction l with
  | nil => intro prev k w h; cases h
  | cons f l ih =>
    intro prev k w h
    rw [msgF] at h
    split at h
    · cases h; assumption
    · exact ih _ _ _ h
theorem chk_pos : ∀ (n : Int) (l prev : List Mes) (i : Nat) (k w : Int), chkF n prev l = some (i, k, w) → 0 < w := by
  intro n l
  induction l with
  | nil => intro prev i k w h; cases h
  | cons m l ih =>
    intro prev i k w h
    rw [chkF] at h
    split at h
    · cases h; omega
    · split at h
      · cases h; omega
      · split at h
        · cases h; omega
        · split at h
          · rename_i k' w' h'; cases h; exact msg_pos _ _ _ _ _ h'
          · exact ih _ _ _ _ h
structure FldOk (n : Int) (f : Fld) : Prop where
  name : nameOk f.Name = true
  lo : 1 ≤ f.Number
  hi : f.Number ≤ 536870911
  kind : kRight f.Kind = true
  packed : f.Packed = true → f.Repeated = true ∧ kNum f.Kind = true
  sub : f.Kind = 17 → 0 ≤ f.Of ∧ f.Of < n
  noSub : f.Kind ≠ 17 → f.Of = 0
structure Right7 (s : List Mes) : Prop where
  len : 1 ≤ s.length ∧ s.length ≤ 100
  name : ∀ m ∈ s, nameOk m.Name = true
  names : ∀ (i j : Nat) (a b : Mes), i < j → s[i]? = some a → s[j]? = some b → a.Name ≠ b.Name
  few : ∀ m ∈ s, m.Fields.length ≤ 200
  fld : ∀ m ∈ s, ∀ f ∈ m.Fields, FldOk s.length f
  nums : ∀ m ∈ s, ∀ (i j : Nat) (f g : Fld), i < j → m.Fields[i]? = some f → m.Fields[j]? = some g → f.Number ≠ g.Number ∧ f.Name ≠ g.Name
theorem same_loop7 {α : Type} [DecidableEq α] (a b : List α) (F : Int → Option (Unit ⊕ Unit)) (hl : a.length = b.length) (h0 : F (a.length : Int) = some (.inl ()))
    (hs : ∀ (i : Nat) (h : i < a.length) (h' : i < b.length), F (i : Int) = if a[i] = b[i] then F ((i + 1 : Nat) : Int) else some (.inr ())) :
    ∀ (d i : Nat), i + d = a.length → F (i : Int) = some (if a.drop i = b.drop i then .inl () else .inr ()) := by
  intro d
  induction d with
  | zero =>
    intro i hi
    have e1 : a.drop i = [] := List.drop_eq_nil_of_le (by omega)
    have e2 : b.drop i = [] := List.drop_eq_nil_of_le (by omega)
    have : i = a.length := by omega
    rw [e1, e2, if_pos rfl, this, h0]
  | succ d ih =>
    intro i hi
    rw [hs i (by omega) (by omega), List.drop_eq_getElem_cons (l := a) (by omega), List.drop_eq_getElem_cons (l := b) (by omega)]
    by_cases h : a[i]'(by omega) = b[i]'(by omega)
    · rw [if_pos h, ih (i + 1) (by omega), h]
      simp only [List.cons.injEq, true_and]
    · rw [if_neg h, if_neg (fun e => h (List.cons.inj e).1)]
theorem refInts_is {a b : List Int} (ha : a.length ≤ 1152921504606846976) : darningref07_SameInts a b = some (decide (a = b)) := by
  unfold darningref07_SameInts
  by_cases hl : a.length = b.length
  · rw [itF (by simp; omega)]
    have h := same_loop7 a b (fun i => darningref07_SameInts_l1 a b i) hl (by
        refine darningref07_SameInts_l1_inr ?_
        unfold darningref07_SameInts_b1
        rw [itF (by simp)])
      (fun i hi hi' => by
        by_cases hp : a[i] = b[i]
        · rw [if_pos hp]
          refine darningref07_SameInts_l1_inl ?_
          unfold darningref07_SameInts_b1
          rw [itT (by simp; omega), idx_of rfl hi, sb, idx_of rfl hi', sb, itF (by simp [hp]), wrap_i64 (by omega)]; push_cast; rfl
        · rw [if_neg hp]
          refine darningref07_SameInts_l1_inr ?_
          unfold darningref07_SameInts_b1
          rw [itT (by simp; omega), idx_of rfl hi, sb, idx_of rfl hi', sb, itT (by simp [hp])])
      a.length 0 (by omega)
    have h' : darningref07_SameInts_l1 a b 0 = _ := h
    rw [h', sb, List.drop_zero, List.drop_zero]
    by_cases he : a = b
    · rw [if_pos he]; simp [he]
    · rw [if_neg he]; simp [he]
  · rw [itT (by simp; omega)]
    have : a ≠ b := fun e => hl (by rw [e])
    simp [this]
theorem refSame07_is {a b : List Mes} (ha : WS a) : darningref07_Same a b = some (decide (a = b)) := by
  obtain ⟨ha1, ha2⟩ := ha
  unfold darningref07_Same
  by_cases hl : a.length = b.length
  · rw [itF (by simp; omega)]
    have h := same_loop7 a b (fun i => darningref07_Same_l1 a b i) hl (by
        refine darningref07_Same_l1_inr ?_
        unfold darningref07_Same_b1
        rw [itF (by simp)])
      (fun i hi hi' => by
        obtain ⟨x, hx⟩ : ∃ x, a[i] = x := ⟨_, rfl⟩
        obtain ⟨y, hy⟩ : ∃ y, b[i] = y := ⟨_, rfl⟩
        have hxl := (ha2 x (by rw [← hx]; exact List.getElem_mem hi)).2.1
        have e1 : idx a (i : Int) = some x := by rw [idx_of rfl hi, hx]
        have e2 : idx b (i : Int) = some y := by rw [idx_of rfl hi', hy]
        rw [hx, hy]
        have hb : darningref07_Same_b1 a b i = if x = y then some (.inl ((i + 1 : Nat) : Int)) else some (.inr (.inr ())) := by
          unfold darningref07_Same_b1
          rw [itT (by simp; omega), e1, sb, e2, sb]
          by_cases hn : x.Name = y.Name
          · rw [itF (by simp [hn]), sb, sb]
            by_cases hf : x.Fields.length = y.Fields.length
            · rw [sb, itF (by simp; omega)]
              have h2 := same_loop7 x.Fields y.Fields (fun k => darningref07_Same_l2 a b i k) hf (by
                  refine darningref07_Same_l2_inr ?_
                  unfold darningref07_Same_b2
                  rw [e1, sb, itF (by simp)])
                (fun k hk hk' => by
                  by_cases hp : x.Fields[k] = y.Fields[k]
                  · rw [if_pos hp]
                    refine darningref07_Same_l2_inl ?_
                    unfold darningref07_Same_b2
                    rw [e1, sb, itT (by simp; omega), sb, idx_of rfl hk, sb, e2, sb, idx_of rfl hk', sb, itF (by simp [hp]), wrap_i64 (by omega)]; push_cast; rfl
                  · rw [if_neg hp]
                    refine darningref07_Same_l2_inr ?_
                    unfold darningref07_Same_b2
                    rw [e1, sb, itT (by simp; omega), sb, idx_of rfl hk, sb, e2, sb, idx_of rfl hk', sb, itT (by simp [hp])])
                x.Fields.length 0 (by omega)
              have h2' : darningref07_Same_l2 a b i 0 = _ := h2
              rw [h2', sb, List.drop_zero, List.drop_zero]
              have hxy : x = y ↔ x.Fields = y.Fields := by
                obtain ⟨xn, xf⟩ := x
                obtain ⟨yn, yf⟩ := y
                simp only at hn
                simp [hn]
              by_cases hff : x.Fields = y.Fields
              · rw [if_pos hff, if_pos (hxy.2 hff)]
                simp only
                rw [wrap_i64 (by omega)]; push_cast; rfl
              · rw [if_neg hff, if_neg (fun h => hff (hxy.1 h))]
            · rw [sb, itT (by simp; omega), if_neg (fun h => hf (by rw [h]))]
          · rw [itT (by simp [hn]), sb, itT (by rfl), if_neg (fun h => hn (by rw [h]))]
        by_cases hp : x = y
        · rw [if_pos hp] at hb ⊢; exact darningref07_Same_l1_inl hb
        · rw [if_neg hp] at hb ⊢; exact darningref07_Same_l1_inr hb)
      a.length 0 (by omega)
    have h' : darningref07_Same_l1 a b 0 = _ := h
    rw [h', sb, List.drop_zero, List.drop_zero]
    by_cases he : a = b
    · rw [if_pos he]; simp [he]
    · rw [if_neg he]; simp [he]
  · rw [itT (by simp; omega)]
    have : a ≠ b := fun e => hl (by rw [e])
    simp [this]
theorem few_loop2 {s : List Mes} {i : Nat} {m : Mes} (hi : ∃ h : i < s.length, s[i] = m) (hb : m.Fields.length ≤ 140737488351232) : ∀ (d k : Nat) (n : Int), k + d = m.Fields.length → ∃ r, darninglaw07_Few_l2 i s n k = some r := by
  obtain ⟨hil, hm⟩ := hi
  have e1 : idx s (i : Int) = some m := by rw [idx_of rfl hil, hm]
  intro d
  induction d with
  | zero =>
    intro k n hk
    refine ⟨n, darninglaw07_Few_l2_inr ?_⟩
    unfold darninglaw07_Few_b2
    rw [e1, sb, itF (by simp; omega)]
  | succ d ih =>
    intro k n hk
    obtain ⟨r, hr⟩ := ih (k + 1) (IntKind.i64.wrap (n + (IntKind.i64.wrap (Int.tdiv (((m.Fields[k]'(by omega)).Name.length : Int)) 100)))) (by omega)
    refine ⟨r, (darninglaw07_Few_l2_inl (k' := ((k + 1 : Nat) : Int)) ?_).trans hr⟩
    unfold darninglaw07_Few_b2
    rw [e1, sb, itT (by simp; omega), sb, idx_of rfl (by omega), sb, wrap_i64 (x := (k : Int) + 1) (by omega)]
    push_cast; rfl
theorem few_is {s : List Mes} (hw : WS s) : ∃ b, darninglaw07_Few s = some b := by
  obtain ⟨hs, hm⟩ := hw
  have key : ∀ (d i : Nat) (n : Int), i + d = s.length → ∃ r, darninglaw07_Few_l1 s n i = some r := by
    intro d
    induction d with
    | zero =>
      intro i n hi
      refine ⟨n, darninglaw07_Few_l1_inr ?_⟩
      unfold darninglaw07_Few_b1
      rw [itF (by simp; omega)]
    | succ d ih =>
      intro i n hi
      have hil : i < s.length := by omega
      obtain ⟨q, hq⟩ := few_loop2 (s := s) (i := i) (m := s[i]) ⟨hil, rfl⟩ (hm _ (List.getElem_mem hil)).2.1 (s[i]).Fields.length 0
        (IntKind.i64.wrap ((IntKind.i64.wrap ((IntKind.i64.wrap (n + 1)) + (IntKind.i64.wrap (Int.tdiv ((s[i]).Name.length : Int) 100)))) + ((s[i]).Fields.length : Int))) (by omega)
      have hq' : darninglaw07_Few_l2 i s (IntKind.i64.wrap ((IntKind.i64.wrap ((IntKind.i64.wrap (n + 1)) + (IntKind.i64.wrap (Int.tdiv ((s[i]).Name.length : Int) 100)))) + ((s[i]).Fields.length : Int))) 0 = some q := hq
      obtain ⟨r, hr⟩ := ih (i + 1) q (by omega)
      refine ⟨r, (darninglaw07_Few_l1_inl (i' := ((i + 1 : Nat) : Int)) ?_).trans hr⟩
      unfold darninglaw07_Few_b1
      rw [itT (by simp; omega), idx_of rfl hil, sb, sb, hq', sb, wrap_i64 (x := (i : Int) + 1) (by omega)]
      push_cast; rfl
  obtain ⟨r, hr⟩ := key s.length 0 0 (by omega)
  have hr' : darninglaw07_Few_l1 s 0 0 = some r := hr
  exact ⟨_, by unfold darninglaw07_Few; rw [hr', sb]⟩
def keyOf (m : Mes) (p : Int) : Int := (m.Fields.getD p.toNat ⟨[], 0, 0, false, false, 0⟩).Number
def insS (κ : Int → Int) (i : Int) (out : List Int) : List Int := out.takeWhile (fun x => decide (κ x ≤ κ i)) ++ i :: out.dropWhile (fun x => decide (κ x ≤ κ i))
def sortS (κ : Int → Int) : Nat → List Int
  | 0 => []
  | n + 1 => insS κ n (sortS κ n)
theorem insS_perm (κ : Int → Int) (i : Int) (out : List Int) : (insS κ i out).Perm (i :: out) := by
  unfold insS
  refine List.perm_middle.trans ?_
  rw [List.takeWhile_append_dropWhile]
theorem sortS_mem {κ : Int → Int} : ∀ {n : Nat} {x : Int}, x ∈ sortS κ n ↔ 0 ≤ x ∧ x < n
  | 0, x => by
    simp only [sortS, List.not_mem_nil, false_iff]; omega
  | n + 1, x => by
    rw [sortS, (insS_perm κ n _).mem_iff, List.mem_cons, sortS_mem]
    omega
theorem sortS_len (κ : Int → Int) : ∀ (n : Nat), (sortS κ n).length = n
  | 0 => rfl
  | n + 1 => by rw [sortS, (insS_perm κ n _).length_eq, List.length_cons, sortS_len κ n]
def before (κ : Int → Int) (a b : Int) : Prop := κ a < κ b ∨ κ a = κ b ∧ a < b
theorem takeWhile_le {κ : Int → Int} {c : Int} : ∀ {l : List Int}, ∀ x ∈ l.takeWhile (fun x => decide (κ x ≤ c)), κ x ≤ c ∧ x ∈ l := by
  intro l
  induction l with
  | nil => intro x hx; simp at hx
  | cons y l ih =>
    intro x hx
    rw [List.takeWhile_cons] at hx
    by_cases hy : κ y ≤ c
    · rw [if_pos (by simpa using hy)] at hx
      rcases List.mem_cons.1 hx with rfl | hx
      · exact ⟨hy, List.mem_cons_self⟩
      · exact ⟨(ih x hx).1, List.mem_cons_of_mem _ (ih x hx).2⟩
    · rw [if_neg (by simpa using hy)] at hx; cases hx
theorem dropWhile_gt {κ : Int → Int} {c : Int} : ∀ {l : List Int}, l.Pairwise (before κ) → ∀ x ∈ l.dropWhile (fun x => decide (κ x ≤ c)), c < κ x := by
  intro l
  induction l with
  | nil => intro _ x hx; simp at hx
  | cons y l ih =>
    intro hp x hx
    rw [List.dropWhile_cons] at hx
    have hp' := List.pairwise_cons.1 hp
    by_cases hy : κ y ≤ c
    · rw [if_pos (by simpa using hy)] at hx
      exact ih hp'.2 x hx
    · rw [if_neg (by simpa using hy)] at hx
      rcases List.mem_cons.1 hx with rfl | hx
      · omega
      · have := hp'.1 x hx
        unfold before at this
        omega
theorem sortS_sorted (κ : Int → Int) : ∀ (n : Nat), (sortS κ n).Pairwise (before κ)
  | 0 => .nil
  | n + 1 => by
    have ih := sortS_sorted κ n
    have hm : ∀ x ∈ sortS κ n, x < n := fun x hx => (sortS_mem.1 hx).2
    rw [sortS, insS]
    have hsplit : (sortS κ n).takeWhile (fun x => decide (κ x ≤ κ n)) ++ (sortS κ n).dropWhile (fun x => decide (κ x ≤ κ n)) = sortS κ n := List.takeWhile_append_dropWhile
    have hp : ((sortS κ n).takeWhile (fun x => decide (κ x ≤ κ n)) ++ (sortS κ n).dropWhile (fun x => decide (κ x ≤ κ n))).Pairwise (before κ) := by rw [hsplit]; exact ih
    have ht := takeWhile_le (κ := κ) (c := κ n) (l := sortS κ n)
    have hd := dropWhile_gt (c := κ n) ih
    have htm : ∀ x ∈ (sortS κ n).takeWhile (fun x => decide (κ x ≤ κ n)), x < n := fun x hx => hm x (ht x hx).2
    rw [List.pairwise_append] at hp ⊢
    refine ⟨hp.1, List.pairwise_cons.2 ⟨fun x hx => .inl (hd x hx), hp.2.1⟩, fun a ha b hb => ?_⟩
    rcases List.mem_cons.1 hb with rfl | hb
    · have h1 := (ht a ha).1
      have h2 := htm a ha
      unfold before; omega
    · exact hp.2.2 a ha b hb
theorem before_asymm {κ : Int → Int} {a b : Int} (h : before κ a b) (k : before κ b a) : False := by unfold before at h k; omega
theorem sortS_unique {κ : Int → Int} {n : Nat} {l : List Int} (hp : l.Perm (sortS κ n)) (hs : l.Pairwise (before κ)) : l = sortS κ n := by
  have h1 := sortS_sorted κ n
  generalize sortS κ n = k at hp h1
  induction l generalizing k with
  | nil => exact (List.nil_perm.1 hp).symm
  | cons x l ih =>
    cases k with
    | nil => exact absurd hp.length_eq (by simp)
    | cons y k =>
      have hxy : x = y := by
        rcases List.mem_cons.1 (hp.mem_iff.1 List.mem_cons_self) with h | h
        · exact h
        · rcases List.mem_cons.1 (hp.mem_iff.2 List.mem_cons_self) with h' | h'
          · exact h'.symm
          · exact (before_asymm ((List.pairwise_cons.1 hs).1 y h') ((List.pairwise_cons.1 h1).1 x h)).elim
      subst hxy
      rw [ih (List.pairwise_cons.1 hs).2 k ((List.perm_cons x).1 hp) (List.pairwise_cons.1 h1).2]
theorem sorted_loop2 {m : Mes} {i : Nat} {out : List Int} (hi : i < m.Fields.length) (hb : m.Fields.length ≤ 1099511627776) (hol : out.length ≤ 1099511627776) (ho : ∀ x ∈ out, 0 ≤ x ∧ x < m.Fields.length) :
    ∀ (t : List Int) (k : Nat), out.drop k = t → k ≤ out.length → darningref07_Sorted_l2 i m out k = some ((k + (t.takeWhile (fun x => decide (keyOf m x ≤ keyOf m i))).length : Nat) : Int) := by
  have ki : keyOf m i = (m.Fields[i]).Number := by unfold keyOf; rw [Int.toNat_natCast, List.getD_eq_getElem?_getD, List.getElem?_eq_getElem hi]; rfl
  intro t
  induction t with
  | nil =>
    intro k hd hk
    have := drop_nil7 hd
    refine darningref07_Sorted_l2_inr ?_
    unfold darningref07_Sorted_b2
    rw [itF (by simp; omega), sb, itF (by rfl)]; simp
  | cons x t ih =>
    intro k hd hk
    obtain ⟨hkl, hx, hd'⟩ := drop_cons7 hd
    have hxo := ho x (by rw [← hx]; exact List.getElem_mem hkl)
    have kx : keyOf m x = (m.Fields[x.toNat]'(by omega)).Number := by unfold keyOf; rw [List.getD_eq_getElem?_getD, List.getElem?_eq_getElem (by omega)]; rfl
    have hb2 : darningref07_Sorted_b2 i m out k = if keyOf m x ≤ keyOf m i then some (.inl ((k + 1 : Nat) : Int)) else some (.inr (k : Int)) := by
      unfold darningref07_Sorted_b2
      rw [itT (by simp; omega), idx_of rfl hkl, sb, hx, idx_of (n := x.toNat) (by omega) (by omega), sb, idx_of rfl hi, sb, sb, kx, ki, wrap_i64 (by omega)]
      by_cases h : (m.Fields[x.toNat]'(by omega)).Number ≤ (m.Fields[i]).Number
      · rw [itT (by simpa using h), if_pos h]; push_cast; rfl
      · rw [itF (by simpa using h), if_neg h]
    rw [List.takeWhile_cons]
    by_cases h : keyOf m x ≤ keyOf m i
    · rw [if_pos h] at hb2
      rw [darningref07_Sorted_l2_inl hb2, ih _ hd' (by omega), if_pos (by simpa using h), List.length_cons]
      congr 2; omega
    · rw [if_neg h] at hb2
      rw [darningref07_Sorted_l2_inr hb2, if_neg (by simpa using h)]; simp
theorem refSorted_is {m : Mes} (hb : m.Fields.length ≤ 1099511627776) : darningref07_Sorted m = some (sortS (keyOf m) m.Fields.length) := by
  have key : ∀ (d i : Nat), i + d = m.Fields.length → darningref07_Sorted_l1 m (sortS (keyOf m) i) i = some (sortS (keyOf m) m.Fields.length) := by
    intro d
    induction d with
    | zero =>
      intro i hi
      have : i = m.Fields.length := by omega
      subst this
      refine darningref07_Sorted_l1_inr ?_
      unfold darningref07_Sorted_b1
      rw [itF (by simp)]
    | succ d ih =>
      intro i hi
      refine (darningref07_Sorted_l1_inl (out' := sortS (keyOf m) (i + 1)) (i' := ((i + 1 : Nat) : Int)) ?_).trans (ih _ (by omega))
      have hl := sortS_len (keyOf m) i
      have h2 := sorted_loop2 (m := m) (i := i) (out := sortS (keyOf m) i) (by omega) hb (by omega) (fun x hx => by have := sortS_mem.1 hx; omega) (sortS (keyOf m) i) 0 rfl (Nat.zero_le _)
      have h2' : darningref07_Sorted_l2 i m (sortS (keyOf m) i) 0 = _ := h2
      rw [Nat.zero_add] at h2'
      have hsp : (sortS (keyOf m) i).takeWhile (fun x => decide (keyOf m x ≤ keyOf m i)) ++ (sortS (keyOf m) i).dropWhile (fun x => decide (keyOf m x ≤ keyOf m i)) = sortS (keyOf m) i := List.takeWhile_append_dropWhile
      generalize htk : (sortS (keyOf m) i).takeWhile (fun x => decide (keyOf m x ≤ keyOf m i)) = tk at h2' hsp
      generalize hdk : (sortS (keyOf m) i).dropWhile (fun x => decide (keyOf m x ≤ keyOf m i)) = dk at hsp
      have hins : sortS (keyOf m) (i + 1) = tk ++ (i : Int) :: dk := by rw [sortS, insS, htk, hdk]
      have hlen : tk.length + dk.length = i := by rw [← hl, ← hsp, List.length_append]
      have c1 : cut (sortS (keyOf m) i) 0 ((tk.length : Nat) : Int) = some tk := by rw [cut_take rfl (by omega), ← hsp, List.take_left]
      have c2 : cut (sortS (keyOf m) i) ((tk.length : Nat) : Int) ((sortS (keyOf m) i).length : Int) = some dk := by rw [cut_drop rfl rfl (by omega), ← hsp, List.drop_left]
      unfold darningref07_Sorted_b1
      rw [itT (by simp; omega), h2', sb, c1, sb, app_of (by simp; omega), sb, List.nil_append, app_of (by simp; omega), sb, c2, sb, app_of (by simp; omega), sb, wrap_i64 (by omega), hins]
      simp
  unfold darningref07_Sorted
  have h := key m.Fields.length 0 (by omega)
  have h' : darningref07_Sorted_l1 m [] 0 = _ := h
  rw [h', sb]
end Go.Proofs.Ytnchbppkppbflaa
namespace Go.Proofs.Ytnchbppkppbflaa
open Go
set_option linter.unusedVariables false
def namesL : List Str := [[], [105, 110, 116, 51, 50], [105, 110, 116, 54, 52], [117, 105, 110, 116, 51, 50], [117, 105, 110, 116, 54, 52], [115, 105, 110, 116, 51, 50], [115, 105, 110, 116, 54, 52], [98, 111, 111, 108], [101, 110, 117, 109], [102, 105, 120, 101, 100, 51, 50], [115, 102, 105, 120, 101, 100, 51, 50], [102, 108, 111, 97, 116], [102, 105, 120, 101, 100, 54, 52], [115, 102, 105, 120, 101, 100, 54, 52], [100, 111, 117, 98, 108, 101], [115, 116, 114, 105, 110, 103], [98, 121, 116, 101, 115], [109, 101, 115, 115, 97, 103, 101]]
def kName (k : Int) : Str := (namesL[k.toNat]?).getD []
def kT : List (Int × T_name_wire) := [(1, ⟨[105, 110, 116, 51, 50], 0⟩), (2, ⟨[105, 110, 116, 54, 52], 0⟩), (3, ⟨[117, 105, 110, 116, 51, 50], 0⟩), (4, ⟨[117, 105, 110, 116, 54, 52], 0⟩), (5, ⟨[115, 105, 110, 116, 51, 50], 0⟩), (6, ⟨[115, 105, 110, 116, 54, 52], 0⟩), (7, ⟨[98, 111, 111, 108], 0⟩), (8, ⟨[101, 110, 117, 109], 0⟩), (9, ⟨[102, 105, 120, 101, 100, 51, 50], 5⟩), (10, ⟨[115, 102, 105, 120, 101, 100, 51, 50], 5⟩), (11, ⟨[102, 108, 111, 97, 116], 5⟩), (12, ⟨[102, 105, 120, 101, 100, 54, 52], 1⟩), (13, ⟨[115, 102, 105, 120, 101, 100, 54, 52], 1⟩), (14, ⟨[100, 111, 117, 98, 108, 101], 1⟩), (15, ⟨[115, 116, 114, 105, 110, 103], 2⟩), (16, ⟨[98, 121, 116, 101, 115], 2⟩), (17, ⟨[109, 101, 115, 115, 97, 103, 101], 2⟩)]
theorem kinds_is : kind_kinds = some kT := rfl
theorem right_cases {k : Int} (h : kRight k = true) : k = 1 ∨ k = 2 ∨ k = 3 ∨ k = 4 ∨ k = 5 ∨ k = 6 ∨ k = 7 ∨ k = 8 ∨ k = 9 ∨ k = 10 ∨ k = 11 ∨ k = 12 ∨ k = 13 ∨ k = 14 ∨ k = 15 ∨ k = 16 ∨ k = 17 := by
  have := of_decide_eq_true h
  omega
theorem kT_get {k : Int} (h : kRight k = true) : mget kT k = some ⟨kName k, kWire k⟩ := by
  rcases right_cases h with rfl | rfl | rfl | rfl | rfl | rfl | rfl | rfl | rfl | rfl | rfl | rfl | rfl | rfl | rfl | rfl | rfl <;> rfl
theorem kT_keys {e : Int × T_name_wire} (h : e ∈ kT) : kRight e.1 = true ∧ e.2 = ⟨kName e.1, kWire e.1⟩ := by
  have : kT.all (fun e => kRight e.1 && decide (e.2 = ⟨kName e.1, kWire e.1⟩)) = true := by decide
  have h1 := List.all_eq_true.1 this e h
  simp only [Bool.and_eq_true, decide_eq_true_eq] at h1
  exact h1
theorem kT_none {k : Int} (h : kRight k = false) : mget kT k = none := by
  cases hg : mget kT k with
  | none => rfl
  | some x =>
    have mem : ∀ {m : List (Int × T_name_wire)} {x : T_name_wire}, mget m k = some x → (k, x) ∈ m := fun {m x} hg => by
      induction m with
      | nil => cases hg
      | cons p m ih =>
        rw [mget] at hg
        split at hg
        · rename_i e; cases hg; rw [e]; exact List.mem_cons_self
        · exact List.mem_cons_of_mem _ (ih hg)
    have h1 := (kT_keys (mem hg)).1
    simp only at h1
    rw [h] at h1
    cases h1
theorem kwire_is (k : Int) : kind_Wire k = some (if kRight k then (kWire k, 0) else (0, 2)) := by
  unfold kind_Wire
  rw [kinds_is, sb]
  cases h : kRight k with
  | true => rw [kT_get h]; rfl
  | false => rw [kT_none h]; rfl
theorem knumber_is (k : Int) : kind_Number k = some (kNum k) := by
  unfold kind_Number
  rw [kwire_is, sb]
  cases h : kRight k with
  | true =>
    rcases right_cases h with rfl | rfl | rfl | rfl | rfl | rfl | rfl | rfl | rfl | rfl | rfl | rfl | rfl | rfl | rfl | rfl | rfl <;> rfl
  | false =>
    have h1 := of_decide_eq_false h
    have : kNum k = false := decide_eq_false (by omega)
    rw [this]
    rfl
theorem keys_kT : kT.map Prod.fst = [1, 2, 3, 4, 5, 6, 7, 8, 9, 10, 11, 12, 13, 14, 15, 16, 17] := rfl
theorem kall_is : kind_All = some [1, 2, 3, 4, 5, 6, 7, 8, 9, 10, 11, 12, 13, 14, 15, 16, 17] := by
  have e : keysO kT = some [1, 2, 3, 4, 5, 6, 7, 8, 9, 10, 11, 12, 13, 14, 15, 16, 17] := by
    unfold keysO
    rw [if_pos ⟨by decide, by decide⟩, keys_kT, List.mergeSort_of_pairwise (by decide)]
  unfold kind_All
  rw [kinds_is, sb, e, sb]
end Go.Proofs.Ytnchbppkppbflaa
namespace Go.Proofs.Ytnchbppkppbflaa
open Go
set_option linter.unusedVariables false
def lt7 (c : UInt8) : Bool := decide (97 ≤ c.toNat ∧ c.toNat ≤ 122 ∨ 65 ≤ c.toNat ∧ c.toNat ≤ 90 ∨ c.toNat = 95)
def dg7 (c : UInt8) : Bool := decide (48 ≤ c.toNat ∧ c.toNat ≤ 57)
theorem isDigit_is (c : UInt8) : schema_isDigit (c.toNat : Int) = some (dg7 c) := by
  unfold schema_isDigit dg7
  congr 1
  rw [Bool.eq_iff_iff]
  simp
  omega
theorem isLetter_is (c : UInt8) : schema_isLetter (c.toNat : Int) = some (lt7 c) := by
  unfold schema_isLetter lt7
  congr 1
  by_cases h1 : (c.toNat : Int) ≥ 97 <;> by_cases h2 : (c.toNat : Int) ≥ 65 <;> simp only [h1, h2, decide_true, decide_false, if_true, if_false, Bool.false_eq_true] <;> rw [Bool.eq_iff_iff] <;> simp <;> omega
theorem isName_loop (s : List UInt8) (hs : s.length ≤ 1152921504606846976) : ∀ (l : List UInt8) (i : Nat), s.drop i = l → schema_isName_l1 s i = some (if (l.all fun c => lt7 c || dg7 c) = true then .inl () else .inr ()) := by
  intro l
  induction l with
  | nil =>
    intro i hd
    have := drop_nil7 hd
    refine schema_isName_l1_inr ?_
    unfold schema_isName_b1
    rw [itF (by simp; omega)]
    rfl
  | cons c l ih =>
    intro i hd
    obtain ⟨hi, hc, hd'⟩ := drop_cons7 hd
    have hb : schema_isName_b1 s i = if (lt7 c || dg7 c) = true then some (.inl ((i + 1 : Nat) : Int)) else some (.inr (.inr ())) := by
      unfold schema_isName_b1
      rw [itT (by simp; omega), idx_of rfl hi, sb, hc, isLetter_is, sb, sb, isDigit_is, wrap_i64 (by omega)]
      cases lt7 c <;> cases dg7 c <;> rfl
    rw [List.all_cons]
    cases hk : (lt7 c || dg7 c) with
    | false =>
      rw [hk] at hb
      rw [schema_isName_l1_inr hb]
      rfl
    | true =>
      rw [hk] at hb
      rw [schema_isName_l1_inl hb, ih _ hd', Bool.true_and]
theorem nmA_pos : ∀ (l : List UInt8) (i : Nat), 0 < i → nmA i l = l.all fun c => lt7 c || dg7 c
  | [], _, _ => rfl
  | c :: l, i, h => by
    rw [nmA, nmA_pos l (i + 1) (by omega), List.all_cons]
    congr 1
    unfold nmc lt7 dg7
    rw [Bool.eq_iff_iff]
    simp
    omega
theorem isName_is {s : List UInt8} (hs : s.length ≤ 1152921504606846976) : schema_isName s = some (nameOk s) := by
  unfold schema_isName nameOk
  have hl := isName_loop s hs s 0 rfl
  have hl' : schema_isName_l1 s 0 = _ := hl
  cases s with
  | nil => rfl
  | cons c l =>
    rw [itF (by simp)]
    by_cases h60 : ((c :: l).length : Int) > 60
    · rw [itT (by simpa using h60), sb, itT rfl]
      have : decide (1 ≤ (c :: l).length ∧ (c :: l).length ≤ 60) = false := by simp only [decide_eq_false_iff_not]; omega
      rw [this, Bool.and_false]
    · have hd : decide (1 ≤ (c :: l).length ∧ (c :: l).length ≤ 60) = true := by simp only [decide_eq_true_eq]; refine ⟨by simp, by omega⟩
      have hc : idx (c :: l) 0 = some c := by simp [idx]
      rw [itF (by simpa using h60), hc, sb, isDigit_is, sb, sb, hd, Bool.and_true, hl', sb]
      have e : nmA 0 (c :: l) = (lt7 c && l.all fun c => lt7 c || dg7 c) := by
        rw [nmA, nmA_pos l 1 (by omega)]
        congr 1
        unfold nmc lt7
        rw [Bool.eq_iff_iff]
        simp
        omega
      have hx : lt7 c = true → dg7 c = false := by
        unfold lt7 dg7
        simp only [decide_eq_true_eq, decide_eq_false_iff_not]
        omega
      rw [e, List.all_cons]
      cases h1 : lt7 c <;> cases h2 : dg7 c <;> first | (rw [hx h1] at h2; cases h2; done) | skip
      · rfl
      · rfl
      · cases l.all fun c => lt7 c || dg7 c <;> rfl
theorem index_is {l : List Int} (hl : l.length ≤ 1152921504606846976) (v : Int) : slices_Index___int_int_ l v = some (firstI (fun x => v == x) l) := by
  unfold slices_Index___int_int_
  have h := find_loop (fun x => v == x) l (fun i => slices_Index___int_int__l1 l v i) (slices_Index___int_int__l1_inr (by unfold slices_Index___int_int__b1; rw [itF (by simp)])) (fun i hi => by
    by_cases hp : (v == l[i]) = true
    · rw [if_pos hp]; exact slices_Index___int_int__l1_inr (by unfold slices_Index___int_int__b1; rw [itT (by simp; omega), idx_of rfl hi, sb, itT hp])
    · rw [if_neg hp]; exact slices_Index___int_int__l1_inl (by unfold slices_Index___int_int__b1; rw [itT (by simp; omega), idx_of rfl hi, sb, itF (by simpa using hp), wrap_i64 (by omega)]; rfl)) l.length 0 (by omega) (fun j _ h => by omega)
  have h' : slices_Index___int_int__l1 l v 0 = _ := h
  rw [h', sb]
  unfold firstI
  cases l.findIdx? (fun x => v == x) <;> rfl
theorem firstI_nonneg {α : Type} (p : α → Bool) (l : List α) : decide (firstI p l ≥ 0) = l.any p := by
  cases h : l.findIdx? p with
  | none =>
    rw [firstI_none h]
    rw [List.findIdx?_eq_none_iff] at h
    symm
    rw [List.any_eq_false.2 fun x hx => by simpa using h x hx]
    rfl
  | some i =>
    rw [firstI_some h]
    rw [List.findIdx?_eq_some_iff_getElem] at h
    obtain ⟨hi, hp, _⟩ := h
    symm
    rw [List.any_eq_true.2 ⟨l[i], List.getElem_mem hi, hp⟩]
    simp
theorem contains_is {l : List Int} (hl : l.length ≤ 1152921504606846976) (v : Int) : slices_Contains___int_int_ l v = some (l.any fun x => v == x) := by
  unfold slices_Contains___int_int_
  rw [index_is hl, sb, firstI_nonneg]
def K17 : List Int := [1, 2, 3, 4, 5, 6, 7, 8, 9, 10, 11, 12, 13, 14, 15, 16, 17]
theorem kinds_any (k : Int) : (K17.any fun x => k == x) = kRight k := by
  unfold kRight K17
  rw [Bool.eq_iff_iff]
  simp
  omega
def hasN (m : List (T_message_name × Bool)) (i : Int) (n : Str) : Bool := (mget m (⟨i, n⟩ : T_message_name)).getD false
def hasU (m : List (T_message_number × Bool)) (i : Int) (n : Int) : Bool := (mget m (⟨i, n⟩ : T_message_number)).getD false
theorem hasN_put (m : List (T_message_name × Bool)) (i j : Int) (n k : Str) : hasN (mput m ⟨i, n⟩ true) j k = (decide (j = i ∧ k = n) || hasN m j k) := by
  unfold hasN
  rw [mget_mput]
  by_cases h : j = i ∧ k = n
  · obtain ⟨rfl, rfl⟩ := h; simp
  · rw [if_neg (fun e => h (by injection e with e1 e2; exact ⟨e1, e2⟩))]; simp [h]
theorem hasU_put (m : List (T_message_number × Bool)) (i j : Int) (n k : Int) : hasU (mput m ⟨i, n⟩ true) j k = (decide (j = i ∧ k = n) || hasU m j k) := by
  unfold hasU
  rw [mget_mput]
  by_cases h : j = i ∧ k = n
  · obtain ⟨rfl, rfl⟩ := h; simp
  · rw [if_neg (fun e => h (by injection e with e1 e2; exact ⟨e1, e2⟩))]; simp [h]
theorem isNumber_is (n : Int) : schema_isNumber n = some (decide ¬ (n < 1 ∨ n > 536870911 ∨ (19000 ≤ n ∧ n < 20000))) := by
  unfold schema_isNumber
  congr 1
  rw [Bool.eq_iff_iff]
  simp
  omega
theorem mayPack_is (f : Fld) : schema_mayPack f = some (f.Repeated && kNum f.Kind) := by
  unfold schema_mayPack
  rw [knumber_is]
  cases f.Repeated <;> rfl
theorem leads_is (n : Int) (K : List Int) (nm : List (T_message_name × Bool)) (nu : List (T_message_number × Bool)) (f : Fld) : schema_check_leads ⟨n, K, nm, nu⟩ f = some (decide ¬ (f.Kind = 17 ∧ (f.Of < 0 ∨ f.Of ≥ n) ∨ f.Kind ≠ 17 ∧ f.Of ≠ 0)) := by
  unfold schema_check_leads
  by_cases h : f.Kind = 17
  · rw [itT (by simpa using h)]
    congr 1
    rw [Bool.eq_iff_iff]
    simp [h]
  · rw [itF (by simpa using h)]
    congr 1
    rw [Bool.eq_iff_iff]
    simp [h]
theorem field_is {n i : Int} {nm : List (T_message_name × Bool)} {nu : List (T_message_number × Bool)} {prev : List Fld} {f : Fld} (hf : f.Name.length ≤ 1152921504606846976) (hN : hasN nm i f.Name = prev.any fun g => g.Name == f.Name) (hU : hasU nu i f.Number = prev.any fun g => g.Number == f.Number) :
    schema_check_field ⟨n, K17, nm, nu⟩ i f = some (faultF n prev f, if faultF n prev f = 0 then (mput nm ⟨i, f.Name⟩ true, mput nu ⟨i, f.Number⟩ true) else (nm, nu)) := by
  unfold schema_check_field
  rw [isName_is hf, sb]
  have e1 : (mget nm (⟨i, f.Name⟩ : T_message_name)).getD false = hasN nm i f.Name := rfl
  have e2 : (mget nu (⟨i, f.Number⟩ : T_message_number)).getD false = hasU nu i f.Number := rfl
  simp only [e1, e2, hN, hU]
  have hz : ∀ (k : Int) (x y : List (T_message_name × Bool) × List (T_message_number × Bool)), k ≠ 0 → (if k = 0 then x else y) = y := fun k x y h => if_neg h
  by_cases h1 : nameOk f.Name = false
  · have hF : faultF n prev f = 5 := by unfold faultF; rw [if_pos h1]
    rw [hF, hz 5 _ _ (by decide), itT (by rw [h1]; rfl)]
  rw [itF (show (!nameOk f.Name) = false by simpa using h1)]
  by_cases h2 : (prev.any fun g => g.Name == f.Name) = true
  · have hF : faultF n prev f = 6 := by unfold faultF; rw [if_neg h1, if_pos h2]
    rw [hF, hz 6 _ _ (by decide), itT h2]
  have h2' : (prev.any fun g => g.Name == f.Name) = false := eq_false_of_ne_true h2
  rw [itF h2', isNumber_is, sb]
  by_cases h3 : f.Number < 1 ∨ f.Number > 536870911 ∨ (19000 ≤ f.Number ∧ f.Number < 20000)
  · have hF : faultF n prev f = 7 := by unfold faultF; rw [if_neg h1, if_neg h2, if_pos h3]
    rw [hF, hz 7 _ _ (by decide), itT (by rw [decide_eq_false (fun h => h h3)]; rfl)]
  rw [itF (by rw [decide_eq_true h3]; rfl)]
  by_cases h4 : (prev.any fun g => g.Number == f.Number) = true
  · have hF : faultF n prev f = 8 := by unfold faultF; rw [if_neg h1, if_neg h2, if_neg h3, if_pos h4]
    rw [hF, hz 8 _ _ (by decide), itT h4]
  have h4' : (prev.any fun g => g.Number == f.Number) = false := eq_false_of_ne_true h4
  rw [itF h4', contains_is (by decide), sb, kinds_any]
  by_cases h5 : kRight f.Kind = false
  · have hF : faultF n prev f = 9 := by unfold faultF; rw [if_neg h1, if_neg h2, if_neg h3, if_neg h4, if_pos h5]
    rw [hF, hz 9 _ _ (by decide), itT (by rw [h5]; rfl)]
  rw [itF (show (!kRight f.Kind) = false by simpa using h5), mayPack_is]
  have hg : (if f.Packed = true then (some (f.Repeated && kNum f.Kind) >>= fun rv4 => some (!rv4)) else some false) = some (decide (f.Packed = true ∧ ¬ (f.Repeated = true ∧ kNum f.Kind = true))) := by
    cases f.Packed <;> cases f.Repeated <;> cases kNum f.Kind <;> rfl
  rw [hg, sb]
  by_cases h6 : f.Packed = true ∧ ¬ (f.Repeated = true ∧ kNum f.Kind = true)
  · have hF : faultF n prev f = 10 := by unfold faultF; rw [if_neg h1, if_neg h2, if_neg h3, if_neg h4, if_neg h5, if_pos h6]
    rw [hF, hz 10 _ _ (by decide), itT (decide_eq_true h6)]
  rw [itF (decide_eq_false h6), leads_is, sb]
  by_cases h7 : f.Kind = 17 ∧ (f.Of < 0 ∨ f.Of ≥ n) ∨ f.Kind ≠ 17 ∧ f.Of ≠ 0
  · have hF : faultF n prev f = 11 := by unfold faultF; rw [if_neg h1, if_neg h2, if_neg h3, if_neg h4, if_neg h5, if_neg h6, if_pos h7]
    rw [hF, hz 11 _ _ (by decide), itT (by rw [decide_eq_false (fun h => h h7)]; rfl)]
  have hF : faultF n prev f = 0 := by unfold faultF; rw [if_neg h1, if_neg h2, if_neg h3, if_neg h4, if_neg h5, if_neg h6, if_neg h7]
  rw [hF, if_pos rfl, itF (by rw [decide_eq_true h7]; rfl)]
theorem message_is {n : Int} {nm : List (T_message_name × Bool)} {nu : List (T_message_number × Bool)} {prev : List Mes} {m : Mes} (hm : m.Name.length ≤ 1152921504606846976) (hN : hasN nm (-1) m.Name = prev.any fun g => g.Name == m.Name) :
    schema_check_message ⟨n, K17, nm, nu⟩ m = some (if nameOk m.Name = false then (2, nm, nu) else if (prev.any fun g => g.Name == m.Name) = true then (3, nm, nu) else if 200 < m.Fields.length then (4, nm, nu) else (0, mput nm ⟨-1, m.Name⟩ true, nu)) := by
  unfold schema_check_message
  rw [isName_is hm, sb]
  have e1 : (mget nm (⟨(-1), m.Name⟩ : T_message_name)).getD false = hasN nm (-1) m.Name := rfl
  simp only [e1, hN]
  by_cases h1 : nameOk m.Name = false
  · rw [if_pos h1, itT (show (!nameOk m.Name) = true by rw [h1]; rfl)]
  rw [if_neg h1, itF (show (!nameOk m.Name) = false by simpa using h1)]
  by_cases h2 : (prev.any fun g => g.Name == m.Name) = true
  · rw [if_pos h2, itT h2]
  have h2' : (prev.any fun g => g.Name == m.Name) = false := eq_false_of_ne_true h2
  rw [if_neg h2, itF h2']
  by_cases h3 : 200 < m.Fields.length
  · rw [if_pos h3, itT (show decide ((m.Fields.length : Int) > 200) = true by simp; omega)]
  rw [if_neg h3, itF (show decide ((m.Fields.length : Int) > 200) = false by simp; omega)]
structure Met (nm : List (T_message_name × Bool)) (nu : List (T_message_number × Bool)) (i : Nat) (prev : List Mes) (p : List Fld) : Prop where
  mes : ∀ n, hasN nm (-1) n = prev.any fun g => g.Name == n
  nam : ∀ n, hasN nm i n = p.any fun g => g.Name == n
  num : ∀ n, hasU nu i n = p.any fun g => g.Number == n
  later : ∀ (j : Nat) n, i < j → hasN nm j n = false
  laterU : ∀ (j : Nat) n, i < j → hasU nu j n = false
theorem Met.step {nm : List (T_message_name × Bool)} {nu : List (T_message_number × Bool)} {i : Nat} {prev : List Mes} {p : List Fld} (h : Met nm nu i prev p) (f : Fld) : Met (mput nm ⟨i, f.Name⟩ true) (mput nu ⟨i, f.Number⟩ true) i prev (p ++ [f]) := by
  refine ⟨fun n => ?_, fun n => ?_, fun n => ?_, fun j n hj => ?_, fun j n hj => ?_⟩
  · rw [hasN_put, h.mes, decide_eq_false (by omega), Bool.false_or]
  · rw [hasN_put, h.nam, List.any_append, Bool.or_comm]
    congr 1
    simp only [List.any_cons, List.any_nil, Bool.or_false]
    rw [Bool.eq_iff_iff]; simp; exact eq_comm
  · rw [hasU_put, h.num, List.any_append, Bool.or_comm]
    congr 1
    simp only [List.any_cons, List.any_nil, Bool.or_false]
    rw [Bool.eq_iff_iff]; simp; exact eq_comm
  · rw [hasN_put, h.later j n hj, decide_eq_false (by omega)]; rfl
  · rw [hasU_put, h.laterU j n hj, decide_eq_false (by omega)]; rfl
theorem check_l2 {s : List Mes} {i : Nat} {prev : List Mes} {m : Mes} (hb : m.Fields.length ≤ 140737488351232) (hn : ∀ f ∈ m.Fields, f.Name.length ≤ 140737488351232) :
    ∀ (l : List Fld) (k : Nat) (nm : List (T_message_name × Bool)) (nu : List (T_message_number × Bool)), m.Fields.drop k = l → k ≤ m.Fields.length → Met nm nu i prev (m.Fields.take k) →
      (∃ j w, msgF s.length (m.Fields.take k) l = some (j, w) ∧ schema_Check_l2 K17 s i m k nm nu = some (.inr ((j : Int), w))) ∨
      (msgF s.length (m.Fields.take k) l = none ∧ ∃ nm' nu', schema_Check_l2 K17 s i m k nm nu = some (.inl (nm', nu')) ∧ Met nm' nu' i prev m.Fields) := by
  intro l
  induction l with
  | nil =>
    intro k nm nu hd hk hM
    have := drop_nil7 hd
    have hkl : k = m.Fields.length := by omega
    subst hkl
    refine .inr ⟨rfl, nm, nu, schema_Check_l2_inr ?_, by simpa using hM⟩
    unfold schema_Check_b2
    rw [itF (by simp)]
  | cons f l ih =>
    intro k nm nu hd hk hM
    obtain ⟨hi, hc, hd'⟩ := drop_cons7 hd
    have hf := hn f (by rw [← hc]; exact List.getElem_mem hi)
    have hfld := field_is (n := (s.length : Int)) (i := (i : Int)) (nm := nm) (nu := nu) (prev := m.Fields.take k) (f := f) (by omega) (hM.nam _) (hM.num _)
    have htk : m.Fields.take (k + 1) = m.Fields.take k ++ [f] := by rw [List.take_succ_eq_append_getElem hi, hc]
    have hlen : (m.Fields.take k).length = k := by simp; omega
    obtain ⟨bd, _⟩ := fault_bd (s.length : Int) (m.Fields.take k) f
    rw [msgF]
    by_cases h0 : faultF s.length (m.Fields.take k) f = 0
    · rw [if_neg (by omega)]
      rw [h0, if_pos rfl] at hfld
      have hstep : schema_Check_b2 K17 s i m k nm nu = some (.inl (((k + 1 : Nat) : Int), mput nm ⟨i, f.Name⟩ true, mput nu ⟨i, f.Number⟩ true)) := by
        unfold schema_Check_b2
        rw [itT (by simp; omega), idx_of rfl hi, sb, hc, hfld, sb]
        dsimp only
        rw [itF (show ((0 : Int) != 0) = false from rfl), wrap_i64 (by omega)]
        rfl
      rw [schema_Check_l2_inl hstep, ← htk]
      exact ih (k + 1) _ _ hd' (by omega) (by rw [htk]; exact hM.step f)
    · rw [if_pos (by omega)]
      rw [if_neg h0] at hfld
      refine .inl ⟨k, _, by rw [hlen], schema_Check_l2_inr ?_⟩
      unfold schema_Check_b2
      rw [itT (by simp; omega), idx_of rfl hi, sb, hc, hfld, sb]
      dsimp only
      rw [itT (show (faultF (s.length : Int) (m.Fields.take k) f != 0) = true by simpa using h0)]
theorem check_l1 {s : List Mes} (hw : WS s) : ∀ (l : List Mes) (i : Nat) (nm : List (T_message_name × Bool)) (nu : List (T_message_number × Bool)), s.drop i = l → i ≤ s.length → Met nm nu i (s.take i) [] →
    schema_Check_l1 K17 s i nm nu = some (match chkF s.length (s.take i) l with | some (j, k, w) => .inr ((j : Int), k, w) | none => .inl ()) := by
  intro l
  induction l with
  | nil =>
    intro i nm nu hd hi hM
    have := drop_nil7 hd
    refine schema_Check_l1_inr ?_
    unfold schema_Check_b1
    rw [itF (by simp; omega)]
    rfl
  | cons m l ih =>
    intro i nm nu hd hi hM
    obtain ⟨hil, hc, hd'⟩ := drop_cons7 hd
    obtain ⟨w1, w2⟩ := hw
    obtain ⟨m1, m2, m3⟩ := w2 m (by rw [← hc]; exact List.getElem_mem hil)
    have hmes := message_is (n := (s.length : Int)) (nm := nm) (nu := nu) (prev := s.take i) (m := m) (by omega) (hM.mes _)
    have htk : s.take (i + 1) = s.take i ++ [m] := by rw [List.take_succ_eq_append_getElem hil, hc]
    have hlen : (s.take i).length = i := by simp; omega
    rw [chkF]
    by_cases h1 : nameOk m.Name = false
    · rw [if_pos h1] at hmes ⊢
      refine schema_Check_l1_inr ?_
      unfold schema_Check_b1
      rw [itT (by simp; omega), idx_of rfl hil, sb, hc, hmes, sb]
      dsimp only
      rw [itT (show ((2 : Int) != 0) = true from rfl), hlen]
    rw [if_neg h1] at hmes ⊢
    by_cases h2 : ((s.take i).any fun g => g.Name == m.Name) = true
    · rw [if_pos h2] at hmes ⊢
      refine schema_Check_l1_inr ?_
      unfold schema_Check_b1
      rw [itT (by simp; omega), idx_of rfl hil, sb, hc, hmes, sb]
      dsimp only
      rw [itT (show ((3 : Int) != 0) = true from rfl), hlen]
    rw [if_neg h2] at hmes ⊢
    by_cases h3 : 200 < m.Fields.length
    · rw [if_pos h3] at hmes ⊢
      refine schema_Check_l1_inr ?_
      unfold schema_Check_b1
      rw [itT (by simp; omega), idx_of rfl hil, sb, hc, hmes, sb]
      dsimp only
      rw [itT (show ((4 : Int) != 0) = true from rfl), hlen]
    rw [if_neg h3] at hmes ⊢
    have hM0 : Met (mput nm ⟨-1, m.Name⟩ true) nu i (s.take i ++ [m]) (m.Fields.take 0) := by
      refine ⟨fun n => ?_, fun n => ?_, fun n => ?_, fun j n hj => ?_, fun j n hj => hM.laterU j n hj⟩
      · rw [hasN_put, hM.mes, List.any_append, Bool.or_comm]
        congr 1
        simp only [List.any_cons, List.any_nil, Bool.or_false]
        rw [Bool.eq_iff_iff]; simp; exact eq_comm
      · rw [hasN_put, hM.nam, decide_eq_false (by omega)]; rfl
      · rw [hM.num]; rfl
      · rw [hasN_put, hM.later j n hj, decide_eq_false (by omega)]; rfl
    have hl2 := check_l2 (s := s) (i := i) m2 m3 m.Fields 0 _ nu rfl (by omega) hM0
    simp only [List.take_zero] at hl2
    rcases hl2 with ⟨j, w, g1, g2⟩ | ⟨g1, nm', nu', g2, g3⟩
    · rw [g1]
      refine schema_Check_l1_inr ?_
      unfold schema_Check_b1
      have g2' : schema_Check_l2 K17 s i m 0 (mput nm ⟨-1, m.Name⟩ true) nu = _ := g2
      rw [itT (by simp; omega), idx_of rfl hil, sb, hc, hmes, sb]
      dsimp only
      rw [itF (show ((0 : Int) != 0) = false from rfl), g2', sb]
      simp only [hlen]
    · rw [g1]
      have hstep : schema_Check_b1 K17 s i nm nu = some (.inl (((i + 1 : Nat) : Int), nm', nu')) := by
        unfold schema_Check_b1
        have g2' : schema_Check_l2 K17 s i m 0 (mput nm ⟨-1, m.Name⟩ true) nu = _ := g2
        rw [itT (by simp; omega), idx_of rfl hil, sb, hc, hmes, sb]
        dsimp only
        rw [itF (show ((0 : Int) != 0) = false from rfl), g2', sb]
        dsimp only
        rw [wrap_i64 (by omega)]
        rfl
      rw [schema_Check_l1_inl hstep]
      simp only []
      rw [← htk]
      refine ih (i + 1) nm' nu' hd' (by omega) ⟨fun n => ?_, fun n => ?_, fun n => ?_, fun j n hj => g3.later j n (by omega), fun j n hj => g3.laterU j n (by omega)⟩
      · rw [htk]; exact g3.mes n
      · rw [g3.later (i + 1) n (by omega)]; rfl
      · rw [g3.laterU (i + 1) n (by omega)]; rfl
theorem check_is {s : List Mes} (hw : WS s) : schema_Check s = some (⟨(checkS s).1, (checkS s).2.1, (checkS s).2.2⟩, if (checkS s).2.2 = 0 then 0 else 9) := by
  unfold schema_Check checkS
  by_cases h : s.length = 0 ∨ 100 < s.length
  · rw [itT (by simp; omega), if_pos h]
    rfl
  · rw [itF (by simp; omega), if_neg h, kall_is, sb]
    have hl := check_l1 hw s 0 [] [] rfl (by omega) ⟨fun n => rfl, fun n => rfl, fun n => rfl, fun j n _ => rfl, fun j n _ => rfl⟩
    simp only [List.take_zero] at hl
    have hl' : schema_Check_l1 [1, 2, 3, 4, 5, 6, 7, 8, 9, 10, 11, 12, 13, 14, 15, 16, 17] s 0 [] [] = _ := hl
    rw [hl', sb]
    cases hc : chkF s.length [] s with
    | none => rfl
    | some q =>
      obtain ⟨i, k, w⟩ := q
      have := chk_pos _ _ _ _ _ _ hc
      simp only
      rw [if_neg (by omega)]
theorem right_is {s : List Mes} (hw : WS s) : schema_Right s = some (rightS s) := by
  unfold schema_Right rightS
  rw [check_is hw, sb]
  by_cases h : (checkS s).2.2 = 0 <;> simp [h]
theorem alive7_is : darninglaw07_alive = some true := by
  unfold darninglaw07_alive
  rw [right_is (by refine ⟨by simp, fun m hm => ?_⟩; simp at hm; subst hm; simp), right_is ⟨by simp, fun m hm => by simp at hm⟩]
  rfl
end Go.Proofs.Ytnchbppkppbflaa
namespace Go.Proofs.Ytnchbppkppbflaa
open Go
set_option linter.unusedVariables false
theorem before_trans {κ : Int → Int} {a b c : Int} (h : before κ a b) (k : before κ b c) : before κ a c := by unfold before at *; omega
abbrev Srt (κ : Int → Int) (l : List Int) : Prop := l.Pairwise (before κ)
def Ahead (κ : Int → Int) (X Y : List Int) : Prop := ∀ x ∈ X, ∀ y ∈ Y, before κ x y
def Older (κ : Int → Int) (X Y : List Int) : Prop := ∀ x ∈ X, ∀ y ∈ Y, x ≠ y ∧ (κ x = κ y → x < y)
theorem older_lt {κ : Int → Int} {X Y : List Int} (h : Older κ X Y) {x y : Int} (hx : x ∈ X) (hy : y ∈ Y) : (κ y < κ x ↔ before κ y x) ∧ (¬ κ y < κ x ↔ before κ x y) := by
  obtain ⟨h1, h2⟩ := h x hx y hy
  unfold before
  omega
theorem srt_append {κ : Int → Int} {X Y : List Int} : Srt κ (X ++ Y) ↔ Srt κ X ∧ Srt κ Y ∧ Ahead κ X Y := List.pairwise_append
def Pl (m : Mes) (l : List Int) : Prop := ∀ x ∈ l, 0 ≤ x ∧ x < (m.Fields.length : Int)
theorem sortedCmp_is {m : Mes} {x y : Int} (hx : 0 ≤ x ∧ x < (m.Fields.length : Int)) (hy : 0 ≤ y ∧ y < (m.Fields.length : Int)) : ∃ c, schema_Sorted_1 x y m = some c ∧ decide (c < 0) = decide (keyOf m x < keyOf m y) := by
  obtain ⟨a, rfl⟩ := Int.eq_ofNat_of_zero_le hx.1
  obtain ⟨b, rfl⟩ := Int.eq_ofNat_of_zero_le hy.1
  have ha : a < m.Fields.length := by omega
  have hb : b < m.Fields.length := by omega
  unfold schema_Sorted_1
  rw [idx_of rfl ha, sb, idx_of rfl hb, sb]
  have e1 : keyOf m (a : Int) = m.Fields[a].Number := by unfold keyOf; simp [List.getD, ha]
  have e2 : keyOf m (b : Int) = m.Fields[b].Number := by unfold keyOf; simp [List.getD, hb]
  unfold cmp_Compare_int_ cmp_isNaN_int_
  rw [e1, e2, sb, sb, itF (by simp), itF (by simp)]
  by_cases h1 : m.Fields[a].Number < m.Fields[b].Number
  · rw [itT (by simpa using h1)]; exact ⟨-1, rfl, by simp [h1]⟩
  · rw [itF (by simpa using h1)]
    by_cases h2 : m.Fields[a].Number > m.Fields[b].Number
    · rw [itT (by simpa using h2)]; exact ⟨1, rfl, by simp [h1]⟩
    · rw [itF (by simpa using h2)]; exact ⟨0, rfl, by simp [h1]⟩
theorem idx_mid {α : Type} (A : List α) (x : α) (B : List α) {i : Int} (h : i = (A.length : Int)) : idx (A ++ x :: B) i = some x := by
  subst h
  unfold idx
  simp
theorem set_mid {α : Type} (A : List α) (x y : α) (B : List α) {i : Nat} (h : i = A.length) : (A ++ x :: B).set i y = A ++ y :: B := by
  subst h
  simp
theorem swap_mid {α : Type} (A : List α) (u : α) (B : List α) (v : α) (C : List α) {i j : Nat} (hi : i = A.length) (hj : j = A.length + 1 + B.length) : ((A ++ u :: (B ++ v :: C)).set i v).set j u = A ++ v :: (B ++ u :: C) := by
  rw [set_mid A u v _ hi]
  have e : A ++ v :: (B ++ v :: C) = (A ++ v :: B) ++ v :: C := by simp
  rw [e, set_mid _ v u _ (by simp; omega)]
  simp
theorem half {i j : Nat} (h : i + j ≤ 4398046511104) : IntKind.i64.wrap (shrI .u64 (IntKind.u64.wrap (IntKind.i64.wrap ((i : Int) + (j : Int)))) 1) = (((i + j) / 2 : Nat) : Int) := by
  have h0 : IntKind.i64.wrap ((i : Int) + (j : Int)) = ((i + j : Nat) : Int) := by rw [wrap_i64 (by omega)]; push_cast; rfl
  have h1 : IntKind.u64.wrap ((i + j : Nat) : Int) = ((i + j : Nat) : Int) := by
    unfold IntKind.wrap
    simp [IntKind.signed, IntKind.bits]
    omega
  have h2 : shrI .u64 ((i + j : Nat) : Int) 1 = (((i + j) / 2 : Nat) : Int) := by
    unfold shrI
    have e : min (Int.toNat 1) IntKind.u64.bits = 1 := by decide
    rw [e, Int.fdiv_eq_ediv_of_nonneg _ (by decide)]
    omega
  rw [h0, h1, h2, wrap_i64 (by omega)]
theorem halving {F : Int → Int → Option Int} {lo hi : Nat} (c : Nat → Bool) (hend : ∀ i : Nat, F i i = some (i : Int))
    (hstep : ∀ i j : Nat, lo ≤ i → i < j → j ≤ hi → F i j = if c ((i + j) / 2) = true then F (((i + j) / 2 + 1 : Nat) : Int) j else F i (((i + j) / 2 : Nat) : Int)) :
    ∀ (d i j : Nat), j - i ≤ d → lo ≤ i → i ≤ j → j ≤ hi → (i = lo ∨ c (i - 1) = true) → (j = hi ∨ c j = false) → ∃ s : Nat, F i j = some (s : Int) ∧ lo ≤ s ∧ s ≤ hi ∧ (s = lo ∨ c (s - 1) = true) ∧ (s = hi ∨ c s = false) := by
  intro d
  induction d with
  | zero =>
    intro i j hd h1 h2 h3 h4 h5
    have : j = i := by omega
    subst this
    exact ⟨j, hend j, h1, h3, h4, h5⟩
  | succ d ih =>
    intro i j hd h1 h2 h3 h4 h5
    rcases Nat.lt_or_ge i j with hij | hij
    · rw [hstep i j h1 hij h3]
      by_cases hc : c ((i + j) / 2) = true
      · rw [if_pos hc]
        exact ih _ j (by omega) (by omega) (by omega) h3 (.inr (by simpa using hc)) h5
      · rw [if_neg hc]
        exact ih i _ (by omega) h1 (by omega) (by omega) h4 (.inr (by simpa using hc))
    · have : j = i := by omega
      subst this
      exact ⟨j, hend j, h1, h3, h4, h5⟩
theorem halving' {F : Int → Int → Option Int} {lo hi : Nat} (h : lo ≤ hi) (c : Nat → Bool) (hend : ∀ i : Nat, F i i = some (i : Int))
    (hstep : ∀ i j : Nat, lo ≤ i → i < j → j ≤ hi → F i j = if c ((i + j) / 2) = true then F (((i + j) / 2 + 1 : Nat) : Int) j else F i (((i + j) / 2 : Nat) : Int)) :
    ∃ s : Nat, F lo hi = some (s : Int) ∧ lo ≤ s ∧ s ≤ hi ∧ (s = lo ∨ c (s - 1) = true) ∧ (s = hi ∨ c s = false) :=
  halving c hend hstep (hi - lo) lo hi (Nat.le_refl _) (Nat.le_refl _) h (Nat.le_refl _) (.inl rfl) (.inl rfl)
section
variable {m : Mes}
theorem ins_l2 (P T : List Int) (x : Int) : ∀ (k : Nat) (Z1 Z2 : List Int), Z1.length = k → (P ++ Z1 ++ x :: (Z2 ++ T)).length ≤ 1099511627776 → Pl m (x :: Z1) → Srt (keyOf m) (Z1 ++ Z2) → Older (keyOf m) Z1 [x] → Ahead (keyOf m) [x] Z2 →
    ∃ Z', slices_insertionSortCmpFunc_int___schema_Sorted_1_l2 (P.length : Int) m (P ++ Z1 ++ x :: (Z2 ++ T)) ((P.length + k : Nat) : Int) = some (P ++ Z' ++ T) ∧ Z'.Perm (x :: (Z1 ++ Z2)) ∧ Srt (keyOf m) Z' := by
  intro k
  induction k with
  | zero =>
    intro Z1 Z2 hk hlen hp hs ho ha
    have : Z1 = [] := List.eq_nil_of_length_eq_zero hk
    subst this
    refine ⟨x :: Z2, ?_, List.Perm.refl _, List.pairwise_cons.2 ⟨fun y hy => ha x (by simp) y hy, by simpa using hs⟩⟩
    refine (slices_insertionSortCmpFunc_int___schema_Sorted_1_l2_inr (oo_ := P ++ x :: (Z2 ++ T)) ?_).trans ?_
    · unfold slices_insertionSortCmpFunc_int___schema_Sorted_1_b2
      rw [itF (by simp), sb, itF rfl]
      simp
    · simp
  | succ k ih =>
    intro Z1 Z2 hk hlen hp hs ho ha
    obtain ⟨Z0, y, rfl⟩ : ∃ Z0 y, Z1 = Z0 ++ [y] := ⟨Z1.dropLast, Z1.getLast (by intro e; rw [e] at hk; simp at hk), (List.dropLast_concat_getLast _).symm⟩
    have hk0 : Z0.length = k := by simpa using hk
    have e : P ++ (Z0 ++ [y]) ++ x :: (Z2 ++ T) = (P ++ Z0) ++ y :: ([] ++ x :: (Z2 ++ T)) := by simp
    have hl1 : (P ++ Z0).length = P.length + k := by simp [hk0]
    have hlen2 : P.length + k + 1 ≤ 1099511627776 := by simp at hlen; omega
    have i1 : idx ((P ++ Z0) ++ y :: ([] ++ x :: (Z2 ++ T))) ((P.length + (k + 1) : Nat) : Int) = some x := by
      have e2 : (P ++ Z0) ++ y :: ([] ++ x :: (Z2 ++ T)) = (P ++ Z0 ++ [y]) ++ x :: (Z2 ++ T) := by simp
      rw [e2]; exact idx_mid _ _ _ (by simp [hk0] <;> omega)
    have i0 : idx ((P ++ Z0) ++ y :: ([] ++ x :: (Z2 ++ T))) (((P.length + (k + 1) : Nat) : Int) - 1) = some y := idx_mid _ _ _ (by rw [hl1]; omega)
    have wj : IntKind.i64.wrap (((P.length + (k + 1) : Nat) : Int) - 1) = ((P.length + (k + 1) : Nat) : Int) - 1 := wrap_i64 (by omega)
    obtain ⟨c, hc1, hc2⟩ := sortedCmp_is (m := m) (hp x (by simp)) (hp y (by simp))
    have hold := older_lt ho (x := y) (y := x) (by simp) (by simp)
    rw [e]
    by_cases hlt : keyOf m x < keyOf m y
    · have hb := hold.1.1 hlt
      have hswap : (((P ++ Z0) ++ y :: ([] ++ x :: (Z2 ++ T))).set (P.length + (k + 1)) y).set (P.length + k) x = P ++ Z0 ++ x :: ((y :: Z2) ++ T) := by
        rw [List.set_comm _ _ (by omega), swap_mid (P ++ Z0) y [] x (Z2 ++ T) hl1.symm (by rw [hl1]; rfl)]
        simp
      have hstep : slices_insertionSortCmpFunc_int___schema_Sorted_1_b2 (P.length : Int) m ((P ++ Z0) ++ y :: ([] ++ x :: (Z2 ++ T))) ((P.length + (k + 1) : Nat) : Int) = some (.inl (P ++ Z0 ++ x :: ((y :: Z2) ++ T), ((P.length + k : Nat) : Int))) := by
        unfold slices_insertionSortCmpFunc_int___schema_Sorted_1_b2
        rw [itT (by simp; omega), i1, sb, wj, i0, sb, hc1, sb, sb, hc2, itT (decide_eq_true hlt), sb, sb, sb]
        have i2 : idx (((P ++ Z0) ++ y :: ([] ++ x :: (Z2 ++ T))).set (Int.toNat ((P.length + (k + 1) : Nat) : Int)) y) (((P.length + (k + 1) : Nat) : Int) - 1) = some y := by
          rw [Int.toNat_natCast]
          have e3 : ((P ++ Z0) ++ y :: ([] ++ x :: (Z2 ++ T))).set (P.length + (k + 1)) y = (P ++ Z0) ++ y :: (y :: (Z2 ++ T)) := by
            have e2 : (P ++ Z0) ++ y :: ([] ++ x :: (Z2 ++ T)) = (P ++ Z0 ++ [y]) ++ x :: (Z2 ++ T) := by simp
            rw [e2, set_mid _ _ _ _ (by simp [hk0] <;> omega)]
            simp
          rw [e3]
          exact idx_mid _ _ _ (by rw [hl1]; omega)
        rw [sb, i2, sb, Int.toNat_natCast]
        have e4 : Int.toNat (((P.length + (k + 1) : Nat) : Int) - 1) = P.length + k := by omega
        rw [e4, hswap]
        congr 3
        omega
      rw [slices_insertionSortCmpFunc_int___schema_Sorted_1_l2_inl hstep]
      obtain ⟨Z', g1, g2, g3⟩ := ih Z0 (y :: Z2) hk0 (by simp at hlen ⊢; omega) (fun z hz => hp z (by simp at hz ⊢; rcases hz with h | h <;> simp [h])) (by simpa using hs) (fun u hu v hv => ho u (by simp [hu]) v hv)
        (fun u hu v hv => by
          simp at hu; subst hu
          rcases List.mem_cons.1 hv with rfl | hv
          · exact hb
          · exact ha u (by simp) v hv)
      exact ⟨Z', g1, g2.trans (by simp), g3⟩
    · have hb := hold.2.1 hlt
      refine ⟨Z0 ++ [y] ++ x :: Z2, ?_, ?_, ?_⟩
      · refine (slices_insertionSortCmpFunc_int___schema_Sorted_1_l2_inr (oo_ := (P ++ Z0) ++ y :: ([] ++ x :: (Z2 ++ T))) ?_).trans (by simp)
        unfold slices_insertionSortCmpFunc_int___schema_Sorted_1_b2
        rw [itT (by simp; omega), i1, sb, wj, i0, sb, hc1, sb, sb, hc2, itF (decide_eq_false hlt)]
      · exact List.perm_middle
      · obtain ⟨s1, s2, s3⟩ := srt_append.1 hs
        refine srt_append.2 ⟨s1, List.pairwise_cons.2 ⟨fun z hz => ha x (by simp) z hz, s2⟩, fun u hu v hv => ?_⟩
        rcases List.mem_cons.1 hv with rfl | hv
        · rcases List.mem_append.1 hu with hu | hu
          · have := (srt_append.1 s1).2.2 u hu y (by simp)
            exact before_trans this hb
          · simp at hu; subst hu; exact hb
        · exact s3 u hu v hv
abbrev Inc (l : List Int) : Prop := l.Pairwise (· < ·)
theorem ins_l1 (P T : List Int) : ∀ (Y Z : List Int), (P ++ Z ++ Y ++ T).length ≤ 1099511627776 → Pl m (Z ++ Y) → Srt (keyOf m) Z → Inc Y → (∀ z ∈ Z, ∀ y ∈ Y, z < y) →
    ∃ Z', slices_insertionSortCmpFunc_int___schema_Sorted_1_l1 (P.length : Int) ((P.length + Z.length + Y.length : Nat) : Int) m (P ++ Z ++ Y ++ T) ((P.length + Z.length : Nat) : Int) = some (P ++ Z' ++ T) ∧ Z'.Perm (Z ++ Y) ∧ Srt (keyOf m) Z' := by
  intro Y
  induction Y with
  | nil =>
    intro Z hlen hp hs hi ho
    refine ⟨Z, slices_insertionSortCmpFunc_int___schema_Sorted_1_l1_inr ?_, by simp, hs⟩
    unfold slices_insertionSortCmpFunc_int___schema_Sorted_1_b1
    rw [itF (by simp)]
    simp
  | cons y Y ih =>
    intro Z hlen hp hs hi ho
    have e : P ++ Z ++ (y :: Y) ++ T = P ++ Z ++ y :: ([] ++ (Y ++ T)) := by simp
    obtain ⟨Z', g1, g2, g3⟩ := ins_l2 (m := m) P (Y ++ T) y Z.length Z [] rfl (by simp at hlen ⊢; omega) (fun z hz => hp z (by simp at hz ⊢; rcases hz with h | h <;> simp [h])) (by simpa using hs)
      (fun u hu v hv => by simp at hv; subst hv; have := ho u hu v (by simp); exact ⟨by omega, fun _ => this⟩) (fun u hu v hv => by simp at hv)
    have hl : Z'.length = Z.length + 1 := by simpa using g2.length_eq
    have hmem : ∀ z ∈ Z', z = y ∨ z ∈ Z := fun z hz => by simpa using g2.subset hz
    obtain ⟨W, h1, h2, h3⟩ := ih Z' (by simp [hl] at hlen ⊢; omega) (fun z hz => by
        rcases List.mem_append.1 hz with hz | hz
        · rcases hmem z hz with rfl | hz
          · exact hp z (by simp)
          · exact hp z (by simp [hz])
        · exact hp z (by simp [hz])) g3 (List.pairwise_cons.1 hi).2 (fun z hz v hv => by
        rcases hmem z hz with rfl | hz
        · exact (List.pairwise_cons.1 hi).1 v hv
        · exact ho z hz v (by simp [hv]))
    refine ⟨W, ?_, h2.trans ?_, h3⟩
    · have hb : slices_insertionSortCmpFunc_int___schema_Sorted_1_b1 (P.length : Int) ((P.length + Z.length + (y :: Y).length : Nat) : Int) m (P ++ Z ++ (y :: Y) ++ T) ((P.length + Z.length : Nat) : Int) = some (.inl (P ++ Z' ++ (Y ++ T), ((P.length + Z.length + 1 : Nat) : Int))) := by
        unfold slices_insertionSortCmpFunc_int___schema_Sorted_1_b1
        rw [itT (by simp; omega), e, g1, sb, wrap_i64 (by simp at hlen; omega)]
        rfl
      rw [slices_insertionSortCmpFunc_int___schema_Sorted_1_l1_inl hb]
      have e2 : P.length + Z'.length = P.length + Z.length + 1 := by omega
      have e3 : P.length + Z'.length + Y.length = P.length + Z.length + (y :: Y).length := by simp; omega
      rw [e2] at h1
      rw [show P.length + Z.length + 1 + Y.length = P.length + Z.length + (y :: Y).length by simp; omega, List.append_assoc (P ++ Z')] at h1
      exact h1
    · refine (g2.append_right Y).trans ?_
      simp only [List.append_nil, List.cons_append]
      exact List.perm_middle.symm
theorem ins_is (P X T : List Int) (hlen : (P ++ X ++ T).length ≤ 1099511627776) (hp : Pl m X) (hi : Inc X) :
    ∃ Z', slices_insertionSortCmpFunc_int___schema_Sorted_1 (P ++ X ++ T) (P.length : Int) ((P.length + X.length : Nat) : Int) m = some (P ++ Z' ++ T) ∧ Z'.Perm X ∧ Srt (keyOf m) Z' := by
  unfold slices_insertionSortCmpFunc_int___schema_Sorted_1
  cases X with
  | nil =>
    refine ⟨[], ?_, List.Perm.refl _, List.Pairwise.nil⟩
    have hb : slices_insertionSortCmpFunc_int___schema_Sorted_1_l1 (P.length : Int) ((P.length + ([] : List Int).length : Nat) : Int) m (P ++ [] ++ T) (IntKind.i64.wrap ((P.length : Int) + 1)) = some (P ++ [] ++ T) := by
      refine slices_insertionSortCmpFunc_int___schema_Sorted_1_l1_inr ?_
      unfold slices_insertionSortCmpFunc_int___schema_Sorted_1_b1
      rw [wrap_i64 (by simp at hlen; omega), itF (by simp; omega)]
    rw [hb]; rfl
  | cons x X =>
    have h := ins_l1 (m := m) P T X [x] (by simp at hlen ⊢; omega) (by simpa using hp) (List.pairwise_singleton _ _) (List.pairwise_cons.1 hi).2 (fun z hz y hy => by simp at hz; subst hz; exact (List.pairwise_cons.1 hi).1 y hy)
    obtain ⟨Z', g1, g2, g3⟩ := h
    refine ⟨Z', ?_, by simpa using g2, g3⟩
    have e1 : P ++ [x] ++ X ++ T = P ++ x :: X ++ T := by simp
    have e2 : P.length + [x].length + X.length = P.length + (x :: X).length := by simp; omega
    rw [e1, e2] at g1
    rw [wrap_i64 (by simp at hlen; omega)]
    have e3 : ((P.length : Int) + 1) = ((P.length + [x].length : Nat) : Int) := by simp
    rw [e3, g1]
    rfl
theorem swap_l1 (A M B : List Int) : ∀ (d : Nat) (U1 V1 U2 V2 : List Int), U2.length = d → V2.length = d → U1.length = V1.length → (A ++ V1 ++ U2 ++ M ++ U1 ++ V2 ++ B).length ≤ 1099511627776 →
    slices_swapRangeCmpFunc_int___schema_Sorted_1_l1 (A.length : Int) ((A.length + (V1.length + d) + M.length : Nat) : Int) ((V1.length + d : Nat) : Int) (A ++ V1 ++ U2 ++ M ++ U1 ++ V2 ++ B) (V1.length : Int) = some (A ++ V1 ++ V2 ++ M ++ U1 ++ U2 ++ B) := by
  intro d
  induction d with
  | zero =>
    intro U1 V1 U2 V2 h1 h2 h3 hlen
    have e1 : U2 = [] := List.eq_nil_of_length_eq_zero h1
    have e2 : V2 = [] := List.eq_nil_of_length_eq_zero h2
    subst e1 e2
    refine slices_swapRangeCmpFunc_int___schema_Sorted_1_l1_inr ?_
    unfold slices_swapRangeCmpFunc_int___schema_Sorted_1_b1
    rw [itF (by simp)]
  | succ d ih =>
    intro U1 V1 U2 V2 h1 h2 h3 hlen
    obtain ⟨u, U2, rfl⟩ : ∃ u U, U2 = u :: U := by cases U2 with | nil => simp at h1 | cons u U => exact ⟨u, U, rfl⟩
    obtain ⟨v, V2, rfl⟩ : ∃ v V, V2 = v :: V := by cases V2 with | nil => simp at h2 | cons v V => exact ⟨v, V, rfl⟩
    simp only [List.length_cons, Nat.add_right_cancel_iff] at h1 h2
    have hl : A.length + V1.length + (d + 1) + M.length + V1.length + (d + 1) + B.length ≤ 1099511627776 := by simp [h1, h2, h3] at hlen; omega
    have e : A ++ V1 ++ (u :: U2) ++ M ++ U1 ++ (v :: V2) ++ B = (A ++ V1) ++ u :: ((U2 ++ M ++ U1) ++ v :: (V2 ++ B)) := by simp
    have e' : A ++ V1 ++ (u :: U2) ++ M ++ U1 ++ (v :: V2) ++ B = ((A ++ V1) ++ u :: (U2 ++ M ++ U1)) ++ v :: (V2 ++ B) := by simp
    have wa : IntKind.i64.wrap ((A.length : Int) + (V1.length : Int)) = ((A.length + V1.length : Nat) : Int) := by rw [wrap_i64 (by omega)]; push_cast; rfl
    have wb : IntKind.i64.wrap (((A.length + (V1.length + (d + 1)) + M.length : Nat) : Int) + (V1.length : Int)) = ((A.length + (V1.length + (d + 1)) + M.length + V1.length : Nat) : Int) := by rw [wrap_i64 (by omega)]; push_cast; rfl
    have ia : idx (A ++ V1 ++ (u :: U2) ++ M ++ U1 ++ (v :: V2) ++ B) ((A.length + V1.length : Nat) : Int) = some u := by rw [e]; exact idx_mid _ _ _ (by simp <;> omega)
    have ib : idx (A ++ V1 ++ (u :: U2) ++ M ++ U1 ++ (v :: V2) ++ B) ((A.length + (V1.length + (d + 1)) + M.length + V1.length : Nat) : Int) = some v := by rw [e']; exact idx_mid _ _ _ (by simp [h1, h3]; omega)
    have hset : (A ++ V1 ++ (u :: U2) ++ M ++ U1 ++ (v :: V2) ++ B).set (A.length + V1.length) v = ((A ++ V1) ++ v :: (U2 ++ M ++ U1)) ++ v :: (V2 ++ B) := by
      rw [e, set_mid _ _ _ _ (by simp <;> omega)]; simp
    have ic : idx ((A ++ V1 ++ (u :: U2) ++ M ++ U1 ++ (v :: V2) ++ B).set (A.length + V1.length) v) ((A.length + (V1.length + (d + 1)) + M.length + V1.length : Nat) : Int) = some v := by rw [hset]; exact idx_mid _ _ _ (by simp [h1, h3]; omega)
    have hfin : ((A ++ V1 ++ (u :: U2) ++ M ++ U1 ++ (v :: V2) ++ B).set (A.length + V1.length) v).set (A.length + (V1.length + (d + 1)) + M.length + V1.length) u = A ++ (V1 ++ [v]) ++ U2 ++ M ++ (U1 ++ [u]) ++ V2 ++ B := by
      rw [hset, set_mid _ _ _ _ (by simp [h1, h3]; omega)]; simp
    have hb : slices_swapRangeCmpFunc_int___schema_Sorted_1_b1 (A.length : Int) ((A.length + (V1.length + (d + 1)) + M.length : Nat) : Int) ((V1.length + (d + 1) : Nat) : Int) (A ++ V1 ++ (u :: U2) ++ M ++ U1 ++ (v :: V2) ++ B) (V1.length : Int) = some (.inl (A ++ (V1 ++ [v]) ++ U2 ++ M ++ (U1 ++ [u]) ++ V2 ++ B, (((V1 ++ [v]).length : Nat) : Int))) := by
      unfold slices_swapRangeCmpFunc_int___schema_Sorted_1_b1
      rw [itT (by simp; omega), wa, wb, ib, sb, ia, sb, sb, sb, Int.toNat_natCast, Int.toNat_natCast, ic, sb, hfin, wrap_i64 (by omega)]
      simp
    rw [slices_swapRangeCmpFunc_int___schema_Sorted_1_l1_inl hb]
    have := ih (U1 ++ [u]) (V1 ++ [v]) U2 V2 h1 h2 (by simp [h3]) (by simp [h1, h2, h3]; omega)
    have q1 : A.length + ((V1 ++ [v]).length + d) + M.length = A.length + (V1.length + (d + 1)) + M.length := by simp; omega
    have q2 : (V1 ++ [v]).length + d = V1.length + (d + 1) := by simp; omega
    rw [q1, q2] at this
    rw [this]
    simp
theorem swap_is (A U M V B : List Int) (h : U.length = V.length) (hlen : (A ++ U ++ M ++ V ++ B).length ≤ 1099511627776) {a b n : Int} (ha : a = (A.length : Int)) (hb : b = ((A.length + U.length + M.length : Nat) : Int)) (hn : n = (U.length : Int)) :
    slices_swapRangeCmpFunc_int___schema_Sorted_1 (A ++ U ++ M ++ V ++ B) a b n m = some (A ++ V ++ M ++ U ++ B) := by
  subst ha hb hn
  unfold slices_swapRangeCmpFunc_int___schema_Sorted_1
  have := swap_l1 A M B U.length [] [] U V rfl h.symm rfl (by simpa using hlen)
  simp only [List.length_nil, Nat.zero_add, List.append_nil] at this
  have this' : slices_swapRangeCmpFunc_int___schema_Sorted_1_l1 (A.length : Int) ((A.length + U.length + M.length : Nat) : Int) (U.length : Int) (A ++ U ++ M ++ V ++ B) 0 = _ := this
  rw [this']
  rfl
theorem rot_l1 (fin : List Int) {mm : Nat} : ∀ (k : Nat) (P U V Q : List Int), U.length + V.length ≤ k → 0 < U.length → 0 < V.length → mm = P.length + U.length → (P ++ U ++ V ++ Q).length ≤ 1099511627776 → P ++ V ++ U ++ Q = fin →
    ∃ P' U' V' Q', slices_rotateCmpFunc_int___schema_Sorted_1_l1 (mm : Int) m (P ++ U ++ V ++ Q) (U.length : Int) (V.length : Int) = some (P' ++ U' ++ V' ++ Q', (U'.length : Int)) ∧ U'.length = V'.length ∧ mm = P'.length + U'.length ∧ P' ++ V' ++ U' ++ Q' = fin ∧ (P' ++ U' ++ V' ++ Q').length ≤ 1099511627776 := by
  intro k
  induction k with
  | zero => intro P U V Q h1 h2 h3; omega
  | succ k ih =>
    intro P U V Q h1 h2 h3 h4 hlen hf
    have hl : P.length + U.length + V.length + Q.length ≤ 1099511627776 := by simpa [Nat.add_assoc] using hlen
    rcases Nat.lt_trichotomy U.length V.length with hlt | heq | hgt
    · -- the right one is longer
      obtain ⟨V1, V2, rfl, hV⟩ : ∃ V1 V2, V = V1 ++ V2 ∧ V2.length = U.length := ⟨V.take (V.length - U.length), V.drop (V.length - U.length), (List.take_append_drop _ _).symm, by simp; omega⟩
      have hV1 : V1.length = (V1 ++ V2).length - U.length := by simp; omega
      have hsw := swap_is (m := m) P U V1 V2 Q hV.symm (by simpa [Nat.add_assoc] using hlen) (a := (mm : Int) - (U.length : Int)) (b := (mm : Int) + ((V1 ++ V2).length : Int) - (U.length : Int)) (n := (U.length : Int)) (by omega) (by simp at hV1 ⊢; omega) rfl
      have hb : slices_rotateCmpFunc_int___schema_Sorted_1_b1 (mm : Int) m (P ++ U ++ (V1 ++ V2) ++ Q) (U.length : Int) ((V1 ++ V2).length : Int) = some (.inl (P ++ V2 ++ V1 ++ (U ++ Q), (V2.length : Int), (V1.length : Int))) := by
        unfold slices_rotateCmpFunc_int___schema_Sorted_1_b1
        rw [itT (by simp at hlt ⊢; omega), itF (by simp at hlt ⊢; omega), wrap_i64 (x := (mm : Int) - (U.length : Int)) (by omega), wrap_i64 (x := (mm : Int) + ((V1 ++ V2).length : Int)) (by simp at hl ⊢; omega), wrap_i64 (x := (mm : Int) + ((V1 ++ V2).length : Int) - (U.length : Int)) (by simp at hl ⊢; omega)]
        have e : P ++ U ++ (V1 ++ V2) ++ Q = P ++ U ++ V1 ++ V2 ++ Q := by simp
        rw [e, hsw, sb, wrap_i64 (by simp at hl ⊢; omega)]
        congr 2
        refine Prod.ext (by simp) (Prod.ext (by simp [hV]) (by simp at hV1 ⊢; omega))
      rw [slices_rotateCmpFunc_int___schema_Sorted_1_l1_inl hb]
      exact ih P V2 V1 (U ++ Q) (by simp at h1 ⊢; omega) (by omega) (by simp at hlt; omega) (by omega) (by simp at hl ⊢; omega) (by rw [← hf]; simp)
    · refine ⟨P, U, V, Q, slices_rotateCmpFunc_int___schema_Sorted_1_l1_inr ?_, heq, h4, hf, hlen⟩
      unfold slices_rotateCmpFunc_int___schema_Sorted_1_b1
      rw [itF (by simp [heq])]
    · obtain ⟨U1, U2, rfl, hU⟩ : ∃ U1 U2, U = U1 ++ U2 ∧ U1.length = V.length := ⟨U.take V.length, U.drop V.length, (List.take_append_drop _ _).symm, by simp; omega⟩
      have hsw := swap_is (m := m) P U1 U2 V Q hU (by simpa [Nat.add_assoc] using hlen) (a := (mm : Int) - ((U1 ++ U2).length : Int)) (b := (mm : Int)) (n := (V.length : Int)) (by omega) (by simp at h4 ⊢; omega) (by rw [hU])
      have hb : slices_rotateCmpFunc_int___schema_Sorted_1_b1 (mm : Int) m (P ++ (U1 ++ U2) ++ V ++ Q) ((U1 ++ U2).length : Int) (V.length : Int) = some (.inl ((P ++ V) ++ U2 ++ U1 ++ Q, (U2.length : Int), (U1.length : Int))) := by
        unfold slices_rotateCmpFunc_int___schema_Sorted_1_b1
        rw [itT (by simp at hgt ⊢; omega), itT (by simp at hgt ⊢; omega), wrap_i64 (x := (mm : Int) - ((U1 ++ U2).length : Int)) (by simp at hl h4 ⊢; omega)]
        have e : P ++ (U1 ++ U2) ++ V ++ Q = P ++ U1 ++ U2 ++ V ++ Q := by simp
        rw [e, hsw, sb, wrap_i64 (by simp at hl ⊢; omega)]
        congr 2
        refine Prod.ext (by simp) (Prod.ext (by simp [hU]; omega) (by simp [hU]))
      rw [slices_rotateCmpFunc_int___schema_Sorted_1_l1_inl hb]
      exact ih (P ++ V) U2 U1 Q (by simp at h1 ⊢; omega) (by simp at hgt; omega) (by omega) (by simp at h4 ⊢; omega) (by simp at hl ⊢; omega) (by rw [← hf]; simp)
theorem rot_is (P U V Q : List Int) (hU : 0 < U.length) (hV : 0 < V.length) (hlen : (P ++ U ++ V ++ Q).length ≤ 1099511627776) {a mm b : Int} (ha : a = (P.length : Int)) (hm : mm = ((P.length + U.length : Nat) : Int)) (hb : b = ((P.length + U.length + V.length : Nat) : Int)) :
    slices_rotateCmpFunc_int___schema_Sorted_1 (P ++ U ++ V ++ Q) a mm b m = some (P ++ V ++ U ++ Q) := by
  subst ha hm hb
  have hl : P.length + U.length + V.length + Q.length ≤ 1099511627776 := by simpa [Nat.add_assoc] using hlen
  unfold slices_rotateCmpFunc_int___schema_Sorted_1
  obtain ⟨P', U', V', Q', g1, g2, g3, g4, g5⟩ := rot_l1 (m := m) (P ++ V ++ U ++ Q) (mm := P.length + U.length) (U.length + V.length) P U V Q (Nat.le_refl _) hU hV rfl hlen rfl
  have e1 : IntKind.i64.wrap (((P.length + U.length : Nat) : Int) - (P.length : Int)) = (U.length : Int) := by rw [wrap_i64 (by omega)]; omega
  have e2 : IntKind.i64.wrap (((P.length + U.length + V.length : Nat) : Int) - ((P.length + U.length : Nat) : Int)) = (V.length : Int) := by rw [wrap_i64 (by omega)]; omega
  rw [e1, e2, g1, sb]
  dsimp only
  have hl' : P'.length + U'.length + V'.length + Q'.length ≤ 1099511627776 := by simpa [Nat.add_assoc] using g5
  rw [wrap_i64 (by omega)]
  have e : P' ++ U' ++ V' ++ Q' = P' ++ U' ++ [] ++ V' ++ Q' := by simp
  rw [e, swap_is (m := m) P' U' [] V' Q' g2 (by simpa [Nat.add_assoc] using g5) (by omega) (by simp; omega) rfl, sb, ← g4]
  simp
theorem idx_at {α : Type} {D : List α} {i : Nat} {x : α} (h : D[i]? = some x) {j : Int} (hj : j = (i : Int)) : idx D j = some x := by
  subst hj
  unfold idx
  rw [if_pos (by omega)]
  simpa using h
theorem shift_l2 (P T : List Int) (x : Int) : ∀ (Y Y0 : List Int), (P ++ Y0 ++ x :: (Y ++ T)).length ≤ 1099511627776 → ∀ {q k : Int}, q = ((P.length + Y0.length + Y.length + 1 : Nat) : Int) → k = ((P.length + Y0.length : Nat) : Int) →
    slices_symMergeCmpFunc_int___schema_Sorted_1_l2 q (P ++ Y0 ++ x :: (Y ++ T)) k = some (P ++ Y0 ++ Y ++ x :: T) := by
  intro Y
  induction Y with
  | nil =>
    intro Y0 hlen q k hq hk
    subst hq hk
    refine slices_symMergeCmpFunc_int___schema_Sorted_1_l2_inr ?_
    unfold slices_symMergeCmpFunc_int___schema_Sorted_1_b2
    rw [wrap_i64 (by simp at hlen ⊢; omega), itF (by simp)]
    simp
  | cons y Y ih =>
    intro Y0 hlen q k hq hk
    have hl : P.length + Y0.length + Y.length + T.length + 2 ≤ 1099511627776 := by simp at hlen; omega
    have e : P ++ Y0 ++ x :: ((y :: Y) ++ T) = (P ++ Y0) ++ x :: ([] ++ y :: (Y ++ T)) := by simp
    have e' : P ++ Y0 ++ x :: ((y :: Y) ++ T) = (P ++ Y0 ++ [x]) ++ y :: (Y ++ T) := by simp
    have wk : IntKind.i64.wrap (k + 1) = ((P.length + Y0.length + 1 : Nat) : Int) := by rw [wrap_i64 (by omega)]; omega
    have i0 : idx (P ++ Y0 ++ x :: ((y :: Y) ++ T)) k = some x := by rw [e]; exact idx_mid _ _ _ (by simp; omega)
    have i1 : idx (P ++ Y0 ++ x :: ((y :: Y) ++ T)) ((P.length + Y0.length + 1 : Nat) : Int) = some y := by rw [e']; exact idx_mid _ _ _ (by simp <;> omega)
    have tk : Int.toNat k = P.length + Y0.length := by omega
    have hset : (P ++ Y0 ++ x :: ((y :: Y) ++ T)).set (P.length + Y0.length) y = (P ++ Y0 ++ [y]) ++ y :: (Y ++ T) := by rw [e, set_mid _ _ _ _ (by simp <;> omega)]; simp
    have i2 : idx ((P ++ Y0 ++ x :: ((y :: Y) ++ T)).set (P.length + Y0.length) y) ((P.length + Y0.length + 1 : Nat) : Int) = some y := by rw [hset]; exact idx_mid _ _ _ (by simp <;> omega)
    have hfin : ((P ++ Y0 ++ x :: ((y :: Y) ++ T)).set (P.length + Y0.length) y).set (P.length + Y0.length + 1) x = P ++ (Y0 ++ [y]) ++ x :: (Y ++ T) := by rw [hset, set_mid _ _ _ _ (by simp <;> omega)]; simp
    have hb : slices_symMergeCmpFunc_int___schema_Sorted_1_b2 q (P ++ Y0 ++ x :: ((y :: Y) ++ T)) k = some (.inl (P ++ (Y0 ++ [y]) ++ x :: (Y ++ T), ((P.length + Y0.length + 1 : Nat) : Int))) := by
      unfold slices_symMergeCmpFunc_int___schema_Sorted_1_b2
      rw [wrap_i64 (x := q - 1) (by simp at hq; omega), itT (by simp at hq ⊢; omega), wk, i1, sb, i0, sb, sb, sb, tk, i2, sb, Int.toNat_natCast, hfin]
    rw [slices_symMergeCmpFunc_int___schema_Sorted_1_l2_inl hb, ih (Y0 ++ [y]) (by simp; omega) (by rw [hq]; simp; omega) (by simp; omega)]
    simp
theorem shift_l4 (P T : List Int) (y : Int) : ∀ (n : Nat) (X X0 : List Int), X.length = n → (P ++ X ++ y :: (X0 ++ T)).length ≤ 1099511627776 → ∀ {q k : Int}, q = (P.length : Int) → k = ((P.length + n : Nat) : Int) →
    slices_symMergeCmpFunc_int___schema_Sorted_1_l4 q (P ++ X ++ y :: (X0 ++ T)) k = some (P ++ y :: (X ++ X0 ++ T)) := by
  intro n
  induction n with
  | zero =>
    intro X X0 hn hlen q k hq hk
    have : X = [] := List.eq_nil_of_length_eq_zero hn
    subst this hq hk
    refine slices_symMergeCmpFunc_int___schema_Sorted_1_l4_inr ?_
    unfold slices_symMergeCmpFunc_int___schema_Sorted_1_b4
    rw [itF (by simp)]
    simp
  | succ n ih =>
    intro X X0 hn hlen q k hq hk
    obtain ⟨X1, x, rfl⟩ : ∃ Z0 y, X = Z0 ++ [y] := ⟨X.dropLast, X.getLast (by intro e; rw [e] at hn; simp at hn), (List.dropLast_concat_getLast _).symm⟩
    have hn1 : X1.length = n := by simpa using hn
    have hl : P.length + n + X0.length + T.length + 2 ≤ 1099511627776 := by simp [hn1] at hlen; omega
    have e : P ++ (X1 ++ [x]) ++ y :: (X0 ++ T) = (P ++ X1) ++ x :: ([] ++ y :: (X0 ++ T)) := by simp
    have e' : P ++ (X1 ++ [x]) ++ y :: (X0 ++ T) = (P ++ X1 ++ [x]) ++ y :: (X0 ++ T) := by simp
    have wk : IntKind.i64.wrap (k - 1) = ((P.length + n : Nat) : Int) := by rw [wrap_i64 (by omega)]; omega
    have i0 : idx (P ++ (X1 ++ [x]) ++ y :: (X0 ++ T)) ((P.length + n : Nat) : Int) = some x := by rw [e]; exact idx_mid _ _ _ (by simp [hn1] <;> omega)
    have i1 : idx (P ++ (X1 ++ [x]) ++ y :: (X0 ++ T)) k = some y := by rw [e']; exact idx_mid _ _ _ (by simp [hn1]; omega)
    have tk : Int.toNat k = P.length + n + 1 := by omega
    have hset : (P ++ (X1 ++ [x]) ++ y :: (X0 ++ T)).set (P.length + n + 1) x = (P ++ X1) ++ x :: (x :: (X0 ++ T)) := by rw [e', set_mid _ _ _ _ (by simp [hn1] <;> omega)]; simp
    have i2 : idx ((P ++ (X1 ++ [x]) ++ y :: (X0 ++ T)).set (P.length + n + 1) x) ((P.length + n : Nat) : Int) = some x := by rw [hset]; exact idx_mid _ _ _ (by simp [hn1] <;> omega)
    have hfin : ((P ++ (X1 ++ [x]) ++ y :: (X0 ++ T)).set (P.length + n + 1) x).set (P.length + n) y = P ++ X1 ++ y :: ((x :: X0) ++ T) := by rw [hset, set_mid _ _ _ _ (by simp [hn1] <;> omega)]; simp
    have hb : slices_symMergeCmpFunc_int___schema_Sorted_1_b4 q (P ++ (X1 ++ [x]) ++ y :: (X0 ++ T)) k = some (.inl (P ++ X1 ++ y :: ((x :: X0) ++ T), ((P.length + n : Nat) : Int))) := by
      unfold slices_symMergeCmpFunc_int___schema_Sorted_1_b4
      rw [itT (by simp; omega), wk, i0, sb, i1, sb, sb, sb, tk, i2, sb, Int.toNat_natCast, hfin]
    rw [slices_symMergeCmpFunc_int___schema_Sorted_1_l4_inl hb, ih X1 (x :: X0) hn1 (by simp [hn1]; omega) hq rfl]
    simp
theorem get_X (P X Y Q : List Int) (i : Nat) (h : i < X.length) : (P ++ X ++ Y ++ Q)[P.length + i]? = some X[i] := by
  rw [List.getElem?_append_left (by simp; omega), List.getElem?_append_left (by simp; omega), List.getElem?_append_right (by omega)]
  simp [h]
theorem get_Y (P X Y Q : List Int) (i : Nat) (h : i < Y.length) : (P ++ X ++ Y ++ Q)[P.length + X.length + i]? = some Y[i] := by
  rw [List.getElem?_append_left (by simp; omega), List.getElem?_append_right (by simp)]
  simp [h]
theorem srt_split {κ : Int → Int} {l : List Int} (h : Srt κ l) {i : Nat} (hi : i < l.length) : Ahead κ (l.take i) [l[i]] ∧ Ahead κ [l[i]] (l.drop (i + 1)) := by
  have h' : Srt κ (l.take i ++ l[i] :: l.drop (i + 1)) := by rw [← List.drop_eq_getElem_cons hi, List.take_append_drop]; exact h
  obtain ⟨h1, h2, h3⟩ := srt_append.1 h'
  exact ⟨fun x hx y hy => by simp at hy; subst hy; exact h3 x hx _ List.mem_cons_self, fun x hx y hy => by simp at hx; subst hx; exact (List.pairwise_cons.1 h2).1 y hy⟩
theorem take_before {κ : Int → Int} {l : List Int} (h : Srt κ l) {i : Nat} {z : Int} (hi : i ≤ l.length) (hz : ∀ (h0 : 0 < i), before κ (l[i - 1]'(by omega)) z) : ∀ x ∈ l.take i, before κ x z := by
  intro x hx
  rcases Nat.eq_zero_or_pos i with rfl | h0
  · simp at hx
  · have hlt : i - 1 < l.length := by omega
    have e : l.take i = l.take (i - 1) ++ [l[i - 1]] := by
      have := List.take_succ_eq_append_getElem hlt
      rwa [show i - 1 + 1 = i by omega] at this
    rw [e] at hx
    rcases List.mem_append.1 hx with hx | hx
    · exact before_trans ((srt_split h hlt).1 x hx _ (by simp)) (hz h0)
    · simp at hx; subst hx; exact hz h0
theorem drop_before {κ : Int → Int} {l : List Int} (h : Srt κ l) {i : Nat} {z : Int} (hz : ∀ (h0 : i < l.length), before κ z l[i]) : ∀ x ∈ l.drop i, before κ z x := by
  intro x hx
  rcases Nat.lt_or_ge i l.length with h0 | h0
  · rw [List.drop_eq_getElem_cons h0] at hx
    rcases List.mem_cons.1 hx with rfl | hx
    · exact hz h0
    · exact before_trans (hz h0) ((srt_split h h0).2 _ (by simp) x hx)
  · rw [List.drop_eq_nil_of_le h0] at hx; cases hx
theorem find_l1 (P Y Q : List Int) (x : Int) (hlen : (P ++ [x] ++ Y ++ Q).length ≤ 1099511627776) (hp : Pl m ([x] ++ Y)) {a mm b : Int} (ha : a = (P.length : Int)) (hm : mm = ((P.length + 1 : Nat) : Int)) (hb : b = ((P.length + 1 + Y.length : Nat) : Int)) :
    ∃ s : Nat, slices_symMergeCmpFunc_int___schema_Sorted_1_l1 a (P ++ [x] ++ Y ++ Q) m mm b = some ((P.length + 1 + s : Nat) : Int) ∧ s ≤ Y.length ∧ (∀ (h : 0 < s) (h2 : s ≤ Y.length), keyOf m (Y[s - 1]'(by omega)) < keyOf m x) ∧ (∀ h : s < Y.length, ¬ keyOf m Y[s] < keyOf m x) := by
  subst ha hm hb
  have hl : P.length + Y.length + Q.length + 1 ≤ 1099511627776 := by simp at hlen; omega
  have gx : (P ++ [x] ++ Y ++ Q)[P.length]? = some x := get_X P [x] Y Q 0 (by simp)
  have hx := hp x (by simp)
  obtain ⟨s, h1, h2, h3, h4, h5⟩ := halving' (F := fun i j => slices_symMergeCmpFunc_int___schema_Sorted_1_l1 (P.length : Int) (P ++ [x] ++ Y ++ Q) m i j) (lo := P.length + 1) (hi := P.length + 1 + Y.length) (by omega)
    (fun i => match (P ++ [x] ++ Y ++ Q)[i]? with | some y => decide (keyOf m y < keyOf m x) | none => false)
    (fun i => slices_symMergeCmpFunc_int___schema_Sorted_1_l1_inr (by unfold slices_symMergeCmpFunc_int___schema_Sorted_1_b1; rw [itF (by simp)]))
    (fun i j hi hij hj => by
      have hc : (i + j) / 2 - (P.length + 1) < Y.length := by omega
      have gy := get_Y P [x] Y Q ((i + j) / 2 - (P.length + 1)) hc
      rw [show P.length + [x].length + ((i + j) / 2 - (P.length + 1)) = (i + j) / 2 by simp; omega] at gy
      have hy := hp _ (List.mem_append_right [x] (List.getElem_mem hc))
      obtain ⟨c, c1, c2⟩ := sortedCmp_is hy hx
      rw [gy]
      dsimp only
      by_cases hk : keyOf m Y[(i + j) / 2 - (P.length + 1)] < keyOf m x
      · rw [if_pos (by simpa using hk)]
        refine slices_symMergeCmpFunc_int___schema_Sorted_1_l1_inl ?_
        unfold slices_symMergeCmpFunc_int___schema_Sorted_1_b1
        rw [itT (by simp; omega), half (by omega), idx_at gy rfl, sb, idx_at gx rfl, sb, c1, sb, itT (by rw [c2]; exact decide_eq_true hk), wrap_i64 (by omega)]
        rfl
      · rw [if_neg (by simpa using hk)]
        refine slices_symMergeCmpFunc_int___schema_Sorted_1_l1_inl ?_
        unfold slices_symMergeCmpFunc_int___schema_Sorted_1_b1
        rw [itT (by simp; omega), half (by omega), idx_at gy rfl, sb, idx_at gx rfl, sb, c1, sb, itF (by rw [c2]; exact decide_eq_false hk)])
  obtain ⟨t, rfl⟩ : ∃ t, s = P.length + 1 + t := ⟨s - (P.length + 1), by omega⟩
  refine ⟨t, h1, by omega, fun h0 h02 => ?_, fun h0 => ?_⟩
  · rcases h4 with h4 | h4
    · omega
    · have gy := get_Y P [x] Y Q (t - 1) (by omega)
      rw [show P.length + [x].length + (t - 1) = P.length + 1 + t - 1 by simp; omega] at gy
      rw [gy] at h4
      simpa using h4
  · rcases h5 with h5 | h5
    · omega
    · have gy := get_Y P [x] Y Q t h0
      rw [show P.length + [x].length + t = P.length + 1 + t by simp] at gy
      rw [gy] at h5
      simpa using h5
theorem find_l3 (P X Q : List Int) (y : Int) (hlen : (P ++ X ++ [y] ++ Q).length ≤ 1099511627776) (hp : Pl m (X ++ [y])) {a mm : Int} (ha : a = (P.length : Int)) (hm : mm = ((P.length + X.length : Nat) : Int)) :
    ∃ s : Nat, slices_symMergeCmpFunc_int___schema_Sorted_1_l3 (P ++ X ++ [y] ++ Q) mm m a mm = some ((P.length + s : Nat) : Int) ∧ s ≤ X.length ∧ (∀ (h : 0 < s) (h2 : s ≤ X.length), ¬ keyOf m y < keyOf m (X[s - 1]'(by omega))) ∧ (∀ h : s < X.length, keyOf m y < keyOf m X[s]) := by
  subst ha hm
  have hl : P.length + X.length + Q.length + 1 ≤ 1099511627776 := by simp at hlen; omega
  have gy : (P ++ X ++ [y] ++ Q)[P.length + X.length]? = some y := get_Y P X [y] Q 0 (by simp)
  have hy := hp y (by simp)
  obtain ⟨s, h1, h2, h3, h4, h5⟩ := halving' (F := fun i j => slices_symMergeCmpFunc_int___schema_Sorted_1_l3 (P ++ X ++ [y] ++ Q) ((P.length + X.length : Nat) : Int) m i j) (lo := P.length) (hi := P.length + X.length) (by omega)
    (fun i => match (P ++ X ++ [y] ++ Q)[i]? with | some x => !decide (keyOf m y < keyOf m x) | none => false)
    (fun i => slices_symMergeCmpFunc_int___schema_Sorted_1_l3_inr (by unfold slices_symMergeCmpFunc_int___schema_Sorted_1_b3; rw [itF (by simp)]))
    (fun i j hi hij hj => by
      have hc : (i + j) / 2 - P.length < X.length := by omega
      have gx := get_X P X [y] Q ((i + j) / 2 - P.length) hc
      rw [show P.length + ((i + j) / 2 - P.length) = (i + j) / 2 by omega] at gx
      have hx := hp _ (List.mem_append_left [y] (List.getElem_mem hc))
      obtain ⟨c, c1, c2⟩ := sortedCmp_is hy hx
      rw [gx]
      dsimp only
      by_cases hk : keyOf m y < keyOf m X[(i + j) / 2 - P.length]
      · rw [if_neg (by simpa using hk)]
        refine slices_symMergeCmpFunc_int___schema_Sorted_1_l3_inl ?_
        unfold slices_symMergeCmpFunc_int___schema_Sorted_1_b3
        rw [itT (by simp; omega), half (by omega), idx_at gy rfl, sb, idx_at gx rfl, sb, c1, sb, itF (by rw [c2, decide_eq_true hk]; rfl)]
      · rw [if_pos (by simpa using hk)]
        refine slices_symMergeCmpFunc_int___schema_Sorted_1_l3_inl ?_
        unfold slices_symMergeCmpFunc_int___schema_Sorted_1_b3
        rw [itT (by simp; omega), half (by omega), idx_at gy rfl, sb, idx_at gx rfl, sb, c1, sb, itT (by rw [c2, decide_eq_false hk]; rfl), wrap_i64 (by omega)]
        rfl)
  obtain ⟨t, rfl⟩ : ∃ t, s = P.length + t := ⟨s - P.length, by omega⟩
  refine ⟨t, h1, by omega, fun h0 h02 => ?_, fun h0 => ?_⟩
  · rcases h4 with h4 | h4
    · omega
    · have gx := get_X P X [y] Q (t - 1) (by omega)
      rw [show P.length + (t - 1) = P.length + t - 1 by omega] at gx
      rw [gx] at h4
      simpa using h4
  · rcases h5 with h5 | h5
    · omega
    · have gx := get_X P X [y] Q t h0
      rw [gx] at h5
      simpa using h5
theorem find_l5 (P X Y Q : List Int) (hlen : (P ++ X ++ Y ++ Q).length ≤ 1099511627776) (hp : Pl m (X ++ Y)) {mid lo hi : Nat} (hmid : mid = (P.length + (P.length + X.length + Y.length)) / 2) (hlo : P.length ≤ lo) (hlh : lo ≤ hi) (hhi : hi ≤ P.length + X.length)
    (hr : ∀ h, lo ≤ h → h < hi → h < mid ∧ mid + (P.length + X.length) - 1 - h < P.length + X.length + Y.length) {a mm b : Int} (ha : a = (P.length : Int)) (hm : mm = ((P.length + X.length : Nat) : Int)) (hb : b = ((P.length + X.length + Y.length : Nat) : Int)) :
    ∃ s : Nat, slices_symMergeCmpFunc_int___schema_Sorted_1_l5 a b (P ++ X ++ Y ++ Q) mm m lo hi = some (s : Int) ∧ lo ≤ s ∧ s ≤ hi ∧ (∀ (h : lo < s) x y, X[s - 1 - P.length]? = some x → Y[mid - s]? = some y → ¬ keyOf m y < keyOf m x) ∧
      (∀ (h : s < hi) x y, X[s - P.length]? = some x → Y[mid - 1 - s]? = some y → keyOf m y < keyOf m x) := by
  subst ha hm hb
  have hl : P.length + X.length + Y.length + Q.length ≤ 1099511627776 := by simp at hlen; omega
  have at2 : ∀ h, lo ≤ h → h < hi → ∃ x y, X[h - P.length]? = some x ∧ Y[mid - 1 - h]? = some y ∧ (P ++ X ++ Y ++ Q)[h]? = some x ∧ (P ++ X ++ Y ++ Q)[mid + (P.length + X.length) - 1 - h]? = some y := fun h h1 h2 => by
    obtain ⟨r1, r2⟩ := hr h h1 h2
    have q1 : h - P.length < X.length := by omega
    have q2 : mid - 1 - h < Y.length := by omega
    have gx := get_X P X Y Q _ q1
    have gy := get_Y P X Y Q _ q2
    rw [show P.length + (h - P.length) = h by omega] at gx
    rw [show P.length + X.length + (mid - 1 - h) = mid + (P.length + X.length) - 1 - h by omega] at gy
    exact ⟨_, _, List.getElem?_eq_getElem q1, List.getElem?_eq_getElem q2, gx, gy⟩
  have hmidI : IntKind.i64.wrap (shrI .u64 (IntKind.u64.wrap (IntKind.i64.wrap ((P.length : Int) + ((P.length + X.length + Y.length : Nat) : Int)))) 1) = (mid : Int) := by rw [half (by omega), hmid]
  obtain ⟨s, h1, h2, h3, h4, h5⟩ := halving' (F := fun i j => slices_symMergeCmpFunc_int___schema_Sorted_1_l5 (P.length : Int) ((P.length + X.length + Y.length : Nat) : Int) (P ++ X ++ Y ++ Q) ((P.length + X.length : Nat) : Int) m i j) (lo := lo) (hi := hi) hlh
    (fun i => match (P ++ X ++ Y ++ Q)[i]?, (P ++ X ++ Y ++ Q)[mid + (P.length + X.length) - 1 - i]? with | some x, some y => !decide (keyOf m y < keyOf m x) | _, _ => false)
    (fun i => slices_symMergeCmpFunc_int___schema_Sorted_1_l5_inr (by unfold slices_symMergeCmpFunc_int___schema_Sorted_1_b5; rw [itF (by simp)]))
    (fun i j hi' hij hj => by
      obtain ⟨x, y, e1, e2, gx, gy⟩ := at2 ((i + j) / 2) (by omega) (by omega)
      obtain ⟨r1, r2⟩ := hr ((i + j) / 2) (by omega) (by omega)
      have hx := hp x (List.mem_append_left _ (List.mem_of_getElem? e1))
      have hy := hp y (List.mem_append_right _ (List.mem_of_getElem? e2))
      obtain ⟨c, c1, c2⟩ := sortedCmp_is hy hx
      have wp : IntKind.i64.wrap ((IntKind.i64.wrap ((IntKind.i64.wrap ((mid : Int) + ((P.length + X.length : Nat) : Int))) - 1)) - (((i + j) / 2 : Nat) : Int)) = ((mid + (P.length + X.length) - 1 - (i + j) / 2 : Nat) : Int) := by
        rw [wrap_i64 (x := (mid : Int) + ((P.length + X.length : Nat) : Int)) (by omega), wrap_i64 (x := (mid : Int) + ((P.length + X.length : Nat) : Int) - 1) (by omega), wrap_i64 (by omega)]
        omega
      rw [gx, gy]
      dsimp only
      by_cases hk : keyOf m y < keyOf m x
      · rw [if_neg (by simpa using hk)]
        refine slices_symMergeCmpFunc_int___schema_Sorted_1_l5_inl ?_
        unfold slices_symMergeCmpFunc_int___schema_Sorted_1_b5
        rw [itT (by simp; omega), hmidI, half (by omega), wp, idx_at gy rfl, sb, idx_at gx rfl, sb, c1, sb, itF (by rw [c2, decide_eq_true hk]; rfl)]
      · rw [if_pos (by simpa using hk)]
        refine slices_symMergeCmpFunc_int___schema_Sorted_1_l5_inl ?_
        unfold slices_symMergeCmpFunc_int___schema_Sorted_1_b5
        rw [itT (by simp; omega), hmidI, half (by omega), wp, idx_at gy rfl, sb, idx_at gx rfl, sb, c1, sb, itT (by rw [c2, decide_eq_false hk]; rfl), wrap_i64 (by omega)]
        rfl)
  refine ⟨s, h1, h2, h3, fun h0 x y ex ey => ?_, fun h0 x y ex ey => ?_⟩
  · rcases h4 with h4 | h4
    · omega
    · obtain ⟨x', y', e1, e2, gx, gy⟩ := at2 (s - 1) (by omega) (by omega)
      obtain ⟨r1, r2⟩ := hr (s - 1) (by omega) (by omega)
      rw [gx, gy] at h4
      rw [show s - 1 - P.length = s - 1 - P.length from rfl, ex] at e1
      rw [show mid - 1 - (s - 1) = mid - s by omega, ey] at e2
      cases e1; cases e2
      simpa using h4
  · rcases h5 with h5 | h5
    · omega
    · obtain ⟨x', y', e1, e2, gx, gy⟩ := at2 s (by omega) (by omega)
      rw [gx, gy] at h5
      rw [ex] at e1
      rw [ey] at e2
      cases e1; cases e2
      simpa using h5
theorem older_sub {κ : Int → Int} {X Y X' Y' : List Int} (h : Older κ X Y) (hx : ∀ x ∈ X', x ∈ X) (hy : ∀ y ∈ Y', y ∈ Y) : Older κ X' Y' := fun x h1 y h2 => h x (hx x h1) y (hy y h2)
theorem ahead_perm {κ : Int → Int} {X Y X' Y' : List Int} (h : Ahead κ X Y) (hx : X'.Perm X) (hy : Y'.Perm Y) : Ahead κ X' Y' := fun x h1 y h2 => h x (hx.subset h1) y (hy.subset h2)
set_option maxHeartbeats 2000000 in
theorem sym_is : ∀ (fuel : Nat) (P X Y Q : List Int), 0 < X.length → 0 < Y.length → X.length + Y.length ≤ fuel → (P ++ X ++ Y ++ Q).length ≤ 1099511627776 → Pl m (X ++ Y) → Srt (keyOf m) X → Srt (keyOf m) Y → Older (keyOf m) X Y →
    ∀ {a mm b : Int}, a = (P.length : Int) → mm = ((P.length + X.length : Nat) : Int) → b = ((P.length + X.length + Y.length : Nat) : Int) →
      ∃ Z, slices_symMergeCmpFunc_int___schema_Sorted_1 fuel (P ++ X ++ Y ++ Q) a mm b m = some (P ++ Z ++ Q) ∧ Z.Perm (X ++ Y) ∧ Srt (keyOf m) Z := by
  intro fuel
  induction fuel with
  | zero => intro P X Y Q h1 h2 h3; omega
  | succ fuel ih =>
    intro P X Y Q hX hY hf hlen hp hsX hsY ho a mm b ha hm hb
    have hl : P.length + X.length + Y.length + Q.length ≤ 1099511627776 := by simp at hlen; omega
    rw [slices_symMergeCmpFunc_int___schema_Sorted_1]
    unfold slices_symMergeCmpFunc_int___schema_Sorted_1_f
    by_cases h1 : X.length = 1
    · -- one on the left
      obtain ⟨x, rfl⟩ : ∃ x, X = [x] := List.length_eq_one_iff.1 h1
      rw [itT (by rw [wrap_i64 (by omega)]; simp at hm ⊢; omega)]
      obtain ⟨s, g1, g2, g3, g4⟩ := find_l1 (m := m) P Y Q x hlen hp ha (by simpa using hm) (by simpa using hb)
      have hsh := shift_l2 P (Y.drop s ++ Q) x (Y.take s) [] (by simp; omega) (q := ((P.length + 1 + s : Nat) : Int)) (k := a) (by simp; omega) (by simpa using ha)
      have e : P ++ [x] ++ Y ++ Q = P ++ [] ++ x :: (Y.take s ++ (Y.drop s ++ Q)) := by rw [← List.append_assoc (Y.take s), List.take_append_drop]; simp
      rw [g1, sb, e, hsh, sb]
      refine ⟨Y.take s ++ x :: Y.drop s, by simp, ?_, ?_⟩
      · refine List.perm_middle.trans ?_
        rw [List.take_append_drop]; simp
      · refine srt_append.2 ⟨hsY.sublist (List.take_sublist _ _), List.pairwise_cons.2 ⟨?_, hsY.sublist (List.drop_sublist _ _)⟩, ?_⟩
        · exact drop_before hsY fun h0 => (older_lt ho (x := x) (y := Y[s]) (by simp) (List.getElem_mem h0)).2.1 (g4 h0)
        · have hx1 : ∀ y ∈ Y.take s, before (keyOf m) y x := take_before hsY g2 fun h0 => (older_lt ho (x := x) (y := Y[s - 1]'(by omega)) (by simp) (List.getElem_mem _)).1.1 (g3 h0 g2)
          intro y hy z hz
          rcases List.mem_cons.1 hz with rfl | hz
          · exact hx1 y hy
          · have hs' : Srt (keyOf m) (Y.take s ++ Y.drop s) := by rw [List.take_append_drop]; exact hsY
            exact (srt_append.1 hs').2.2 y hy z hz
    rw [itF (by rw [wrap_i64 (by omega)]; simp; omega)]
    by_cases h2 : Y.length = 1
    · -- one on the right
      obtain ⟨y, rfl⟩ : ∃ y, Y = [y] := List.length_eq_one_iff.1 h2
      rw [itT (by rw [wrap_i64 (by simp at hb; omega)]; simp at hb ⊢; omega)]
      obtain ⟨s, g1, g2, g3, g4⟩ := find_l3 (m := m) P X Q y hlen hp ha hm
      have hsh := shift_l4 (P ++ X.take s) Q y (X.drop s).length (X.drop s) [] rfl (by simp; omega) (q := ((P.length + s : Nat) : Int)) (k := mm) (by simp; omega) (by simp; omega)
      have e : P ++ X ++ [y] ++ Q = (P ++ X.take s) ++ X.drop s ++ y :: ([] ++ Q) := by rw [List.append_assoc P (X.take s) (X.drop s), List.take_append_drop]; simp
      rw [g1, sb, e, hsh, sb]
      refine ⟨X.take s ++ y :: X.drop s, by simp, ?_, ?_⟩
      · refine List.perm_middle.trans ?_
        rw [List.take_append_drop]
        exact List.perm_append_comm (l₁ := [y])
      · refine srt_append.2 ⟨hsX.sublist (List.take_sublist _ _), List.pairwise_cons.2 ⟨?_, hsX.sublist (List.drop_sublist _ _)⟩, ?_⟩
        · exact drop_before hsX fun h0 => (older_lt ho (x := X[s]) (y := y) (List.getElem_mem h0) (by simp)).1.1 (g4 h0)
        · have hx1 : ∀ x ∈ X.take s, before (keyOf m) x y := take_before hsX g2 fun h0 => (older_lt ho (x := X[s - 1]'(by omega)) (y := y) (List.getElem_mem _) (by simp)).2.1 (g3 h0 g2)
          intro x hx z hz
          rcases List.mem_cons.1 hz with rfl | hz
          · exact hx1 x hx
          · have hs' : Srt (keyOf m) (X.take s ++ X.drop s) := by rw [List.take_append_drop]; exact hsX
            exact (srt_append.1 hs').2.2 x hx z hz
    rw [itF (by rw [wrap_i64 (by omega)]; simp; omega)]
    -- many on both sides
    obtain ⟨mid, hmid⟩ : ∃ mid : Nat, mid = (P.length + (P.length + X.length + Y.length)) / 2 := ⟨_, rfl⟩
    have hmidI : IntKind.i64.wrap (shrI .u64 (IntKind.u64.wrap (IntKind.i64.wrap (a + b))) 1) = (mid : Int) := by rw [ha, hb, half (by omega), hmid]
    rw [hmidI]
    have wn : IntKind.i64.wrap ((mid : Int) + mm) = ((mid + (P.length + X.length) : Nat) : Int) := by rw [wrap_i64 (by omega)]; omega
    rw [wn]
    obtain ⟨lo, hi, hlohi, c1, c2, c3, c4, c5⟩ : ∃ lo hi : Nat, (if decide (mm > (mid : Int)) = true then some (IntKind.i64.wrap (((mid + (P.length + X.length) : Nat) : Int) - b), (mid : Int)) else some (a, mm)) = some ((lo : Int), (hi : Int)) ∧ P.length ≤ lo ∧ lo ≤ hi ∧ hi ≤ P.length + X.length ∧
        (∀ h, lo ≤ h → h < hi → h < mid ∧ mid + (P.length + X.length) - 1 - h < P.length + X.length + Y.length) ∧ (mid + (P.length + X.length) - lo ≤ P.length + X.length + Y.length ∧ (lo = P.length ∨ mid + (P.length + X.length) - lo = P.length + X.length + Y.length) ∧ (hi = P.length + X.length ∨ hi = mid) ∧ hi ≤ mid) := by
      by_cases h3 : mid < P.length + X.length
      · refine ⟨mid + (P.length + X.length) - (P.length + X.length + Y.length), mid, ?_, by omega, by omega, by omega, fun h _ _ => by omega, by omega, by omega, by omega, by omega⟩
        rw [itT (by simp; omega), wrap_i64 (by omega)]
        congr 2
        omega
      · refine ⟨P.length, P.length + X.length, ?_, by omega, by omega, by omega, fun h _ _ => by omega, by omega, .inl rfl, .inl rfl, by omega⟩
        rw [itF (by simp; omega), ha, hm]
    rw [hlohi, sb]
    dsimp only
    obtain ⟨s, g1, g2, g3, g4, g5⟩ := find_l5 (m := m) P X Y Q hlen hp hmid c1 c2 c3 c4 ha hm hb
    rw [g1, sb]
    obtain ⟨k0, k1, k2, k3⟩ := c5
    have hsm : s ≤ mid := by omega
    obtain ⟨en, hen⟩ : ∃ en : Nat, en = mid + (P.length + X.length) - s := ⟨_, rfl⟩
    have wen : IntKind.i64.wrap (((mid + (P.length + X.length) : Nat) : Int) - (s : Int)) = (en : Int) := by rw [wrap_i64 (by omega)]; omega
    rw [wen]
    have henb : P.length + X.length ≤ en ∧ en ≤ P.length + X.length + Y.length := by
      exact ⟨by omega, by omega⟩
    -- the four pieces
    obtain ⟨X1, X2, rfl, hX1⟩ : ∃ X1 X2, X = X1 ++ X2 ∧ X1.length = s - P.length := ⟨X.take (s - P.length), X.drop (s - P.length), (List.take_append_drop _ _).symm, by simp; omega⟩
    obtain ⟨Y1, Y2, rfl, hY1⟩ : ∃ Y1 Y2, Y = Y1 ++ Y2 ∧ Y1.length = mid - s := ⟨Y.take (mid - s), Y.drop (mid - s), (List.take_append_drop _ _).symm, by simp; omega⟩
    simp only [List.length_append] at hX hY hf hl hm hb h1 h2 hmid hen henb k1 k2 c3
    obtain ⟨sX1, sX2, aX⟩ := srt_append.1 hsX
    obtain ⟨sY1, sY2, aY⟩ := srt_append.1 hsY
    have aXY : Ahead (keyOf m) X1 Y2 := by
      intro x hx y hy
      have hx0 : 0 < X1.length := List.length_pos_of_mem hx
      have hy0 : 0 < Y2.length := List.length_pos_of_mem hy
      have hlos : lo < s := by rcases k1 with k1 | k1 <;> omega
      have ex : (X1 ++ X2)[s - 1 - P.length]? = some (X1[X1.length - 1]'(by omega)) := by rw [show s - 1 - P.length = X1.length - 1 by omega, List.getElem?_append_left (by omega), List.getElem?_eq_getElem]
      have ey : (Y1 ++ Y2)[mid - s]? = some (Y2[0]'(by omega)) := by rw [← hY1, List.getElem?_append_right (by omega)]; simp [hy0]
      have hk := (older_lt ho (x := X1[X1.length - 1]'(by omega)) (y := Y2[0]'(by omega)) (by simp) (by simp)).2.1 (g4 hlos _ _ ex ey)
      have q1 : ∀ x ∈ X1.take X1.length, before (keyOf m) x (Y2[0]'(by omega)) := take_before sX1 (Nat.le_refl _) fun _ => hk
      rw [List.take_length] at q1
      have q2 : ∀ y ∈ Y2.drop 0, before (keyOf m) x y := by
        refine drop_before sY2 fun h0 => q1 x hx
      exact q2 y (by simpa using hy)
    have aYX : Ahead (keyOf m) Y1 X2 := by
      intro y hy x hx
      have hy0 : 0 < Y1.length := List.length_pos_of_mem hy
      have hx0 : 0 < X2.length := List.length_pos_of_mem hx
      have hlos : s < hi := by rcases k2 with k2 | k2 <;> omega
      have ex : (X1 ++ X2)[s - P.length]? = some (X2[0]'(by omega)) := by rw [← hX1, List.getElem?_append_right (by omega)]; simp [hx0]
      have ey : (Y1 ++ Y2)[mid - 1 - s]? = some (Y1[Y1.length - 1]'(by omega)) := by rw [show mid - 1 - s = Y1.length - 1 by omega, List.getElem?_append_left (by omega), List.getElem?_eq_getElem]
      have hk := (older_lt ho (x := X2[0]'(by omega)) (y := Y1[Y1.length - 1]'(by omega)) (by simp) (by simp)).1.1 (g5 hlos _ _ ex ey)
      have q1 : ∀ y ∈ Y1.take Y1.length, before (keyOf m) y (X2[0]'(by omega)) := take_before sY1 (Nat.le_refl _) fun _ => hk
      rw [List.take_length] at q1
      have q2 : ∀ x ∈ X2.drop 0, before (keyOf m) y x := by
        refine drop_before sX2 fun h0 => q1 y hy
      exact q2 x (by simpa using hx)
    -- the turn
    have hrot : (if (decide ((s : Int) < mm) && decide (mm < (en : Int))) = true then (slices_rotateCmpFunc_int___schema_Sorted_1 (P ++ (X1 ++ X2) ++ (Y1 ++ Y2) ++ Q) (s : Int) mm (en : Int) m >>= fun rv7 => some rv7) else some (P ++ (X1 ++ X2) ++ (Y1 ++ Y2) ++ Q)) = some (P ++ X1 ++ Y1 ++ (X2 ++ Y2 ++ Q)) := by
      by_cases h3 : 0 < X2.length ∧ 0 < Y1.length
      · rw [itT (by simp; omega)]
        have e : P ++ (X1 ++ X2) ++ (Y1 ++ Y2) ++ Q = (P ++ X1) ++ X2 ++ Y1 ++ (Y2 ++ Q) := by simp
        rw [e, rot_is (m := m) (P ++ X1) X2 Y1 (Y2 ++ Q) h3.1 h3.2 (by simp; omega) (by simp; omega) (by simp; omega) (by simp; omega), sb]
        simp
      · rw [itF (by
          rw [Bool.and_eq_false_iff]
          simp only [decide_eq_false_iff_not]
          omega)]
        rcases Nat.eq_zero_or_pos X2.length with h4 | h4
        · have : X2 = [] := List.eq_nil_of_length_eq_zero h4
          subst this; simp
        · have : Y1 = [] := List.eq_nil_of_length_eq_zero (by omega)
          subst this; simp
    rw [hrot, sb]
    -- the left half
    obtain ⟨Z1, z1, z2, z3⟩ : ∃ Z1, (if (decide (a < (s : Int)) && decide ((s : Int) < (mid : Int))) = true then (slices_symMergeCmpFunc_int___schema_Sorted_1 fuel (P ++ X1 ++ Y1 ++ (X2 ++ Y2 ++ Q)) a (s : Int) (mid : Int) m >>= fun rv9 => some rv9) else some (P ++ X1 ++ Y1 ++ (X2 ++ Y2 ++ Q))) = some (P ++ Z1 ++ (X2 ++ Y2 ++ Q)) ∧ Z1.Perm (X1 ++ Y1) ∧ Srt (keyOf m) Z1 := by
      by_cases h3 : 0 < X1.length ∧ 0 < Y1.length
      · obtain ⟨Z, q1, q2, q3⟩ := ih P X1 Y1 (X2 ++ Y2 ++ Q) h3.1 h3.2 (by omega) (by simp; omega) (fun x hx => hp x (by simp at hx ⊢; rcases hx with h | h <;> simp [h])) sX1 sY1 (older_sub ho (by simp +contextual) (by simp +contextual)) (a := a) (mm := (s : Int)) (b := (mid : Int)) ha (by omega) (by omega)
        exact ⟨Z, by rw [itT (by simp; omega), q1, sb], q2, q3⟩
      · refine ⟨X1 ++ Y1, ?_, List.Perm.refl _, srt_append.2 ⟨sX1, sY1, fun x hx y hy => ?_⟩⟩
        · rw [itF (by
            rw [Bool.and_eq_false_iff]
            simp only [decide_eq_false_iff_not]
            omega)]
          simp
        · have := List.length_pos_of_mem hx
          have := List.length_pos_of_mem hy
          omega
    rw [z1, sb]
    have hz1 : Z1.length = X1.length + Y1.length := by simpa using z2.length_eq
    -- the right half
    have e2 : P ++ Z1 ++ (X2 ++ Y2 ++ Q) = (P ++ Z1) ++ X2 ++ Y2 ++ Q := by simp
    obtain ⟨Z2, w1, w2, w3⟩ : ∃ Z2, (if (decide ((mid : Int) < (en : Int)) && decide ((en : Int) < b)) = true then (slices_symMergeCmpFunc_int___schema_Sorted_1 fuel (P ++ Z1 ++ (X2 ++ Y2 ++ Q)) (mid : Int) (en : Int) b m >>= fun rv11 => some rv11) else some (P ++ Z1 ++ (X2 ++ Y2 ++ Q))) = some (P ++ Z1 ++ Z2 ++ Q) ∧ Z2.Perm (X2 ++ Y2) ∧ Srt (keyOf m) Z2 := by
      by_cases h3 : 0 < X2.length ∧ 0 < Y2.length
      · obtain ⟨Z, q1, q2, q3⟩ := ih (P ++ Z1) X2 Y2 Q h3.1 h3.2 (by omega) (by simp; omega) (fun x hx => hp x (by simp at hx ⊢; rcases hx with h | h <;> simp [h])) sX2 sY2 (older_sub ho (by simp +contextual) (by simp +contextual)) (a := (mid : Int)) (mm := (en : Int)) (b := b) (by simp; omega) (by simp; omega) (by simp; omega)
        exact ⟨Z, by rw [itT (by simp; omega), e2, q1, sb], q2, q3⟩
      · refine ⟨X2 ++ Y2, ?_, List.Perm.refl _, srt_append.2 ⟨sX2, sY2, fun x hx y hy => ?_⟩⟩
        · rw [itF (by
            rw [Bool.and_eq_false_iff]
            simp only [decide_eq_false_iff_not]
            omega)]
          simp
        · have := List.length_pos_of_mem hx
          have := List.length_pos_of_mem hy
          omega
    have aF : Ahead (keyOf m) (X1 ++ Y1) (X2 ++ Y2) := by
      intro x hx y hy
      rcases List.mem_append.1 hx with hx | hx <;> rcases List.mem_append.1 hy with hy | hy
      · exact aX x hx y hy
      · exact aXY x hx y hy
      · exact aYX x hx y hy
      · exact aY x hx y hy
    refine ⟨Z1 ++ Z2, by rw [w1]; simp, ?_, srt_append.2 ⟨z3, w3, ahead_perm aF z2 w2⟩⟩
    refine (z2.append w2).trans ?_
    simp only [List.append_assoc]
    refine List.Perm.append_left X1 ?_
    rw [← List.append_assoc, ← List.append_assoc]
    exact List.Perm.append_right Y2 List.perm_append_comm
end
end Go.Proofs.Ytnchbppkppbflaa
namespace Go.Proofs.Ytnchbppkppbflaa
open Go
set_option linter.unusedVariables false
def rg (lo : Int) (n : Nat) : List Int := (List.range n).map fun i : Nat => lo + (i : Int)
theorem rg_len (lo : Int) (n : Nat) : (rg lo n).length = n := by simp [rg]
theorem rg_mem {lo x : Int} {n : Nat} : x ∈ rg lo n ↔ lo ≤ x ∧ x < lo + (n : Int) := by
  unfold rg
  rw [List.mem_map]
  constructor
  · rintro ⟨i, hi, rfl⟩
    have := List.mem_range.1 hi
    omega
  · rintro ⟨h1, h2⟩
    exact ⟨(x - lo).toNat, List.mem_range.2 (by omega), by omega⟩
theorem rg_inc (lo : Int) (n : Nat) : Inc (rg lo n) := by
  unfold rg Inc
  rw [List.pairwise_map]
  exact List.pairwise_lt_range.imp fun h => by omega
theorem rg_add (lo : Int) (a b : Nat) : rg lo (a + b) = rg lo a ++ rg (lo + (a : Int)) b := by
  unfold rg
  rw [List.range_add, List.map_append, List.map_map]
  congr 1
  refine List.map_congr_left fun i _ => ?_
  simp only [Function.comp_apply]
  omega
theorem rg_succ (lo : Int) (n : Nat) : rg lo (n + 1) = rg lo n ++ [lo + (n : Int)] := by
  rw [rg_add]; simp [rg]
theorem sortS_rg (κ : Int → Int) : ∀ n : Nat, (sortS κ n).Perm (rg 0 n)
  | 0 => List.Perm.refl _
  | n + 1 => by
    rw [sortS, rg_succ]
    refine (insS_perm κ n _).trans ?_
    have h := sortS_rg κ n
    refine (List.Perm.cons _ h).trans ?_
    have e : (0 : Int) + (n : Int) = (n : Int) := by omega
    rw [e]
    exact (List.perm_append_singleton _ _).symm
inductive Bl (κ : Int → Int) (s : Nat) : Int → List Int → Prop
  | blL (lo : Int) (X : List Int) : X.length ≤ s → Srt κ X → (∀ x ∈ X, lo ≤ x ∧ x < lo + (s : Int)) → Bl κ s lo X
  | blC (lo : Int) (X D : List Int) : X.length = s → Srt κ X → (∀ x ∈ X, lo ≤ x ∧ x < lo + (s : Int)) → Bl κ s (lo + (s : Int)) D → Bl κ s lo (X ++ D)
theorem bl_lst {κ : Int → Int} {s : Nat} {lo : Int} {D : List Int} (h : Bl κ s lo D) (hl : D.length ≤ s) : Srt κ D ∧ ∀ x ∈ D, lo ≤ x ∧ x < lo + (s : Int) := by
  cases h with
  | blL _ _ h1 h2 h3 => exact ⟨h2, h3⟩
  | blC _ X D h1 h2 h3 h4 =>
    have : D = [] := List.eq_nil_of_length_eq_zero (by simp at hl; omega)
    subst this
    rw [List.append_nil]
    exact ⟨h2, h3⟩
theorem bl_one {κ : Int → Int} {s : Nat} {lo : Int} {D : List Int} (h : Bl κ s lo D) (hl : s < D.length) : ∃ X E, D = X ++ E ∧ X.length = s ∧ Srt κ X ∧ (∀ x ∈ X, lo ≤ x ∧ x < lo + (s : Int)) ∧ Bl κ s (lo + (s : Int)) E := by
  cases h with
  | blL _ _ h1 h2 h3 => omega
  | blC _ X D h1 h2 h3 h4 => exact ⟨X, D, rfl, h1, h2, h3, h4⟩
theorem bl_two {κ : Int → Int} {s : Nat} {lo : Int} {D : List Int} (h : Bl κ s lo D) (hs : 0 < s) (hl : 2 * s ≤ D.length) : ∃ X Y E, D = X ++ (Y ++ E) ∧ X.length = s ∧ Y.length = s ∧ Srt κ X ∧ Srt κ Y ∧ (∀ x ∈ X, lo ≤ x ∧ x < lo + (s : Int)) ∧ (∀ x ∈ Y, lo + (s : Int) ≤ x ∧ x < lo + (s : Int) + (s : Int)) ∧ Bl κ s (lo + (s : Int) + (s : Int)) E := by
  obtain ⟨X, E, rfl, h1, h2, h3, h4⟩ := bl_one h (by omega)
  rw [List.length_append] at hl
  rcases Nat.lt_or_ge s E.length with h5 | h5
  · obtain ⟨Y, G, rfl, g1, g2, g3, g4⟩ := bl_one h4 h5
    exact ⟨X, Y, G, rfl, h1, g1, h2, g2, h3, g3, g4⟩
  · obtain ⟨g2, g3⟩ := bl_lst h4 h5
    exact ⟨X, E, [], by simp, h1, by omega, h2, g2, h3, g3, .blL _ _ (by simp) List.Pairwise.nil (fun x hx => by simp at hx)⟩
theorem older_of {κ : Int → Int} {X Y : List Int} {c : Int} (hx : ∀ x ∈ X, x < c) (hy : ∀ y ∈ Y, c ≤ y) : Older κ X Y := fun x h1 y h2 => by
  have := hx x h1
  have := hy y h2
  omega
theorem pl_perm {m : Mes} {l k : List Int} (h : Pl m l) (hp : k.Perm l) : Pl m k := fun x hx => h x (hp.subset hx)
section
variable {m : Mes}
theorem st_l1 {n : Nat} (hn : n ≤ 549755813888) : ∀ (d : Nat) (P D : List Int) (lo : Int) (e : Nat), D.length ≤ d → P.length + D.length = n → D = rg lo e → Pl m D →
    ∃ A R lo' e', slices_stableCmpFunc_int___schema_Sorted_1_l1 (n : Int) m (P ++ D) (P.length : Int) ((P.length + 20 : Nat) : Int) = some (P ++ A ++ R, ((P.length + A.length : Nat) : Int)) ∧ R.length < 20 ∧ R = rg lo' e' ∧ (A ++ R).Perm D ∧
      ∀ Z : List Int, Z.length ≤ 20 → Srt (keyOf m) Z → (∀ x ∈ Z, lo' ≤ x ∧ x < lo' + 20) → Bl (keyOf m) 20 lo (A ++ Z) := by
  intro d
  induction d with
  | zero =>
    intro P D lo e hd hlen hD hp
    refine ⟨[], D, lo, e, slices_stableCmpFunc_int___schema_Sorted_1_l1_inr ?_, by omega, hD, List.Perm.refl _, fun Z h1 h2 h3 => .blL _ _ h1 h2 h3⟩
    unfold slices_stableCmpFunc_int___schema_Sorted_1_b1
    rw [itF (by simp; omega)]
    simp
  | succ d ih =>
    intro P D lo e hd hlen hD hp
    rcases Nat.lt_or_ge D.length 20 with h | h
    · refine ⟨[], D, lo, e, slices_stableCmpFunc_int___schema_Sorted_1_l1_inr ?_, h, hD, List.Perm.refl _, fun Z h1 h2 h3 => .blL _ _ h1 h2 h3⟩
      unfold slices_stableCmpFunc_int___schema_Sorted_1_b1
      rw [itF (by simp; omega)]
      simp
    · have he : e = D.length := by rw [hD, rg_len]
      obtain ⟨k, rfl⟩ : ∃ k, e = 20 + k := ⟨e - 20, by omega⟩
      rw [rg_add] at hD
      subst hD
      rw [List.length_append, rg_len, rg_len] at hd hlen
      obtain ⟨Z0, g1, g2, g3⟩ := ins_is (m := m) P (rg lo 20) (rg (lo + ((20 : Nat) : Int)) k) (by simp only [List.length_append, rg_len]; omega) (fun x hx => hp x (by simp [hx])) (rg_inc _ _)
      have hZ0 : Z0.length = 20 := by rw [g2.length_eq, rg_len]
      have hb : slices_stableCmpFunc_int___schema_Sorted_1_b1 (n : Int) m (P ++ (rg lo 20 ++ rg (lo + ((20 : Nat) : Int)) k)) (P.length : Int) ((P.length + 20 : Nat) : Int) = some (.inl (P ++ Z0 ++ rg (lo + ((20 : Nat) : Int)) k, (((P ++ Z0).length : Nat) : Int), (((P ++ Z0).length + 20 : Nat) : Int))) := by
        unfold slices_stableCmpFunc_int___schema_Sorted_1_b1
        rw [rg_len] at g1
        rw [itT (by simp; omega), ← List.append_assoc, g1, sb, wrap_i64 (by omega), List.length_append, hZ0]
        rfl
      rw [slices_stableCmpFunc_int___schema_Sorted_1_l1_inl hb]
      obtain ⟨A, R, lo', e', q1, q2, q3, q4, q5⟩ := ih (P ++ Z0) (rg (lo + ((20 : Nat) : Int)) k) _ k (by rw [rg_len]; omega) (by rw [List.length_append, rg_len, hZ0]; omega) rfl (fun x hx => hp x (List.mem_append_right _ hx))
      refine ⟨Z0 ++ A, R, lo', e', ?_, q2, q3, ?_, fun Z h1 h2 h3 => ?_⟩
      · rw [q1]; simp [Nat.add_assoc]
      · rw [List.append_assoc]; exact g2.append q4
      · rw [List.append_assoc]
        exact .blC _ _ _ hZ0 g3 (fun x hx => rg_mem.1 (g2.subset hx)) (q5 Z h1 h2 h3)
theorem st_l3 {fuel n s : Nat} (hs : 0 < s) (hsn : s ≤ n) (hn : n ≤ 549755813888) (hf : n ≤ fuel) : ∀ (d : Nat) (P D : List Int) (lo : Int), D.length ≤ d → P.length + D.length = n → Bl (keyOf m) s lo D → Pl m D →
    ∃ A R lo', slices_stableCmpFunc_int___schema_Sorted_1_l3 fuel (s : Int) (n : Int) m (P ++ D) (P.length : Int) ((P.length + 2 * s : Nat) : Int) = some (P ++ A ++ R, ((P.length + A.length : Nat) : Int)) ∧ R.length < 2 * s ∧ Bl (keyOf m) s lo' R ∧ (A ++ R).Perm D ∧
      ∀ Z : List Int, Z.length ≤ 2 * s → Srt (keyOf m) Z → (∀ x ∈ Z, lo' ≤ x ∧ x < lo' + ((2 * s : Nat) : Int)) → Bl (keyOf m) (2 * s) lo (A ++ Z) := by
  intro d
  induction d with
  | zero =>
    intro P D lo hd hlen hD hp
    refine ⟨[], D, lo, slices_stableCmpFunc_int___schema_Sorted_1_l3_inr ?_, by omega, hD, List.Perm.refl _, fun Z h1 h2 h3 => .blL _ _ h1 h2 h3⟩
    unfold slices_stableCmpFunc_int___schema_Sorted_1_b3
    rw [itF (by simp; omega)]
    simp
  | succ d ih =>
    intro P D lo hd hlen hD hp
    rcases Nat.lt_or_ge D.length (2 * s) with h | h
    · refine ⟨[], D, lo, slices_stableCmpFunc_int___schema_Sorted_1_l3_inr ?_, h, hD, List.Perm.refl _, fun Z h1 h2 h3 => .blL _ _ h1 h2 h3⟩
      unfold slices_stableCmpFunc_int___schema_Sorted_1_b3
      rw [itF (by simp; omega)]
      simp
    · obtain ⟨X, Y, E, rfl, hX, hY, sX, sY, mX, mY, hE⟩ := bl_two hD hs h
      simp only [List.length_append] at hd hlen
      obtain ⟨Z0, g1, g2, g3⟩ := sym_is (m := m) fuel P X Y E (by omega) (by omega) (by omega) (by simp only [List.length_append]; omega) (fun x hx => hp x (by rcases List.mem_append.1 hx with q | q <;> simp [q])) sX sY (older_of (c := lo + (s : Int)) (fun x hx => (mX x hx).2) (fun y hy => (mY y hy).1)) (a := (P.length : Int)) (mm := (P.length : Int) + (s : Int)) (b := ((P.length + 2 * s : Nat) : Int)) rfl (by omega) (by omega)
      have hZ0 : Z0.length = 2 * s := by rw [g2.length_eq, List.length_append]; omega
      have hb : slices_stableCmpFunc_int___schema_Sorted_1_b3 fuel (s : Int) (n : Int) m (P ++ (X ++ (Y ++ E))) (P.length : Int) ((P.length + 2 * s : Nat) : Int) = some (.inl (P ++ Z0 ++ E, (((P ++ Z0).length : Nat) : Int), (((P ++ Z0).length + 2 * s : Nat) : Int))) := by
        unfold slices_stableCmpFunc_int___schema_Sorted_1_b3
        have e1 : P ++ (X ++ (Y ++ E)) = P ++ X ++ Y ++ E := by simp
        rw [itT (by simp; omega), e1, wrap_i64 (x := (P.length : Int) + (s : Int)) (by omega), g1, sb, wrap_i64 (x := 2 * (s : Int)) (by omega), wrap_i64 (by omega), List.length_append, hZ0]
        congr 3
      rw [slices_stableCmpFunc_int___schema_Sorted_1_l3_inl hb]
      obtain ⟨A, R, lo', q1, q2, q3, q4, q5⟩ := ih (P ++ Z0) E _ (by omega) (by rw [List.length_append, hZ0]; omega) hE (fun x hx => hp x (by simp [hx]))
      refine ⟨Z0 ++ A, R, lo', ?_, q2, q3, ?_, fun Z h1 h2 h3 => ?_⟩
      · rw [q1]; simp [Nat.add_assoc]
      · rw [List.append_assoc, ← List.append_assoc X]; exact g2.append q4
      · rw [List.append_assoc]
        have e2 : lo + ((2 * s : Nat) : Int) = lo + (s : Int) + (s : Int) := by omega
        refine .blC _ _ _ hZ0 g3 (fun x hx => ?_) (by rw [e2]; exact q5 Z h1 h2 h3)
        rcases List.mem_append.1 (g2.subset hx) with q | q
        · have := mX x q; omega
        · have := mY x q; omega
theorem st_b2 {fuel n s : Nat} (hs : 0 < s) (hsn : s < n) (hn : n ≤ 549755813888) (hf : n ≤ fuel) {D : List Int} (hlen : D.length = n) (hD : Bl (keyOf m) s 0 D) (hp : Pl m D) :
    ∃ E, slices_stableCmpFunc_int___schema_Sorted_1_b2 fuel (n : Int) m D (s : Int) = some (.inl (E, ((2 * s : Nat) : Int))) ∧ Bl (keyOf m) (2 * s) 0 E ∧ E.Perm D := by
  obtain ⟨A, R, lo', q1, q2, q3, q4, q5⟩ := st_l3 (m := m) hs (by omega) hn hf D.length [] D 0 (Nat.le_refl _) (by simpa using hlen) hD hp
  have hAR : A.length + R.length = n := by rw [← hlen, ← q4.length_eq, List.length_append]
  have q1' : slices_stableCmpFunc_int___schema_Sorted_1_l3 fuel (s : Int) (n : Int) m D 0 ((2 * s : Nat) : Int) = some (A ++ R, (A.length : Int)) := by simpa using q1
  have e2 : IntKind.i64.wrap (2 * (s : Int)) = ((2 * s : Nat) : Int) := by rw [wrap_i64 (by omega)]; omega
  have e3 : IntKind.i64.wrap ((s : Int) * 2) = ((2 * s : Nat) : Int) := by rw [wrap_i64 (by omega)]; omega
  have e4 : IntKind.i64.wrap ((A.length : Int) + (s : Int)) = ((A.length + s : Nat) : Int) := by rw [wrap_i64 (by omega)]; omega
  unfold slices_stableCmpFunc_int___schema_Sorted_1_b2
  rw [itT (by simp; omega), e2, q1', sb]
  dsimp only
  rw [e3, e4]
  rcases Nat.lt_or_ge s R.length with h | h
  · obtain ⟨X, Y, rfl, hX, sX, mX, hY⟩ := bl_one q3 h
    rw [List.length_append] at hAR q2
    obtain ⟨sY, mY⟩ := bl_lst hY (by omega)
    obtain ⟨Z0, g1, g2, g3⟩ := sym_is (m := m) fuel A X Y [] (by omega) (by simp at h; omega) (by omega) (by simp; omega) (fun x hx => hp x (q4.subset (List.mem_append_right _ hx))) sX sY (older_of (c := lo' + (s : Int)) (fun x hx => (mX x hx).2) (fun y hy => (mY y hy).1)) (a := (A.length : Int)) (mm := ((A.length + s : Nat) : Int)) (b := (n : Int)) rfl (by omega) (by omega)
    rw [itT (by simp at h ⊢; omega)]
    have e1 : A ++ (X ++ Y) = A ++ X ++ Y ++ [] := by simp
    rw [e1, g1, sb]
    refine ⟨A ++ Z0, by simp, q5 Z0 (by rw [g2.length_eq, List.length_append]; omega) g3 fun x hx => ?_, (List.Perm.append_left A g2).trans q4⟩
    rcases List.mem_append.1 (g2.subset hx) with q | q
    · have := mX x q; omega
    · have := mY x q; omega
  · rw [itF (by simp; omega)]
    obtain ⟨sR, mR⟩ := bl_lst q3 h
    exact ⟨A ++ R, rfl, q5 R (by omega) sR fun x hx => by have := mR x hx; omega, q4⟩
theorem st_l2 {fuel n : Nat} (hn : n ≤ 549755813888) (hf : n ≤ fuel) : ∀ (d s : Nat) (D : List Int), n - s ≤ d → 0 < s → D.length = n → Bl (keyOf m) s 0 D → Pl m D → ∃ E, slices_stableCmpFunc_int___schema_Sorted_1_l2 fuel (n : Int) m D (s : Int) = some E ∧ Srt (keyOf m) E ∧ E.Perm D := by
  intro d
  induction d with
  | zero =>
    intro s D hd hs hlen hD hp
    refine ⟨D, slices_stableCmpFunc_int___schema_Sorted_1_l2_inr ?_, (bl_lst hD (by omega)).1, List.Perm.refl _⟩
    unfold slices_stableCmpFunc_int___schema_Sorted_1_b2
    rw [itF (by simp; omega)]
  | succ d ih =>
    intro s D hd hs hlen hD hp
    rcases Nat.lt_or_ge s n with h | h
    · obtain ⟨E, g1, g2, g3⟩ := st_b2 (m := m) hs h hn hf hlen hD hp
      rw [slices_stableCmpFunc_int___schema_Sorted_1_l2_inl g1]
      obtain ⟨G, k1, k2, k3⟩ := ih (2 * s) E (by omega) (by omega) (by rw [g3.length_eq, hlen]) g2 (pl_perm hp g3)
      exact ⟨G, k1, k2, k3.trans g3⟩
    · refine ⟨D, slices_stableCmpFunc_int___schema_Sorted_1_l2_inr ?_, (bl_lst hD (by omega)).1, List.Perm.refl _⟩
      unfold slices_stableCmpFunc_int___schema_Sorted_1_b2
      rw [itF (by simp; omega)]
theorem stable_is {fuel n : Nat} (hn : n ≤ 549755813888) (hf : n ≤ fuel) (hm : m.Fields.length = n) : slices_stableCmpFunc_int___schema_Sorted_1 fuel (rg 0 n) (n : Int) m = some (sortS (keyOf m) n) := by
  have hp : Pl m (rg 0 n) := fun x hx => by have := rg_mem.1 hx; omega
  obtain ⟨A, R, lo', e', q1, q2, q3, q4, q5⟩ := st_l1 (m := m) hn n [] (rg 0 n) 0 n (by rw [rg_len]; omega) (by rw [rg_len]; simp) rfl hp
  have q1' : slices_stableCmpFunc_int___schema_Sorted_1_l1 (n : Int) m (rg 0 n) 0 20 = some (A ++ R, (A.length : Int)) := by simpa using q1
  have hAR : A.length + R.length = n := by
    have := q4.length_eq
    rw [List.length_append, rg_len] at this
    exact this
  obtain ⟨Z, g1, g2, g3⟩ := ins_is (m := m) A R [] (by simp; omega) (fun x hx => hp x (q4.subset (List.mem_append_right _ hx))) (by rw [q3]; exact rg_inc _ _)
  rw [hAR] at g1
  simp only [List.append_nil] at g1
  have he : e' = R.length := by rw [q3, rg_len]
  have hB := q5 Z (by rw [g2.length_eq]; omega) g3 fun x hx => by
    have h1 := g2.subset hx
    rw [q3] at h1
    have := rg_mem.1 h1
    omega
  have hperm : (A ++ Z).Perm (rg 0 n) := (List.Perm.append_left A g2).trans q4
  obtain ⟨E, k1, k2, k3⟩ := st_l2 (m := m) hn hf n 20 (A ++ Z) (by omega) (by omega) (by rw [hperm.length_eq, rg_len]) hB (pl_perm hp hperm)
  have k1' : slices_stableCmpFunc_int___schema_Sorted_1_l2 fuel (n : Int) m (A ++ Z) 20 = _ := k1
  unfold slices_stableCmpFunc_int___schema_Sorted_1
  rw [q1', sb]
  dsimp only
  rw [g1, sb, k1', sb, sortS_unique ((k3.trans hperm).trans (sortS_rg _ _).symm) k2]
end
theorem fill_l1 (V : List Int) : ∀ (d k : Nat) (L : List Int), k + d = V.length → L.length = V.length → L.take k = rg 0 k → V.length ≤ 549755813888 → schema_Sorted_l1 V L (k : Int) = some (rg 0 V.length) := by
  intro d
  induction d with
  | zero =>
    intro k L h1 h2 h3 h4
    have hk : k = V.length := by omega
    subst hk
    refine (schema_Sorted_l1_inr (oo_ := L) ?_).trans ?_
    · unfold schema_Sorted_b1
      rw [itF (by simp)]
    · rw [← h3, List.take_of_length_le (by omega)]
  | succ d ih =>
    intro k L h1 h2 h3 h4
    have hb : schema_Sorted_b1 V L (k : Int) = some (.inl (L.set k (k : Int), ((k + 1 : Nat) : Int))) := by
      unfold schema_Sorted_b1
      rw [itT (by simp; omega), idx_of rfl (show k < L.length by omega), sb, Int.toNat_natCast, wrap_i64 (by omega)]
      rfl
    rw [schema_Sorted_l1_inl hb]
    refine ih (k + 1) _ (by omega) (by rw [List.length_set]; exact h2) ?_ h4
    have e : (0 : Int) + (k : Int) = (k : Int) := by omega
    rw [rg_succ, List.take_succ_eq_append_getElem (by rw [List.length_set]; omega), List.take_set_of_le (by omega), h3, List.getElem_set_self, e]
theorem schemaSorted_is {m : Mes} (hm : m.Fields.length ≤ 549755813888) : schema_Sorted m.Fields.length m = some (sortS (keyOf m) m.Fields.length) := by
  unfold schema_Sorted slices_SortStableFunc___int_int___schema_Sorted_1
  rw [mkO_of (a := m.Fields.length) rfl (by omega) (by omega), sb]
  have h := fill_l1 (List.replicate m.Fields.length (0 : Int)) m.Fields.length 0 (List.replicate m.Fields.length (0 : Int)) (by simp) rfl (by simp [rg]) (by simpa using hm)
  have h' : schema_Sorted_l1 (List.replicate m.Fields.length (0 : Int)) (List.replicate m.Fields.length (0 : Int)) 0 = some (rg 0 (List.replicate m.Fields.length (0 : Int)).length) := h
  rw [h', sb, List.length_replicate, rg_len, stable_is hm (Nat.le_refl _) rfl, sb, sb]
theorem equalF_is {a b : List Fld} (ha : a.length ≤ 140737488351232) : slices_Equal___api_Field_api_Field_ a b = some (decide (a = b)) := by
  unfold slices_Equal___api_Field_api_Field_
  by_cases hl : a.length = b.length
  · rw [itF (by simp; omega)]
    have h := same_loop7 a b (fun i => slices_Equal___api_Field_api_Field__l1 a b i) hl (by
        refine slices_Equal___api_Field_api_Field__l1_inr ?_
        unfold slices_Equal___api_Field_api_Field__b1
        rw [itF (by simp)])
      (fun i hi hi' => by
        by_cases hp : a[i] = b[i]
        · rw [if_pos hp]
          refine slices_Equal___api_Field_api_Field__l1_inl ?_
          unfold slices_Equal___api_Field_api_Field__b1
          rw [itT (by simp; omega), idx_of rfl hi, sb, idx_of rfl hi', sb, itF (by simp [hp]), wrap_i64 (by omega)]; push_cast; rfl
        · rw [if_neg hp]
          refine slices_Equal___api_Field_api_Field__l1_inr ?_
          unfold slices_Equal___api_Field_api_Field__b1
          rw [itT (by simp; omega), idx_of rfl hi, sb, idx_of rfl hi', sb, itT (by simp [hp])])
      a.length 0 (by omega)
    have h' : slices_Equal___api_Field_api_Field__l1 a b 0 = _ := h
    rw [h', sb, List.drop_zero, List.drop_zero]
    by_cases he : a = b
    · rw [if_pos he]; simp [he]
    · rw [if_neg he]; simp [he]
  · rw [itT (by simp; omega)]
    have : a ≠ b := fun e => hl (by rw [e])
    simp [this]
theorem sameMes_is {x y : Mes} (hx : x.Fields.length ≤ 140737488351232) : schema_sameMessage x y = some (decide (x = y)) := by
  unfold schema_sameMessage
  obtain ⟨xn, xf⟩ := x
  obtain ⟨yn, yf⟩ := y
  by_cases hn : xn = yn
  · rw [itT (by simpa using hn), equalF_is hx, sb, sb]
    by_cases hf : xf = yf <;> simp [hn, hf]
  · rw [itF (by simpa using hn), sb]
    simp [hn]
theorem same7_is {a b : List Mes} (ha : WS a) : schema_Same a b = some (decide (a = b)) := by
  obtain ⟨ha1, ha2⟩ := ha
  unfold schema_Same slices_EqualFunc_api_Schema_api_Schema_api_Message_api_Message___schema_sameMessage
  by_cases hl : a.length = b.length
  · rw [itF (by simp; omega)]
    have h := same_loop7 a b (fun i => slices_EqualFunc_api_Schema_api_Schema_api_Message_api_Message___schema_sameMessage_l1 a b i) hl (by
        refine slices_EqualFunc_api_Schema_api_Schema_api_Message_api_Message___schema_sameMessage_l1_inr ?_
        unfold slices_EqualFunc_api_Schema_api_Schema_api_Message_api_Message___schema_sameMessage_b1
        rw [itF (by simp)])
      (fun i hi hi' => by
        have hxl := (ha2 a[i] (List.getElem_mem hi)).2.1
        by_cases hp : a[i] = b[i]
        · rw [if_pos hp]
          refine slices_EqualFunc_api_Schema_api_Schema_api_Message_api_Message___schema_sameMessage_l1_inl ?_
          unfold slices_EqualFunc_api_Schema_api_Schema_api_Message_api_Message___schema_sameMessage_b1
          rw [itT (by simp; omega), idx_of rfl hi, sb, idx_of rfl hi', sb, sameMes_is hxl, sb, itF (by simp [hp]), wrap_i64 (by omega)]; push_cast; rfl
        · rw [if_neg hp]
          refine slices_EqualFunc_api_Schema_api_Schema_api_Message_api_Message___schema_sameMessage_l1_inr ?_
          unfold slices_EqualFunc_api_Schema_api_Schema_api_Message_api_Message___schema_sameMessage_b1
          rw [itT (by simp; omega), idx_of rfl hi, sb, idx_of rfl hi', sb, sameMes_is hxl, sb, itT (by simp [hp])])
      a.length 0 (by omega)
    have h' : slices_EqualFunc_api_Schema_api_Schema_api_Message_api_Message___schema_sameMessage_l1 a b 0 = _ := h
    rw [h', sb, List.drop_zero, List.drop_zero]
    by_cases he : a = b
    · rw [if_pos he]; simp [he, sb]
    · rw [if_neg he]; simp [he, sb]
  · rw [itT (by simp; omega)]
    have : a ≠ b := fun e => hl (by rw [e])
    simp [this, sb]
theorem nilO_of {α ρ : Type} {xs : List α} {x y : Option ρ} {r : ρ} (hx : xs = [] → x = some r) (hy : y = some r) : nilO xs x y = some r := by
  cases xs with
  | nil => exact agree_of (hx rfl) hy
  | cons a xs => exact hy
theorem cloneF_is {a : List Fld} (ha : a.length * 48 ≤ 140737488351232) : slices_Clone___api_Field_api_Field_ a = some a := by
  unfold slices_Clone___api_Field_api_Field_
  refine nilO_of (fun h => by rw [h]) ?_
  rw [app_of (by simp; omega), sb]
  rfl
theorem cloneM_is {a : List Mes} (ha : a.length * 40 ≤ 140737488351232) : slices_Clone_api_Schema_api_Message_ a = some a := by
  unfold slices_Clone_api_Schema_api_Message_
  refine nilO_of (fun h => by rw [h]) ?_
  rw [app_of (by simp; omega), sb]
  rfl
theorem copy_l1 {s : List Mes} (hs : s.length * 40 ≤ 140737488351232) (hf : ∀ x ∈ s, x.Fields.length * 48 ≤ 140737488351232) : ∀ (d k : Nat), k + d = s.length → schema_Copy_l1 s s (k : Int) = some s := by
  intro d
  induction d with
  | zero =>
    intro k hk
    refine schema_Copy_l1_inr ?_
    unfold schema_Copy_b1
    rw [itF (by simp; omega)]
  | succ d ih =>
    intro k hk
    have hkl : k < s.length := by omega
    have hb : schema_Copy_b1 s s (k : Int) = some (.inl (s, ((k + 1 : Nat) : Int))) := by
      unfold schema_Copy_b1
      rw [itT (by simp; omega), idx_of rfl hkl, sb, cloneF_is (hf _ (List.getElem_mem hkl)), sb, sb, Int.toNat_natCast, wrap_i64 (by omega)]
      have e : (⟨s[k].Name, s[k].Fields⟩ : Mes) = s[k] := rfl
      rw [e, List.set_getElem_self]
      rfl
    rw [schema_Copy_l1_inl hb]
    exact ih (k + 1) (by omega)
theorem copy7_is {s : List Mes} (hs : s.length * 40 ≤ 140737488351232) (hf : ∀ x ∈ s, x.Fields.length * 48 ≤ 140737488351232) : schema_Copy s = some s := by
  unfold schema_Copy
  have h := copy_l1 hs hf s.length 0 (by omega)
  have h' : schema_Copy_l1 s s 0 = some s := h
  rw [cloneM_is hs, sb, h', sb]
end Go.Proofs.Ytnchbppkppbflaa
