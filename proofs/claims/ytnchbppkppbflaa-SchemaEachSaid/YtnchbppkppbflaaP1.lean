/-
  What the plain functions are. No condition.
-/
import Derived.Test.YtnchbppkppbflaaS1
import Derived.Test.YtnchbppkppbflaaK2
import Derived.Laws.Bits64b
import Derived.IntWalk
import Derived.RowKit
namespace Go.Proofs.Ytnchbppkppbflaa
open Go
set_option linter.unusedVariables false
def kRight (k : Int) : Bool := decide (1 ≤ k ∧ k ≤ 17)
def kNum (k : Int) : Bool := decide (1 ≤ k ∧ k ≤ 14)
def kWire (k : Int) : Int := if 15 ≤ k then 2 else if 12 ≤ k then 1 else if 9 ≤ k then 5 else 0
theorem refKRight_is (k : Int) : darningref06_Right k = some (kRight k) := by unfold darningref06_Right kRight; simp [Bool.decide_and]
theorem refKNum_is (k : Int) : darningref06_Number k = some (kNum k) := by unfold darningref06_Number kNum; simp [Bool.decide_and]
end Go.Proofs.Ytnchbppkppbflaa
namespace Go.Proofs.Ytnchbppkppbflaa
open Go
set_option linter.unusedVariables false
abbrev Fld := T_Name_Number_Kind_Repeated_Packed_Of
abbrev Mes := T_Name_Fields
def firstI {α : Type} (p : α → Bool) (l : List α) : Int := match l.findIdx? p with
  | some i => (i : Int)
  | none => -1
theorem firstI_none {α : Type} {p : α → Bool} {l : List α} (h : l.findIdx? p = none) : firstI p l = -1 := by unfold firstI; rw [h]
theorem firstI_some {α : Type} {p : α → Bool} {l : List α} {i : Nat} (h : l.findIdx? p = some i) : firstI p l = (i : Int) := by unfold firstI; rw [h]
theorem find_loop {α : Type} (p : α → Bool) (l : List α) (F : Int → Option (Unit ⊕ Int)) (h0 : F (l.length : Int) = some (.inl ())) (hs : ∀ (i : Nat) (h : i < l.length), F (i : Int) = if p l[i] then some (.inr (i : Int)) else F ((i + 1 : Nat) : Int)) :
    ∀ (d i : Nat), i + d = l.length → (∀ j (h : j < l.length), j < i → p l[j] = false) → F (i : Int) = some (match l.findIdx? p with | some k => .inr (k : Int) | none => .inl ()) := by
  intro d
  induction d with
  | zero =>
    intro i hi hj
    have : i = l.length := by omega
    subst this
    have hn : l.findIdx? p = none := by
      rw [List.findIdx?_eq_none_iff]
      intro x hx
      obtain ⟨j, hj', rfl⟩ := List.getElem_of_mem hx
      exact hj j hj' hj'
    rw [h0, hn]
  | succ d ih =>
    intro i hi hj
    have hil : i < l.length := by omega
    rw [hs i hil]
    by_cases hp : p l[i] = true
    · have hf : l.findIdx? p = some i := by
        rw [List.findIdx?_eq_some_iff_getElem]
        exact ⟨hil, hp, fun j hji => by simpa using hj j (by omega) hji⟩
      rw [if_pos hp, hf]
    · rw [if_neg hp]
      refine ih (i + 1) (by omega) fun j h hji => ?_
      by_cases e : j = i
      · subst e; simpa using hp
      · exact hj j h (by omega)
def nmc (i : Nat) (c : UInt8) : Bool := decide (65 ≤ c.toNat ∧ c.toNat ≤ 90 ∨ 97 ≤ c.toNat ∧ c.toNat ≤ 122 ∨ c.toNat = 95 ∨ 0 < i ∧ 48 ≤ c.toNat ∧ c.toNat ≤ 57)
def nmA : Nat → List UInt8 → Bool
  | _, [] => true
  | i, c :: l => nmc i c && nmA (i + 1) l
def nameOk (s : List UInt8) : Bool := nmA 0 s && decide (1 ≤ s.length ∧ s.length ≤ 60)
theorem drop_cons7 {α : Type} {l t : List α} {x : α} {k : Nat} (h : l.drop k = x :: t) : ∃ hk : k < l.length, l[k] = x ∧ l.drop (k + 1) = t := by
  have hk : k < l.length := by
    rcases Nat.lt_or_ge k l.length with h' | h'
    · exact h'
    · rw [List.drop_eq_nil_of_le h'] at h; cases h
  rw [List.drop_eq_getElem_cons hk] at h
  injection h with h1 h2
  exact ⟨hk, h1, h2⟩
theorem drop_nil7 {α : Type} {l : List α} {k : Nat} (h : l.drop k = []) : l.length ≤ k := by have := congrArg List.length h; simp at this; omega
theorem name_loop (s : List UInt8) (hs : s.length ≤ 1152921504606846976) : ∀ (l : List UInt8) (i : Nat), s.drop i = l → darningref07_Name_l1 s i = some (if nmA i l = true then .inl () else .inr ()) := by
  intro l
  induction l with
  | nil =>
    intro i hd
    have := drop_nil7 hd
    refine darningref07_Name_l1_inr ?_
    unfold darningref07_Name_b1
    rw [itF (by simp; omega)]; rfl
  | cons c l ih =>
    intro i hd
    obtain ⟨hk, hx, hd'⟩ := drop_cons7 hd
    have hb : darningref07_Name_b1 s i = if nmc i c = true then some (.inl ((i + 1 : Nat) : Int)) else some (.inr (.inr ())) := by
      unfold darningref07_Name_b1
      rw [itT (by simp; omega), idx_of rfl hk, sb, hx, wrap_i64 (by omega)]
      have e : (if (decide ((c.toNat : Int) ≥ 65)) then ((decide ((c.toNat : Int) ≤ 90)) || (if (decide ((c.toNat : Int) ≥ 97)) then ((decide ((c.toNat : Int) ≤ 122)) || (((c.toNat : Int) == 95) || ((decide ((i : Int) > 0)) && ((decide ((c.toNat : Int) ≥ 48)) && (decide ((c.toNat : Int) ≤ 57)))))) else (((c.toNat : Int) == 95) || ((decide ((i : Int) > 0)) && ((decide ((c.toNat : Int) ≥ 48)) && (decide ((c.toNat : Int) ≤ 57))))))) else (if (decide ((c.toNat : Int) ≥ 97)) then ((decide ((c.toNat : Int) ≤ 122)) || (((c.toNat : Int) == 95) || ((decide ((i : Int) > 0)) && ((decide ((c.toNat : Int) ≥ 48)) && (decide ((c.toNat : Int) ≤ 57)))))) else (((c.toNat : Int) == 95) || ((decide ((i : Int) > 0)) && ((decide ((c.toNat : Int) ≥ 48)) && (decide ((c.toNat : Int) ≤ 57))))))) = nmc i c := by
        have e95 : ((c.toNat : Int) == 95) = decide (c.toNat = 95) := beq_nat _ 95
        have a1 : decide ((c.toNat : Int) ≥ 65) = decide (65 ≤ c.toNat) := decide_eq_decide.2 (by omega)
        have a2 : decide ((c.toNat : Int) ≤ 90) = decide (c.toNat ≤ 90) := decide_eq_decide.2 (by omega)
        have a3 : decide ((c.toNat : Int) ≥ 97) = decide (97 ≤ c.toNat) := decide_eq_decide.2 (by omega)
        have a4 : decide ((c.toNat : Int) ≤ 122) = decide (c.toNat ≤ 122) := decide_eq_decide.2 (by omega)
        have a5 : decide ((i : Int) > 0) = decide (0 < i) := decide_eq_decide.2 (by omega)
        have a6 : decide ((c.toNat : Int) ≥ 48) = decide (48 ≤ c.toNat) := decide_eq_decide.2 (by omega)
        have a7 : decide ((c.toNat : Int) ≤ 57) = decide (c.toNat ≤ 57) := decide_eq_decide.2 (by omega)
        rw [e95, a1, a2, a3, a4, a5, a6, a7]
        simp only [nmc, Bool.decide_or, Bool.decide_and]
        generalize decide (65 ≤ c.toNat) = p1
        generalize decide (c.toNat ≤ 90) = p2
        generalize decide (97 ≤ c.toNat) = p3
        generalize decide (c.toNat ≤ 122) = p4
        generalize decide (c.toNat = 95) = p5
        generalize decide (0 < i) = p6
        generalize decide (48 ≤ c.toNat) = p7
        generalize decide (c.toNat ≤ 57) = p8
        cases p1 <;> cases p2 <;> cases p3 <;> cases p4 <;> cases p5 <;> cases p6 <;> cases p7 <;> cases p8 <;> rfl
      rw [e]
      cases nmc i c
      · rw [itT (by rfl)]; rfl
      · rw [itF (by rfl)]; push_cast; rfl
    rw [nmA]
    cases hc : nmc i c
    · rw [hc, if_neg (by simp)] at hb
      rw [darningref07_Name_l1_inr hb]; rfl
    · rw [hc, if_pos rfl] at hb
      rw [darningref07_Name_l1_inl hb, ih _ hd', Bool.true_and]
theorem refName_is {s : List UInt8} (hs : s.length ≤ 1152921504606846976) : darningref07_Name s = some (nameOk s) := by
  unfold darningref07_Name nameOk
  have h := name_loop s hs s 0 rfl
  have h' : darningref07_Name_l1 s 0 = _ := h
  rw [h', sb]
  cases nmA 0 s
  · rfl
  · simp [Bool.decide_and]
    rw [Bool.eq_iff_iff]; simp; omega
def faultF (n : Int) (prev : List Fld) (f : Fld) : Int :=
  if nameOk f.Name = false then 5 else if prev.any (fun g => g.Name == f.Name) = true then 6
  else if f.Number < 1 ∨ f.Number > 536870911 ∨ (19000 ≤ f.Number ∧ f.Number < 20000) then 7
  else if prev.any (fun g => g.Number == f.Number) = true then 8 else if kRight f.Kind = false then 9
  else if f.Packed = true ∧ ¬ (f.Repeated = true ∧ kNum f.Kind = true) then 10
  else if f.Kind = 17 ∧ (f.Of < 0 ∨ f.Of ≥ n) ∨ f.Kind ≠ 17 ∧ f.Of ≠ 0 then 11 else 0
theorem fault_bd (n : Int) (prev : List Fld) (f : Fld) : 0 ≤ faultF n prev f ∧ faultF n prev f ≤ 11 := by
  unfold faultF
  repeat' split
  all_goals omega
theorem fault_loop {s : List Mes} {i k : Nat} {m : Mes} (hi : ∃ h : i < s.length, s[i] = m) (hk : k ≤ m.Fields.length) (hb : m.Fields.length ≤ 1152921504606846976) (f : Fld) :
    ∀ (l : List Fld) (j : Nat) (a b : Bool), (m.Fields.take k).drop j = l → j ≤ k → darningref07_Fault_l1 i k s f a b j = some (a || l.any (fun g => g.Name == f.Name), b || l.any (fun g => g.Number == f.Number)) := by
  obtain ⟨hi, hm⟩ := hi
  intro l
  induction l with
  | nil =>
    intro j a b hd hj
    have := drop_nil7 hd
    rw [List.length_take] at this
    refine darningref07_Fault_l1_inr ?_
    unfold darningref07_Fault_b1
    rw [itF (by simp; omega)]; simp
  | cons g l ih =>
    intro j a b hd hj
    obtain ⟨hjk, hx, hd'⟩ := drop_cons7 hd
    rw [List.length_take] at hjk
    rw [List.getElem_take] at hx
    refine (darningref07_Fault_l1_inl (name' := a || (g.Name == f.Name)) (number' := b || (g.Number == f.Number)) (j' := ((j + 1 : Nat) : Int)) ?_).trans ?_
    · unfold darningref07_Fault_b1
      have e1 : idx s (i : Int) = some m := by rw [idx_of rfl hi, hm]
      have e2 : idx m.Fields (j : Int) = some g := by rw [idx_of rfl (by omega), hx]
      rw [itT (by simp; omega), e1, sb, e2, sb, wrap_i64 (by omega)]
      cases a <;> cases b <;> (simp only [Bool.false_eq_true, if_false, if_true, e2, sb, Bool.false_or, Bool.true_or]; push_cast; rfl)
    · rw [ih _ _ _ hd' (by omega), List.any_cons, List.any_cons, Bool.or_assoc, Bool.or_assoc]
theorem refFault_is {s : List Mes} {i k : Nat} {m : Mes} {f : Fld} (hi : ∃ h : i < s.length, s[i] = m) (hk : ∃ h : k < m.Fields.length, m.Fields[k] = f) (hb : m.Fields.length ≤ 1152921504606846976) (hf : f.Name.length ≤ 1152921504606846976) :
    darningref07_Fault s i k = some (faultF s.length (m.Fields.take k) f) := by
  obtain ⟨hil, hm⟩ := hi
  obtain ⟨hkl, hfe⟩ := hk
  have e1 : idx s (i : Int) = some m := by rw [idx_of rfl hil, hm]
  have e2 : idx m.Fields (k : Int) = some f := by rw [idx_of rfl hkl, hfe]
  have h := fault_loop ⟨hil, hm⟩ (Nat.le_of_lt hkl) hb f (m.Fields.take k) 0 false false rfl (Nat.zero_le _)
  have h' : darningref07_Fault_l1 i k s f false false 0 = _ := h
  unfold darningref07_Fault faultF
  rw [e1, sb, e2, sb, h', sb, refName_is hf, sb]
  simp only [Bool.false_or]
  cases h1 : nameOk f.Name
  · rw [itT (by rfl), if_pos (show false = false from rfl)]
  · rw [itF (by rfl), if_neg (show ¬ (true = false) by simp)]
    cases h2 : (m.Fields.take k).any (fun g => g.Name == f.Name)
    · rw [itF (by rfl), if_neg (show ¬ (false = true) by simp)]
      by_cases h3 : f.Number < 1 ∨ f.Number > 536870911 ∨ (19000 ≤ f.Number ∧ f.Number < 20000)
      · rw [itT (by simpa using h3), if_pos h3]
      · rw [itF (by simp; omega), if_neg h3]
        cases h4 : (m.Fields.take k).any (fun g => g.Number == f.Number)
        · rw [itF (by rfl), if_neg (show ¬ (false = true) by simp), refKRight_is, sb]
          cases h5 : kRight f.Kind
          · rw [itT (by rfl), if_pos (show false = false from rfl)]
          · rw [itF (by rfl), if_neg (show ¬ (true = false) by simp)]
            have e10 : (if f.Packed = true then (if f.Repeated = true then (darningref06_Number f.Kind >>= fun rv3 => some (!rv3)) else some (!false)) else some false) = some (decide (f.Packed = true ∧ ¬ (f.Repeated = true ∧ kNum f.Kind = true))) := by
              rw [refKNum_is, sb]
              cases f.Packed <;> cases f.Repeated <;> cases kNum f.Kind <;> rfl
            rw [e10, sb]
            by_cases h6 : f.Packed = true ∧ ¬ (f.Repeated = true ∧ kNum f.Kind = true)
            · rw [itT (decide_eq_true h6), if_pos h6]
            · rw [itF (decide_eq_false h6), if_neg h6]
              by_cases h7 : f.Kind = 17
              · by_cases h8 : f.Of < 0 ∨ f.Of ≥ (s.length : Int)
                · rw [itT (by simp [h7]; simpa using h8), if_pos (.inl ⟨h7, h8⟩)]
                · rw [itF (by simp [h7]; omega), if_neg (by simp [h7]; omega)]
              · by_cases h8 : f.Of = 0
                · rw [itF (by simp [h7, h8]), if_neg (by simp [h7, h8])]
                · rw [itT (by simp [h7, h8]), if_pos (.inr ⟨h7, h8⟩)]
        · rw [itT (by rfl), if_pos (show true = true from rfl)]
    · rw [itT (by rfl), if_pos (show true = true from rfl)]
def msgF (n : Int) (prev : List Fld) : List Fld → Option (Nat × Int)
  | [] => none
  | f :: l => if 0 < faultF n prev f then some (prev.length, faultF n prev f) else msgF n (prev ++ [f]) l
def chkF (n : Int) (prev : List Mes) : List Mes → Option (Nat × Int × Int)
  | [] => none
  | m :: l => if nameOk m.Name = false then some (prev.length, -1, 2) else if prev.any (fun g => g.Name == m.Name) = true then some (prev.length, -1, 3)
    else if 200 < m.Fields.length then some (prev.length, -1, 4) else match msgF n [] m.Fields with
      | some (k, w) => some (prev.length, (k : Int), w)
      | none => chkF n (prev ++ [m]) l
def checkS (s : List Mes) : Int × Int × Int := if s.length = 0 ∨ 100 < s.length then (-1, -1, 1) else match chkF s.length [] s with
  | none => (0, 0, 0)
  | some (i, k, w) => ((i : Int), k, w)
def rightS (s : List Mes) : Bool := decide ((checkS s).2.2 = 0)
def WS (s : List Mes) : Prop := s.length ≤ 140737488351232 ∧ ∀ m ∈ s, m.Name.length ≤ 140737488351232 ∧ m.Fields.length ≤ 140737488351232 ∧ ∀ f ∈ m.Fields, f.Name.length ≤ 140737488351232
theorem check_loop3 {s : List Mes} {i : Nat} {m : Mes} (hi : ∃ h : i < s.length, s[i] = m) (hb : m.Fields.length ≤ 140737488351232) (hn : ∀ f ∈ m.Fields, f.Name.length ≤ 140737488351232) :
    ∀ (l : List Fld) (k : Nat), m.Fields.drop k = l → k ≤ m.Fields.length → darningref07_Check_l3 i s k = some (match msgF s.length (m.Fields.take k) l with | some (j, w) => .inr ((j : Int), w) | none => .inl ()) := by
  obtain ⟨hil, hm⟩ := hi
  have e1 : idx s (i : Int) = some m := by rw [idx_of rfl hil, hm]
  intro l
  induction l with
  | nil =>
    intro k hd hk
    have := drop_nil7 hd
    refine darningref07_Check_l3_inr ?_
    unfold darningref07_Check_b3
    rw [e1, sb, itF (by simp; omega)]; rfl
  | cons f l ih =>
    intro k hd hk
    obtain ⟨hkl, hx, hd'⟩ := drop_cons7 hd
    have hf := refFault_is (s := s) (i := i) (k := k) (m := m) (f := f) ⟨hil, hm⟩ ⟨hkl, hx⟩ (by omega) (by have := hn f (by rw [← hx]; exact List.getElem_mem hkl); omega)
    have hbd := fault_bd s.length (m.Fields.take k) f
    have htl : (m.Fields.take k).length = k := by rw [List.length_take]; omega
    rw [msgF]
    by_cases h0 : 0 < faultF s.length (m.Fields.take k) f
    · rw [if_pos h0]
      refine darningref07_Check_l3_inr ?_
      unfold darningref07_Check_b3
      rw [e1, sb, itT (by simp; omega), hf, sb, itT (by simpa using h0)]
      simp only [htl]
    · rw [if_neg h0]
      refine (darningref07_Check_l3_inl (k2' := ((k + 1 : Nat) : Int)) ?_).trans ?_
      · unfold darningref07_Check_b3
        rw [e1, sb, itT (by simp; omega), hf, sb, itF (by simp; omega), wrap_i64 (by omega)]
        push_cast; rfl
      · rw [ih (k + 1) hd' (by omega), List.take_succ_eq_append_getElem hkl, hx]
theorem check_loop2 {s : List Mes} {i : Nat} {m : Mes} (hi : ∃ h : i < s.length, s[i] = m) (hs : s.length ≤ 140737488351232) :
    ∀ (l : List Mes) (k : Nat) (a : Bool), (s.take i).drop k = l → k ≤ i → darningref07_Check_l2 i s a k = some (a || l.any (fun g => g.Name == m.Name)) := by
  obtain ⟨hil, hm⟩ := hi
  intro l
  induction l with
  | nil =>
    intro k a hd hk
    have := drop_nil7 hd
    rw [List.length_take] at this
    refine darningref07_Check_l2_inr ?_
    unfold darningref07_Check_b2
    rw [itF (by simp; omega)]; simp
  | cons g l ih =>
    intro k a hd hk
    obtain ⟨hkl, hx, hd'⟩ := drop_cons7 hd
    rw [List.length_take] at hkl
    rw [List.getElem_take] at hx
    refine (darningref07_Check_l2_inl (twice' := a || (g.Name == m.Name)) (k' := ((k + 1 : Nat) : Int)) ?_).trans ?_
    · unfold darningref07_Check_b2
      have e1 : idx s (i : Int) = some m := by rw [idx_of rfl hil, hm]
      have e2 : idx s (k : Int) = some g := by rw [idx_of rfl (by omega), hx]
      rw [itT (by simp; omega), e1, e2, sb, sb, wrap_i64 (by omega)]
      cases a <;> (simp only [Bool.false_eq_true, if_false, if_true, sb, Bool.false_or, Bool.true_or]; push_cast; rfl)
    · rw [ih _ _ hd' (by omega), List.any_cons, Bool.or_assoc]
theorem check_loop1 {s : List Mes} (hw : WS s) : ∀ (l : List Mes) (i : Nat), s.drop i = l → i ≤ s.length → darningref07_Check_l1 s i = some (match chkF s.length (s.take i) l with | some (j, k, w) => .inr ((j : Int), k, w) | none => .inl ()) := by
  intro l
  induction l with
  | nil =>
    intro i hd hi
    have := drop_nil7 hd
    refine darningref07_Check_l1_inr ?_
    unfold darningref07_Check_b1
    rw [itF (by simp; omega)]; rfl
  | cons m l ih =>
    intro i hd hi
    obtain ⟨hil, hx, hd'⟩ := drop_cons7 hd
    obtain ⟨hsl, hwm⟩ := hw
    obtain ⟨w1, w2, w3⟩ := hwm m (by rw [← hx]; exact List.getElem_mem hil)
    have htl : (s.take i).length = i := by rw [List.length_take]; omega
    have e1 : idx s (i : Int) = some m := by rw [idx_of rfl hil, hx]
    have h2 := check_loop2 ⟨hil, hx⟩ hsl (s.take i) 0 false rfl (Nat.zero_le _)
    have h2' : darningref07_Check_l2 i s false 0 = _ := h2
    have h3 := check_loop3 ⟨hil, hx⟩ w2 w3 m.Fields 0 rfl (Nat.zero_le _)
    have h3' : darningref07_Check_l3 i s 0 = _ := h3
    have hb : darningref07_Check_b1 s i = (if nameOk m.Name = false then some (.inr (.inr ((i : Int), -1, 2))) else if (s.take i).any (fun g => g.Name == m.Name) = true then some (.inr (.inr ((i : Int), -1, 3)))
        else if 200 < m.Fields.length then some (.inr (.inr ((i : Int), -1, 4))) else match msgF s.length [] m.Fields with
          | some (k, w) => some (.inr (.inr ((i : Int), (k : Int), w)))
          | none => some (.inl ((i + 1 : Nat) : Int))) := by
      unfold darningref07_Check_b1
      rw [itT (by simp; omega), h2', sb, e1, sb, refName_is (by omega), sb, sb, h3', sb, Bool.false_or]
      cases h4 : nameOk m.Name
      · rw [itT (by rfl), if_pos (show false = false from rfl)]
      · rw [itF (by rfl), if_neg (show ¬ (true = false) by simp)]
        cases h5 : (s.take i).any (fun g => g.Name == m.Name)
        · rw [itF (by rfl), if_neg (show ¬ (false = true) by simp)]
          by_cases h6 : 200 < m.Fields.length
          · rw [itT (by simp; omega), if_pos h6]
          · rw [itF (by simp; omega), if_neg h6, List.take_zero]
            cases msgF s.length [] m.Fields with
            | none => simp only; rw [wrap_i64 (by omega)]; push_cast; rfl
            | some p => rfl
        · rw [itT (by rfl), if_pos (show true = true from rfl)]
    rw [chkF]
    by_cases h4 : nameOk m.Name = false
    · rw [if_pos h4] at hb ⊢
      rw [darningref07_Check_l1_inr hb]; simp only [htl]
    · rw [if_neg h4] at hb ⊢
      by_cases h5 : (s.take i).any (fun g => g.Name == m.Name) = true
      · rw [if_pos h5] at hb ⊢
        rw [darningref07_Check_l1_inr hb]; simp only [htl]
      · rw [if_neg h5] at hb ⊢
        by_cases h6 : 200 < m.Fields.length
        · rw [if_pos h6] at hb ⊢
          rw [darningref07_Check_l1_inr hb]; simp only [htl]
        · rw [if_neg h6] at hb ⊢
          cases h7 : msgF s.length [] m.Fields with
          | some p =>
            rw [h7] at hb
            rw [darningref07_Check_l1_inr hb]; simp only [htl]
          | none =>
            rw [h7] at hb
            rw [darningref07_Check_l1_inl hb, ih _ hd' (by omega), List.take_succ_eq_append_getElem hil, hx]
theorem refCheck07_is {s : List Mes} (hw : WS s) : darningref07_Check s = some (checkS s) := by
  unfold darningref07_Check checkS
  by_cases h : s.length = 0 ∨ 100 < s.length
  · have e0 : ((s.length : Int) == 0) = decide (s.length = 0) := beq_nat _ 0
    rw [e0, itT (by simp only [Bool.or_eq_true, decide_eq_true_eq]; omega), if_pos h]
  · have e0 : ((s.length : Int) == 0) = decide (s.length = 0) := beq_nat _ 0
    rw [e0, itF (by simp only [Bool.or_eq_false_iff, decide_eq_false_iff_not]; omega), if_neg h]
    have h1 := check_loop1 hw s 0 rfl (Nat.zero_le _)
    have h1' : darningref07_Check_l1 s 0 = _ := h1
    rw [h1', sb, List.take_zero]
    cases chkF s.length [] s with
    | none => rfl
    | some p => rfl
theorem msgF_none {n : Int} : ∀ (l prev : List Fld), msgF n prev l = none ↔ ∀ (k : Nat) (f : Fld), l[k]? = some f → faultF n (prev ++ l.take k) f = 0
  | [], prev => by simp [msgF]
  | f :: l, prev => by
    have hb := fault_bd n prev f
    rw [msgF]
    by_cases h : 0 < faultF n prev f
    · rw [if_pos h]
      refine ⟨(fun h' => nomatch h'), fun h' => ?_⟩
      have := h' 0 f rfl
      simp at this; omega
    · rw [if_neg h, msgF_none l (prev ++ [f])]
      constructor
      · intro h' k g hg
        cases k with
        | zero => simp at hg; subst hg; simp; omega
        | succ k => have := h' k g (by simpa using hg); simpa using this
      · intro h' k g hg
        have := h' (k + 1) g (by simpa using hg)
        simpa using this
theorem chkF_none {n : Int} : ∀ (l prev : List Mes), chkF n prev l = none ↔ ∀ (i : Nat) (m : Mes), l[i]? = some m → nameOk m.Name = true ∧ (prev ++ l.take i).any (fun g => g.Name == m.Name) = false ∧ m.Fields.length ≤ 200 ∧ msgF n [] m.Fields = none
  | [], prev => by simp [chkF]
  | m :: l, prev => by
    rw [chkF]
    by_cases h1 : nameOk m.Name = false
    · rw [if_pos h1]
      refine ⟨(fun h' => nomatch h'), fun h' => ?_⟩
      have := (h' 0 m rfl).1
      rw [h1] at this; cases this
    · rw [if_neg h1]
      by_cases h2 : prev.any (fun g => g.Name == m.Name) = true
      · rw [if_pos h2]
        refine ⟨(fun h' => nomatch h'), fun h' => ?_⟩
        have := (h' 0 m rfl).2.1
        simp only [List.take_zero, List.append_nil] at this
        rw [h2] at this; cases this
      · rw [if_neg h2]
        by_cases h3 : 200 < m.Fields.length
        · rw [if_pos h3]
          refine ⟨(fun h' => nomatch h'), fun h' => ?_⟩
          have := (h' 0 m rfl).2.2.1
          omega
        · rw [if_neg h3]
          cases h4 : msgF n [] m.Fields with
          | some p =>
            refine ⟨(fun h' => nomatch h'), fun h' => ?_⟩
            have := (h' 0 m rfl).2.2.2
            rw [h4] at this; cases this
          | none =>
            simp only
            rw [chkF_none l (prev ++ [m])]
            constructor
            · intro h' i g hg
              cases i with
              | zero => simp at hg; subst hg; exact ⟨by simpa using h1, by simpa using h2, by omega, h4⟩
              | succ i => have := h' i g (by simpa using hg); simpa using this
            · intro h' i g hg
              have := h' (i + 1) g (by simpa using hg)
              simpa using this
theorem msg_pos : ∀ (n : Int) (l prev : List Fld) (k : Nat) (w : Int), msgF n prev l = some (k, w) → 0 < w := by
  intro n l
  induction l with
  | nil => intro prev k w h; cases h
  | cons f l ih =>
    intro prev k w h
    rw [msgF] at h
    split at h
    · cases h; assumption
    · exact ih _ _ _ h
theorem chk_pos : ∀ (n : Int) (l prev : List Mes) (i : Nat) (k w : Int), chkF n prev l = some (i, k, w) → 0 < w := by
  intro n l
  induction l with
  | nil => intro prev i k w h; cases h
  | cons m l ih =>
    intro prev i k w h
    rw [chkF] at h
    split at h
    · cases h; omega
    · split at h
      · cases h; omega
      · split at h
        · cases h; omega
        · split at h
          · rename_i k' w' h'; cases h; exact msg_pos _ _ _ _ _ h'
          · exact ih _ _ _ _ h
structure FldOk (n : Int) (f : Fld) : Prop where
  name : nameOk f.Name = true
  lo : 1 ≤ f.Number
  hi : f.Number ≤ 536870911
  kind : kRight f.Kind = true
  packed : f.Packed = true → f.Repeated = true ∧ kNum f.Kind = true
  sub : f.Kind = 17 → 0 ≤ f.Of ∧ f.Of < n
  noSub : f.Kind ≠ 17 → f.Of = 0
theorem fault_zero {n : Int} {prev : List Fld} {f : Fld} (h : faultF n prev f = 0) : FldOk n f ∧ prev.any (fun g => g.Name == f.Name) = false ∧ prev.any (fun g => g.Number == f.Number) = false := by
  unfold faultF at h
  split at h
  · omega
  · rename_i h1
    split at h
    · omega
    · rename_i h2
      split at h
      · omega
      · rename_i h3
        split at h
        · omega
        · rename_i h4
          split at h
          · omega
          · rename_i h5
            split at h
            · omega
            · rename_i h6
              split at h
              · omega
              · rename_i h7
                refine ⟨⟨by simpa using h1, by omega, by omega, by simpa using h5, fun hp => ?_, fun hk => by omega, fun hk => by omega⟩, by simpa using h2, by simpa using h4⟩
                by_cases hq : f.Repeated = true ∧ kNum f.Kind = true
                · exact hq
                · exact absurd ⟨hp, hq⟩ h6
structure Right7 (s : List Mes) : Prop where
  len : 1 ≤ s.length ∧ s.length ≤ 100
  name : ∀ m ∈ s, nameOk m.Name = true
  names : ∀ (i j : Nat) (a b : Mes), i < j → s[i]? = some a → s[j]? = some b → a.Name ≠ b.Name
  few : ∀ m ∈ s, m.Fields.length ≤ 200
  fld : ∀ m ∈ s, ∀ f ∈ m.Fields, FldOk s.length f
  nums : ∀ m ∈ s, ∀ (i j : Nat) (f g : Fld), i < j → m.Fields[i]? = some f → m.Fields[j]? = some g → f.Number ≠ g.Number ∧ f.Name ≠ g.Name
theorem any_false {α : Type} {l : List α} {p : α → Bool} (h : l.any p = false) {x : α} (hx : x ∈ l) : p x = false := by
  rw [List.any_eq_false] at h
  simpa using h x hx
theorem right7_of {s : List Mes} (h : rightS s = true) : Right7 s := by
  have h0 : (checkS s).2.2 = 0 := by simpa [rightS] using h
  have h1 : ¬ (s.length = 0 ∨ 100 < s.length) := fun hh => by unfold checkS at h0; rw [if_pos hh] at h0; simp at h0
  have h2 : chkF s.length [] s = none := by
    cases h4 : chkF s.length [] s with
    | none => rfl
    | some p =>
      exfalso
      obtain ⟨i, k, w⟩ := p
      have h5 : (checkS s).2.2 = w := by unfold checkS; rw [if_neg h1, h4]
      have := chk_pos _ _ _ _ _ _ h4
      omega
  have h3 := (chkF_none s []).1 h2
  have at' : ∀ m ∈ s, nameOk m.Name = true ∧ m.Fields.length ≤ 200 ∧ msgF s.length [] m.Fields = none := fun m hm => by
    obtain ⟨i, hi, rfl⟩ := List.getElem_of_mem hm
    have := h3 i _ (List.getElem?_eq_getElem hi)
    exact ⟨this.1, this.2.2.1, this.2.2.2⟩
  refine ⟨by omega, fun m hm => (at' m hm).1, fun i j a b hij ha hb => ?_, fun m hm => (at' m hm).2.1, fun m hm f hf => ?_, fun m hm i j f g hij hf hg => ?_⟩
  · have := (h3 j b hb).2.1
    have hai : a ∈ ([] ++ s.take j : List Mes) := by
      rw [List.nil_append]
      exact List.mem_of_getElem? (i := i) (by rw [List.getElem?_take, if_pos hij]; exact ha)
    simpa using any_false this hai
  · have h4 := (msgF_none m.Fields []).1 (at' m hm).2.2
    obtain ⟨i, hi, rfl⟩ := List.getElem_of_mem hf
    exact (fault_zero (h4 i _ (List.getElem?_eq_getElem hi))).1
  · have h4 := (msgF_none m.Fields []).1 (at' m hm).2.2
    obtain ⟨_, k1, k2⟩ := fault_zero (h4 j g hg)
    have hai : f ∈ ([] ++ m.Fields.take j : List Fld) := by
      rw [List.nil_append]
      exact List.mem_of_getElem? (i := i) (by rw [List.getElem?_take, if_pos hij]; exact hf)
    exact ⟨by simpa using any_false k2 hai, by simpa using any_false k1 hai⟩
theorem few_loop2 {s : List Mes} {i : Nat} {m : Mes} (hi : ∃ h : i < s.length, s[i] = m) (hb : m.Fields.length ≤ 140737488351232) : ∀ (d k : Nat) (n : Int), k + d = m.Fields.length → ∃ r, darninglaw07_Few_l2 i s n k = some r := by
  obtain ⟨hil, hm⟩ := hi
  have e1 : idx s (i : Int) = some m := by rw [idx_of rfl hil, hm]
  intro d
  induction d with
  | zero =>
    intro k n hk
    refine ⟨n, darninglaw07_Few_l2_inr ?_⟩
    unfold darninglaw07_Few_b2
    rw [e1, sb, itF (by simp; omega)]
  | succ d ih =>
    intro k n hk
    obtain ⟨r, hr⟩ := ih (k + 1) (IntKind.i64.wrap (n + (IntKind.i64.wrap (Int.tdiv (((m.Fields[k]'(by omega)).Name.length : Int)) 100)))) (by omega)
    refine ⟨r, (darninglaw07_Few_l2_inl (k' := ((k + 1 : Nat) : Int)) ?_).trans hr⟩
    unfold darninglaw07_Few_b2
    rw [e1, sb, itT (by simp; omega), sb, idx_of rfl (by omega), sb, wrap_i64 (x := (k : Int) + 1) (by omega)]
    push_cast; rfl
theorem few_is {s : List Mes} (hw : WS s) : ∃ b, darninglaw07_Few s = some b := by
  obtain ⟨hs, hm⟩ := hw
  have key : ∀ (d i : Nat) (n : Int), i + d = s.length → ∃ r, darninglaw07_Few_l1 s n i = some r := by
    intro d
    induction d with
    | zero =>
      intro i n hi
      refine ⟨n, darninglaw07_Few_l1_inr ?_⟩
      unfold darninglaw07_Few_b1
      rw [itF (by simp; omega)]
    | succ d ih =>
      intro i n hi
      have hil : i < s.length := by omega
      obtain ⟨q, hq⟩ := few_loop2 (s := s) (i := i) (m := s[i]) ⟨hil, rfl⟩ (hm _ (List.getElem_mem hil)).2.1 (s[i]).Fields.length 0
        (IntKind.i64.wrap ((IntKind.i64.wrap ((IntKind.i64.wrap (n + 1)) + (IntKind.i64.wrap (Int.tdiv ((s[i]).Name.length : Int) 100)))) + ((s[i]).Fields.length : Int))) (by omega)
      have hq' : darninglaw07_Few_l2 i s (IntKind.i64.wrap ((IntKind.i64.wrap ((IntKind.i64.wrap (n + 1)) + (IntKind.i64.wrap (Int.tdiv ((s[i]).Name.length : Int) 100)))) + ((s[i]).Fields.length : Int))) 0 = some q := hq
      obtain ⟨r, hr⟩ := ih (i + 1) q (by omega)
      refine ⟨r, (darninglaw07_Few_l1_inl (i' := ((i + 1 : Nat) : Int)) ?_).trans hr⟩
      unfold darninglaw07_Few_b1
      rw [itT (by simp; omega), idx_of rfl hil, sb, sb, hq', sb, wrap_i64 (x := (i : Int) + 1) (by omega)]
      push_cast; rfl
  obtain ⟨r, hr⟩ := key s.length 0 0 (by omega)
  have hr' : darninglaw07_Few_l1 s 0 0 = some r := hr
  exact ⟨_, by unfold darninglaw07_Few; rw [hr', sb]⟩
def keyOf (m : Mes) (p : Int) : Int := (m.Fields.getD p.toNat ⟨[], 0, 0, false, false, 0⟩).Number
def before (κ : Int → Int) (a b : Int) : Prop := κ a < κ b ∨ κ a = κ b ∧ a < b
end Go.Proofs.Ytnchbppkppbflaa
namespace Go.Proofs.Ytnchbppkppbflaa
open Go
set_option linter.unusedVariables false
def namesL : List Str := [[], [105, 110, 116, 51, 50], [105, 110, 116, 54, 52], [117, 105, 110, 116, 51, 50], [117, 105, 110, 116, 54, 52], [115, 105, 110, 116, 51, 50], [115, 105, 110, 116, 54, 52], [98, 111, 111, 108], [101, 110, 117, 109], [102, 105, 120, 101, 100, 51, 50], [115, 102, 105, 120, 101, 100, 51, 50], [102, 108, 111, 97, 116], [102, 105, 120, 101, 100, 54, 52], [115, 102, 105, 120, 101, 100, 54, 52], [100, 111, 117, 98, 108, 101], [115, 116, 114, 105, 110, 103], [98, 121, 116, 101, 115], [109, 101, 115, 115, 97, 103, 101]]
def kName (k : Int) : Str := (namesL[k.toNat]?).getD []
def kT : List (Int × T_name_wire) := [(1, ⟨[105, 110, 116, 51, 50], 0⟩), (2, ⟨[105, 110, 116, 54, 52], 0⟩), (3, ⟨[117, 105, 110, 116, 51, 50], 0⟩), (4, ⟨[117, 105, 110, 116, 54, 52], 0⟩), (5, ⟨[115, 105, 110, 116, 51, 50], 0⟩), (6, ⟨[115, 105, 110, 116, 54, 52], 0⟩), (7, ⟨[98, 111, 111, 108], 0⟩), (8, ⟨[101, 110, 117, 109], 0⟩), (9, ⟨[102, 105, 120, 101, 100, 51, 50], 5⟩), (10, ⟨[115, 102, 105, 120, 101, 100, 51, 50], 5⟩), (11, ⟨[102, 108, 111, 97, 116], 5⟩), (12, ⟨[102, 105, 120, 101, 100, 54, 52], 1⟩), (13, ⟨[115, 102, 105, 120, 101, 100, 54, 52], 1⟩), (14, ⟨[100, 111, 117, 98, 108, 101], 1⟩), (15, ⟨[115, 116, 114, 105, 110, 103], 2⟩), (16, ⟨[98, 121, 116, 101, 115], 2⟩), (17, ⟨[109, 101, 115, 115, 97, 103, 101], 2⟩)]
theorem kinds_is : kind_kinds = some kT := rfl
theorem right_cases {k : Int} (h : kRight k = true) : k = 1 ∨ k = 2 ∨ k = 3 ∨ k = 4 ∨ k = 5 ∨ k = 6 ∨ k = 7 ∨ k = 8 ∨ k = 9 ∨ k = 10 ∨ k = 11 ∨ k = 12 ∨ k = 13 ∨ k = 14 ∨ k = 15 ∨ k = 16 ∨ k = 17 := by
  have := of_decide_eq_true h
  omega
theorem kT_get {k : Int} (h : kRight k = true) : mget kT k = some ⟨kName k, kWire k⟩ := by
  rcases right_cases h with rfl | rfl | rfl | rfl | rfl | rfl | rfl | rfl | rfl | rfl | rfl | rfl | rfl | rfl | rfl | rfl | rfl <;> rfl
theorem kT_keys {e : Int × T_name_wire} (h : e ∈ kT) : kRight e.1 = true ∧ e.2 = ⟨kName e.1, kWire e.1⟩ := by
  have : kT.all (fun e => kRight e.1 && decide (e.2 = ⟨kName e.1, kWire e.1⟩)) = true := by decide
  have h1 := List.all_eq_true.1 this e h
  simp only [Bool.and_eq_true, decide_eq_true_eq] at h1
  exact h1
theorem kT_none {k : Int} (h : kRight k = false) : mget kT k = none := by
  cases hg : mget kT k with
  | none => rfl
  | some x =>
    have mem : ∀ {m : List (Int × T_name_wire)} {x : T_name_wire}, mget m k = some x → (k, x) ∈ m := fun {m x} hg => by
      induction m with
      | nil => cases hg
      | cons p m ih =>
        rw [mget] at hg
        split at hg
        · rename_i e; cases hg; rw [e]; exact List.mem_cons_self
        · exact List.mem_cons_of_mem _ (ih hg)
    have h1 := (kT_keys (mem hg)).1
    simp only at h1
    rw [h] at h1
    cases h1
theorem kwire_is (k : Int) : kind_Wire k = some (if kRight k then (kWire k, 0) else (0, 2)) := by
  unfold kind_Wire
  rw [kinds_is, sb]
  cases h : kRight k with
  | true => rw [kT_get h]; rfl
  | false => rw [kT_none h]; rfl
theorem knumber_is (k : Int) : kind_Number k = some (kNum k) := by
  unfold kind_Number
  rw [kwire_is, sb]
  cases h : kRight k with
  | true =>
    rcases right_cases h with rfl | rfl | rfl | rfl | rfl | rfl | rfl | rfl | rfl | rfl | rfl | rfl | rfl | rfl | rfl | rfl | rfl <;> rfl
  | false =>
    have h1 := of_decide_eq_false h
    have : kNum k = false := decide_eq_false (by omega)
    rw [this]
    rfl
theorem keys_kT : kT.map Prod.fst = [1, 2, 3, 4, 5, 6, 7, 8, 9, 10, 11, 12, 13, 14, 15, 16, 17] := rfl
theorem kall_is : kind_All = some [1, 2, 3, 4, 5, 6, 7, 8, 9, 10, 11, 12, 13, 14, 15, 16, 17] := by
  have e : keysO kT = some [1, 2, 3, 4, 5, 6, 7, 8, 9, 10, 11, 12, 13, 14, 15, 16, 17] := by
    unfold keysO
    rw [if_pos ⟨by decide, by decide⟩, keys_kT, List.mergeSort_of_pairwise (by decide)]
  unfold kind_All
  rw [kinds_is, sb, e, sb]
end Go.Proofs.Ytnchbppkppbflaa
namespace Go.Proofs.Ytnchbppkppbflaa
open Go
set_option linter.unusedVariables false
def lt7 (c : UInt8) : Bool := decide (97 ≤ c.toNat ∧ c.toNat ≤ 122 ∨ 65 ≤ c.toNat ∧ c.toNat ≤ 90 ∨ c.toNat = 95)
def dg7 (c : UInt8) : Bool := decide (48 ≤ c.toNat ∧ c.toNat ≤ 57)
theorem isDigit_is (c : UInt8) : schema_isDigit (c.toNat : Int) = some (dg7 c) := by
  unfold schema_isDigit dg7
  congr 1
  rw [Bool.eq_iff_iff]
  simp
  omega
theorem isLetter_is (c : UInt8) : schema_isLetter (c.toNat : Int) = some (lt7 c) := by
  unfold schema_isLetter lt7
  congr 1
  by_cases h1 : (c.toNat : Int) ≥ 97 <;> by_cases h2 : (c.toNat : Int) ≥ 65 <;> simp only [h1, h2, decide_true, decide_false, if_true, if_false, Bool.false_eq_true] <;> rw [Bool.eq_iff_iff] <;> simp <;> omega
theorem isName_loop (s : List UInt8) (hs : s.length ≤ 1152921504606846976) : ∀ (l : List UInt8) (i : Nat), s.drop i = l → schema_isName_l1 s i = some (if (l.all fun c => lt7 c || dg7 c) = true then .inl () else .inr ()) := by
  intro l
  induction l with
  | nil =>
    intro i hd
    have := drop_nil7 hd
    refine schema_isName_l1_inr ?_
    unfold schema_isName_b1
    rw [itF (by simp; omega)]
    rfl
  | cons c l ih =>
    intro i hd
    obtain ⟨hi, hc, hd'⟩ := drop_cons7 hd
    have hb : schema_isName_b1 s i = if (lt7 c || dg7 c) = true then some (.inl ((i + 1 : Nat) : Int)) else some (.inr (.inr ())) := by
      unfold schema_isName_b1
      rw [itT (by simp; omega), idx_of rfl hi, sb, hc, isLetter_is, sb, sb, isDigit_is, wrap_i64 (by omega)]
      cases lt7 c <;> cases dg7 c <;> rfl
    rw [List.all_cons]
    cases hk : (lt7 c || dg7 c) with
    | false =>
      rw [hk] at hb
      rw [schema_isName_l1_inr hb]
      rfl
    | true =>
      rw [hk] at hb
      rw [schema_isName_l1_inl hb, ih _ hd', Bool.true_and]
theorem nmA_pos : ∀ (l : List UInt8) (i : Nat), 0 < i → nmA i l = l.all fun c => lt7 c || dg7 c
  | [], _, _ => rfl
  | c :: l, i, h => by
    rw [nmA, nmA_pos l (i + 1) (by omega), List.all_cons]
    congr 1
    unfold nmc lt7 dg7
    rw [Bool.eq_iff_iff]
    simp
    omega
theorem isName_is {s : List UInt8} (hs : s.length ≤ 1152921504606846976) : schema_isName s = some (nameOk s) := by
  unfold schema_isName nameOk
  have hl := isName_loop s hs s 0 rfl
  have hl' : schema_isName_l1 s 0 = _ := hl
  cases s with
  | nil => rfl
  | cons c l =>
    rw [itF (by simp)]
    by_cases h60 : ((c :: l).length : Int) > 60
    · rw [itT (by simpa using h60), sb, itT rfl]
      have : decide (1 ≤ (c :: l).length ∧ (c :: l).length ≤ 60) = false := by simp only [decide_eq_false_iff_not]; omega
      rw [this, Bool.and_false]
    · have hd : decide (1 ≤ (c :: l).length ∧ (c :: l).length ≤ 60) = true := by simp only [decide_eq_true_eq]; refine ⟨by simp, by omega⟩
      have hc : idx (c :: l) 0 = some c := by simp [idx]
      rw [itF (by simpa using h60), hc, sb, isDigit_is, sb, sb, hd, Bool.and_true, hl', sb]
      have e : nmA 0 (c :: l) = (lt7 c && l.all fun c => lt7 c || dg7 c) := by
        rw [nmA, nmA_pos l 1 (by omega)]
        congr 1
        unfold nmc lt7
        rw [Bool.eq_iff_iff]
        simp
        omega
      have hx : lt7 c = true → dg7 c = false := by
        unfold lt7 dg7
        simp only [decide_eq_true_eq, decide_eq_false_iff_not]
        omega
      rw [e, List.all_cons]
      cases h1 : lt7 c <;> cases h2 : dg7 c <;> first | (rw [hx h1] at h2; cases h2; done) | skip
      · rfl
      · rfl
      · cases l.all fun c => lt7 c || dg7 c <;> rfl
theorem index_is {l : List Int} (hl : l.length ≤ 1152921504606846976) (v : Int) : slices_Index___int_int_ l v = some (firstI (fun x => v == x) l) := by
  unfold slices_Index___int_int_
  have h := find_loop (fun x => v == x) l (fun i => slices_Index___int_int__l1 l v i) (slices_Index___int_int__l1_inr (by unfold slices_Index___int_int__b1; rw [itF (by simp)])) (fun i hi => by
    by_cases hp : (v == l[i]) = true
    · rw [if_pos hp]; exact slices_Index___int_int__l1_inr (by unfold slices_Index___int_int__b1; rw [itT (by simp; omega), idx_of rfl hi, sb, itT hp])
    · rw [if_neg hp]; exact slices_Index___int_int__l1_inl (by unfold slices_Index___int_int__b1; rw [itT (by simp; omega), idx_of rfl hi, sb, itF (by simpa using hp), wrap_i64 (by omega)]; rfl)) l.length 0 (by omega) (fun j _ h => by omega)
  have h' : slices_Index___int_int__l1 l v 0 = _ := h
  rw [h', sb]
  unfold firstI
  cases l.findIdx? (fun x => v == x) <;> rfl
theorem firstI_nonneg {α : Type} (p : α → Bool) (l : List α) : decide (firstI p l ≥ 0) = l.any p := by
  cases h : l.findIdx? p with
  | none =>
    rw [firstI_none h]
    rw [List.findIdx?_eq_none_iff] at h
    symm
    rw [List.any_eq_false.2 fun x hx => by simpa using h x hx]
    rfl
  | some i =>
    rw [firstI_some h]
    rw [List.findIdx?_eq_some_iff_getElem] at h
    obtain ⟨hi, hp, _⟩ := h
    symm
    rw [List.any_eq_true.2 ⟨l[i], List.getElem_mem hi, hp⟩]
    simp
theorem contains_is {l : List Int} (hl : l.length ≤ 1152921504606846976) (v : Int) : slices_Contains___int_int_ l v = some (l.any fun x => v == x) := by
  unfold slices_Contains___int_int_
  rw [index_is hl, sb, firstI_nonneg]
def K17 : List Int := [1, 2, 3, 4, 5, 6, 7, 8, 9, 10, 11, 12, 13, 14, 15, 16, 17]
theorem kinds_any (k : Int) : (K17.any fun x => k == x) = kRight k := by
  unfold kRight K17
  rw [Bool.eq_iff_iff]
  simp
  omega
def hasN (m : List (T_message_name × Bool)) (i : Int) (n : Str) : Bool := (mget m (⟨i, n⟩ : T_message_name)).getD false
def hasU (m : List (T_message_number × Bool)) (i : Int) (n : Int) : Bool := (mget m (⟨i, n⟩ : T_message_number)).getD false
theorem hasN_put (m : List (T_message_name × Bool)) (i j : Int) (n k : Str) : hasN (mput m ⟨i, n⟩ true) j k = (decide (j = i ∧ k = n) || hasN m j k) := by
  unfold hasN
  rw [mget_mput]
  by_cases h : j = i ∧ k = n
  · obtain ⟨rfl, rfl⟩ := h; simp
  · rw [if_neg (fun e => h (by injection e with e1 e2; exact ⟨e1, e2⟩))]; simp [h]
theorem hasU_put (m : List (T_message_number × Bool)) (i j : Int) (n k : Int) : hasU (mput m ⟨i, n⟩ true) j k = (decide (j = i ∧ k = n) || hasU m j k) := by
  unfold hasU
  rw [mget_mput]
  by_cases h : j = i ∧ k = n
  · obtain ⟨rfl, rfl⟩ := h; simp
  · rw [if_neg (fun e => h (by injection e with e1 e2; exact ⟨e1, e2⟩))]; simp [h]
theorem isNumber_is (n : Int) : schema_isNumber n = some (decide ¬ (n < 1 ∨ n > 536870911 ∨ (19000 ≤ n ∧ n < 20000))) := by
  unfold schema_isNumber
  congr 1
  rw [Bool.eq_iff_iff]
  simp
  omega
theorem mayPack_is (f : Fld) : schema_mayPack f = some (f.Repeated && kNum f.Kind) := by
  unfold schema_mayPack
  rw [knumber_is]
  cases f.Repeated <;> rfl
theorem leads_is (n : Int) (K : List Int) (nm : List (T_message_name × Bool)) (nu : List (T_message_number × Bool)) (f : Fld) : schema_check_leads ⟨n, K, nm, nu⟩ f = some (decide ¬ (f.Kind = 17 ∧ (f.Of < 0 ∨ f.Of ≥ n) ∨ f.Kind ≠ 17 ∧ f.Of ≠ 0)) := by
  unfold schema_check_leads
  by_cases h : f.Kind = 17
  · rw [itT (by simpa using h)]
    congr 1
    rw [Bool.eq_iff_iff]
    simp [h]
  · rw [itF (by simpa using h)]
    congr 1
    rw [Bool.eq_iff_iff]
    simp [h]
theorem field_is {n i : Int} {nm : List (T_message_name × Bool)} {nu : List (T_message_number × Bool)} {prev : List Fld} {f : Fld} (hf : f.Name.length ≤ 1152921504606846976) (hN : hasN nm i f.Name = prev.any fun g => g.Name == f.Name) (hU : hasU nu i f.Number = prev.any fun g => g.Number == f.Number) :
    schema_check_field ⟨n, K17, nm, nu⟩ i f = some (faultF n prev f, if faultF n prev f = 0 then (mput nm ⟨i, f.Name⟩ true, mput nu ⟨i, f.Number⟩ true) else (nm, nu)) := by
  unfold schema_check_field
  rw [isName_is hf, sb]
  have e1 : (mget nm (⟨i, f.Name⟩ : T_message_name)).getD false = hasN nm i f.Name := rfl
  have e2 : (mget nu (⟨i, f.Number⟩ : T_message_number)).getD false = hasU nu i f.Number := rfl
  simp only [e1, e2, hN, hU]
  have hz : ∀ (k : Int) (x y : List (T_message_name × Bool) × List (T_message_number × Bool)), k ≠ 0 → (if k = 0 then x else y) = y := fun k x y h => if_neg h
  by_cases h1 : nameOk f.Name = false
  · have hF : faultF n prev f = 5 := by unfold faultF; rw [if_pos h1]
    rw [hF, hz 5 _ _ (by decide), itT (by rw [h1]; rfl)]
  rw [itF (show (!nameOk f.Name) = false by simpa using h1)]
  by_cases h2 : (prev.any fun g => g.Name == f.Name) = true
  · have hF : faultF n prev f = 6 := by unfold faultF; rw [if_neg h1, if_pos h2]
    rw [hF, hz 6 _ _ (by decide), itT h2]
  have h2' : (prev.any fun g => g.Name == f.Name) = false := eq_false_of_ne_true h2
  rw [itF h2', isNumber_is, sb]
  by_cases h3 : f.Number < 1 ∨ f.Number > 536870911 ∨ (19000 ≤ f.Number ∧ f.Number < 20000)
  · have hF : faultF n prev f = 7 := by unfold faultF; rw [if_neg h1, if_neg h2, if_pos h3]
    rw [hF, hz 7 _ _ (by decide), itT (by rw [decide_eq_false (fun h => h h3)]; rfl)]
  rw [itF (by rw [decide_eq_true h3]; rfl)]
  by_cases h4 : (prev.any fun g => g.Number == f.Number) = true
  · have hF : faultF n prev f = 8 := by unfold faultF; rw [if_neg h1, if_neg h2, if_neg h3, if_pos h4]
    rw [hF, hz 8 _ _ (by decide), itT h4]
  have h4' : (prev.any fun g => g.Number == f.Number) = false := eq_false_of_ne_true h4
  rw [itF h4', contains_is (by decide), sb, kinds_any]
  by_cases h5 : kRight f.Kind = false
  · have hF : faultF n prev f = 9 := by unfold faultF; rw [if_neg h1, if_neg h2, if_neg h3, if_neg h4, if_pos h5]
    rw [hF, hz 9 _ _ (by decide), itT (by rw [h5]; rfl)]
  rw [itF (show (!kRight f.Kind) = false by simpa using h5), mayPack_is]
  have hg : (if f.Packed = true then (some (f.Repeated && kNum f.Kind) >>= fun rv4 => some (!rv4)) else some false) = some (decide (f.Packed = true ∧ ¬ (f.Repeated = true ∧ kNum f.Kind = true))) := by
    cases f.Packed <;> cases f.Repeated <;> cases kNum f.Kind <;> rfl
  rw [hg, sb]
  by_cases h6 : f.Packed = true ∧ ¬ (f.Repeated = true ∧ kNum f.Kind = true)
  · have hF : faultF n prev f = 10 := by unfold faultF; rw [if_neg h1, if_neg h2, if_neg h3, if_neg h4, if_neg h5, if_pos h6]
    rw [hF, hz 10 _ _ (by decide), itT (decide_eq_true h6)]
  rw [itF (decide_eq_false h6), leads_is, sb]
  by_cases h7 : f.Kind = 17 ∧ (f.Of < 0 ∨ f.Of ≥ n) ∨ f.Kind ≠ 17 ∧ f.Of ≠ 0
  · have hF : faultF n prev f = 11 := by unfold faultF; rw [if_neg h1, if_neg h2, if_neg h3, if_neg h4, if_neg h5, if_neg h6, if_pos h7]
    rw [hF, hz 11 _ _ (by decide), itT (by rw [decide_eq_false (fun h => h h7)]; rfl)]
  have hF : faultF n prev f = 0 := by unfold faultF; rw [if_neg h1, if_neg h2, if_neg h3, if_neg h4, if_neg h5, if_neg h6, if_neg h7]
  rw [hF, if_pos rfl, itF (by rw [decide_eq_true h7]; rfl)]
theorem message_is {n : Int} {nm : List (T_message_name × Bool)} {nu : List (T_message_number × Bool)} {prev : List Mes} {m : Mes} (hm : m.Name.length ≤ 1152921504606846976) (hN : hasN nm (-1) m.Name = prev.any fun g => g.Name == m.Name) :
    schema_check_message ⟨n, K17, nm, nu⟩ m = some (if nameOk m.Name = false then (2, nm, nu) else if (prev.any fun g => g.Name == m.Name) = true then (3, nm, nu) else if 200 < m.Fields.length then (4, nm, nu) else (0, mput nm ⟨-1, m.Name⟩ true, nu)) := by
  unfold schema_check_message
  rw [isName_is hm, sb]
  have e1 : (mget nm (⟨(-1), m.Name⟩ : T_message_name)).getD false = hasN nm (-1) m.Name := rfl
  simp only [e1, hN]
  by_cases h1 : nameOk m.Name = false
  · rw [if_pos h1, itT (show (!nameOk m.Name) = true by rw [h1]; rfl)]
  rw [if_neg h1, itF (show (!nameOk m.Name) = false by simpa using h1)]
  by_cases h2 : (prev.any fun g => g.Name == m.Name) = true
  · rw [if_pos h2, itT h2]
  have h2' : (prev.any fun g => g.Name == m.Name) = false := eq_false_of_ne_true h2
  rw [if_neg h2, itF h2']
  by_cases h3 : 200 < m.Fields.length
  · rw [if_pos h3, itT (show decide ((m.Fields.length : Int) > 200) = true by simp; omega)]
  rw [if_neg h3, itF (show decide ((m.Fields.length : Int) > 200) = false by simp; omega)]
structure Met (nm : List (T_message_name × Bool)) (nu : List (T_message_number × Bool)) (i : Nat) (prev : List Mes) (p : List Fld) : Prop where
  mes : ∀ n, hasN nm (-1) n = prev.any fun g => g.Name == n
  nam : ∀ n, hasN nm i n = p.any fun g => g.Name == n
  num : ∀ n, hasU nu i n = p.any fun g => g.Number == n
  later : ∀ (j : Nat) n, i < j → hasN nm j n = false
  laterU : ∀ (j : Nat) n, i < j → hasU nu j n = false
theorem Met.step {nm : List (T_message_name × Bool)} {nu : List (T_message_number × Bool)} {i : Nat} {prev : List Mes} {p : List Fld} (h : Met nm nu i prev p) (f : Fld) : Met (mput nm ⟨i, f.Name⟩ true) (mput nu ⟨i, f.Number⟩ true) i prev (p ++ [f]) := by
  refine ⟨fun n => ?_, fun n => ?_, fun n => ?_, fun j n hj => ?_, fun j n hj => ?_⟩
  · rw [hasN_put, h.mes, decide_eq_false (by omega), Bool.false_or]
  · rw [hasN_put, h.nam, List.any_append, Bool.or_comm]
    congr 1
    simp only [List.any_cons, List.any_nil, Bool.or_false]
    rw [Bool.eq_iff_iff]; simp; exact eq_comm
  · rw [hasU_put, h.num, List.any_append, Bool.or_comm]
    congr 1
    simp only [List.any_cons, List.any_nil, Bool.or_false]
    rw [Bool.eq_iff_iff]; simp; exact eq_comm
  · rw [hasN_put, h.later j n hj, decide_eq_false (by omega)]; rfl
  · rw [hasU_put, h.laterU j n hj, decide_eq_false (by omega)]; rfl
theorem check_l2 {s : List Mes} {i : Nat} {prev : List Mes} {m : Mes} (hb : m.Fields.length ≤ 140737488351232) (hn : ∀ f ∈ m.Fields, f.Name.length ≤ 140737488351232) :
    ∀ (l : List Fld) (k : Nat) (nm : List (T_message_name × Bool)) (nu : List (T_message_number × Bool)), m.Fields.drop k = l → k ≤ m.Fields.length → Met nm nu i prev (m.Fields.take k) →
      (∃ j w, msgF s.length (m.Fields.take k) l = some (j, w) ∧ schema_Check_l2 K17 s i m k nm nu = some (.inr ((j : Int), w))) ∨
      (msgF s.length (m.Fields.take k) l = none ∧ ∃ nm' nu', schema_Check_l2 K17 s i m k nm nu = some (.inl (nm', nu')) ∧ Met nm' nu' i prev m.Fields) := by
  intro l
  induction l with
  | nil =>
    intro k nm nu hd hk hM
    have := drop_nil7 hd
    have hkl : k = m.Fields.length := by omega
    subst hkl
    refine .inr ⟨rfl, nm, nu, schema_Check_l2_inr ?_, by simpa using hM⟩
    unfold schema_Check_b2
    rw [itF (by simp)]
  | cons f l ih =>
    intro k nm nu hd hk hM
    obtain ⟨hi, hc, hd'⟩ := drop_cons7 hd
    have hf := hn f (by rw [← hc]; exact List.getElem_mem hi)
    have hfld := field_is (n := (s.length : Int)) (i := (i : Int)) (nm := nm) (nu := nu) (prev := m.Fields.take k) (f := f) (by omega) (hM.nam _) (hM.num _)
    have htk : m.Fields.take (k + 1) = m.Fields.take k ++ [f] := by rw [List.take_succ_eq_append_getElem hi, hc]
    have hlen : (m.Fields.take k).length = k := by simp; omega
    obtain ⟨bd, _⟩ := fault_bd (s.length : Int) (m.Fields.take k) f
    rw [msgF]
    by_cases h0 : faultF s.length (m.Fields.take k) f = 0
    · rw [if_neg (by omega)]
      rw [h0, if_pos rfl] at hfld
      have hstep : schema_Check_b2 K17 s i m k nm nu = some (.inl (((k + 1 : Nat) : Int), mput nm ⟨i, f.Name⟩ true, mput nu ⟨i, f.Number⟩ true)) := by
        unfold schema_Check_b2
        rw [itT (by simp; omega), idx_of rfl hi, sb, hc, hfld, sb]
        dsimp only
        rw [itF (show ((0 : Int) != 0) = false from rfl), wrap_i64 (by omega)]
        rfl
      rw [schema_Check_l2_inl hstep, ← htk]
      exact ih (k + 1) _ _ hd' (by omega) (by rw [htk]; exact hM.step f)
    · rw [if_pos (by omega)]
      rw [if_neg h0] at hfld
      refine .inl ⟨k, _, by rw [hlen], schema_Check_l2_inr ?_⟩
      unfold schema_Check_b2
      rw [itT (by simp; omega), idx_of rfl hi, sb, hc, hfld, sb]
      dsimp only
      rw [itT (show (faultF (s.length : Int) (m.Fields.take k) f != 0) = true by simpa using h0)]
theorem check_l1 {s : List Mes} (hw : WS s) : ∀ (l : List Mes) (i : Nat) (nm : List (T_message_name × Bool)) (nu : List (T_message_number × Bool)), s.drop i = l → i ≤ s.length → Met nm nu i (s.take i) [] →
    schema_Check_l1 K17 s i nm nu = some (match chkF s.length (s.take i) l with | some (j, k, w) => .inr ((j : Int), k, w) | none => .inl ()) := by
  intro l
  induction l with
  | nil =>
    intro i nm nu hd hi hM
    have := drop_nil7 hd
    refine schema_Check_l1_inr ?_
    unfold schema_Check_b1
    rw [itF (by simp; omega)]
    rfl
  | cons m l ih =>
    intro i nm nu hd hi hM
    obtain ⟨hil, hc, hd'⟩ := drop_cons7 hd
    obtain ⟨w1, w2⟩ := hw
    obtain ⟨m1, m2, m3⟩ := w2 m (by rw [← hc]; exact List.getElem_mem hil)
    have hmes := message_is (n := (s.length : Int)) (nm := nm) (nu := nu) (prev := s.take i) (m := m) (by omega) (hM.mes _)
    have htk : s.take (i + 1) = s.take i ++ [m] := by rw [List.take_succ_eq_append_getElem hil, hc]
    have hlen : (s.take i).length = i := by simp; omega
    rw [chkF]
    by_cases h1 : nameOk m.Name = false
    · rw [if_pos h1] at hmes ⊢
      refine schema_Check_l1_inr ?_
      unfold schema_Check_b1
      rw [itT (by simp; omega), idx_of rfl hil, sb, hc, hmes, sb]
      dsimp only
      rw [itT (show ((2 : Int) != 0) = true from rfl), hlen]
    rw [if_neg h1] at hmes ⊢
    by_cases h2 : ((s.take i).any fun g => g.Name == m.Name) = true
    · rw [if_pos h2] at hmes ⊢
      refine schema_Check_l1_inr ?_
      unfold schema_Check_b1
      rw [itT (by simp; omega), idx_of rfl hil, sb, hc, hmes, sb]
      dsimp only
      rw [itT (show ((3 : Int) != 0) = true from rfl), hlen]
    rw [if_neg h2] at hmes ⊢
    by_cases h3 : 200 < m.Fields.length
    · rw [if_pos h3] at hmes ⊢
      refine schema_Check_l1_inr ?_
      unfold schema_Check_b1
      rw [itT (by simp; omega), idx_of rfl hil, sb, hc, hmes, sb]
      dsimp only
      rw [itT (show ((4 : Int) != 0) = true from rfl), hlen]
    rw [if_neg h3] at hmes ⊢
    have hM0 : Met (mput nm ⟨-1, m.Name⟩ true) nu i (s.take i ++ [m]) (m.Fields.take 0) := by
      refine ⟨fun n => ?_, fun n => ?_, fun n => ?_, fun j n hj => ?_, fun j n hj => hM.laterU j n hj⟩
      · rw [hasN_put, hM.mes, List.any_append, Bool.or_comm]
        congr 1
        simp only [List.any_cons, List.any_nil, Bool.or_false]
        rw [Bool.eq_iff_iff]; simp; exact eq_comm
      · rw [hasN_put, hM.nam, decide_eq_false (by omega)]; rfl
      · rw [hM.num]; rfl
      · rw [hasN_put, hM.later j n hj, decide_eq_false (by omega)]; rfl
    have hl2 := check_l2 (s := s) (i := i) m2 m3 m.Fields 0 _ nu rfl (by omega) hM0
    simp only [List.take_zero] at hl2
    rcases hl2 with ⟨j, w, g1, g2⟩ | ⟨g1, nm', nu', g2, g3⟩
    · rw [g1]
      refine schema_Check_l1_inr ?_
      unfold schema_Check_b1
      have g2' : schema_Check_l2 K17 s i m 0 (mput nm ⟨-1, m.Name⟩ true) nu = _ := g2
      rw [itT (by simp; omega), idx_of rfl hil, sb, hc, hmes, sb]
      dsimp only
      rw [itF (show ((0 : Int) != 0) = false from rfl), g2', sb]
      simp only [hlen]
    · rw [g1]
      have hstep : schema_Check_b1 K17 s i nm nu = some (.inl (((i + 1 : Nat) : Int), nm', nu')) := by
        unfold schema_Check_b1
        have g2' : schema_Check_l2 K17 s i m 0 (mput nm ⟨-1, m.Name⟩ true) nu = _ := g2
        rw [itT (by simp; omega), idx_of rfl hil, sb, hc, hmes, sb]
        dsimp only
        rw [itF (show ((0 : Int) != 0) = false from rfl), g2', sb]
        dsimp only
        rw [wrap_i64 (by omega)]
        rfl
      rw [schema_Check_l1_inl hstep]
      simp only []
      rw [← htk]
      refine ih (i + 1) nm' nu' hd' (by omega) ⟨fun n => ?_, fun n => ?_, fun n => ?_, fun j n hj => g3.later j n (by omega), fun j n hj => g3.laterU j n (by omega)⟩
      · rw [htk]; exact g3.mes n
      · rw [g3.later (i + 1) n (by omega)]; rfl
      · rw [g3.laterU (i + 1) n (by omega)]; rfl
theorem check_is {s : List Mes} (hw : WS s) : schema_Check s = some (⟨(checkS s).1, (checkS s).2.1, (checkS s).2.2⟩, if (checkS s).2.2 = 0 then 0 else 9) := by
  unfold schema_Check checkS
  by_cases h : s.length = 0 ∨ 100 < s.length
  · rw [itT (by simp; omega), if_pos h]
    rfl
  · rw [itF (by simp; omega), if_neg h, kall_is, sb]
    have hl := check_l1 hw s 0 [] [] rfl (by omega) ⟨fun n => rfl, fun n => rfl, fun n => rfl, fun j n _ => rfl, fun j n _ => rfl⟩
    simp only [List.take_zero] at hl
    have hl' : schema_Check_l1 [1, 2, 3, 4, 5, 6, 7, 8, 9, 10, 11, 12, 13, 14, 15, 16, 17] s 0 [] [] = _ := hl
    rw [hl', sb]
    cases hc : chkF s.length [] s with
    | none => rfl
    | some q =>
      obtain ⟨i, k, w⟩ := q
      have := chk_pos _ _ _ _ _ _ hc
      simp only
      rw [if_neg (by omega)]
theorem right_is {s : List Mes} (hw : WS s) : schema_Right s = some (rightS s) := by
  unfold schema_Right rightS
  rw [check_is hw, sb]
  by_cases h : (checkS s).2.2 = 0 <;> simp [h]
theorem alive7_is : darninglaw07_alive = some true := by
  unfold darninglaw07_alive
  rw [right_is (by refine ⟨by simp, fun m hm => ?_⟩; simp at hm; subst hm; simp), right_is ⟨by simp, fun m hm => by simp at hm⟩]
  rfl
end Go.Proofs.Ytnchbppkppbflaa
