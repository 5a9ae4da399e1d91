/-
  What the plain functions are. No condition.
-/
import Derived.Test.YtglkepeofhonlaaGreatDoorS1
import Derived.Test.YtglkepeofhonlaaGreatDoorK2
import Derived.Laws.Bits64b
import Derived.IntWalk
import Derived.RowKit
namespace Go.Proofs.YtglkepeofhonlaaGreatDoor
open Go
set_option linter.unusedVariables false
def zhe (k : Int) : Bool := decide (1 ≤ k ∧ k ≤ 17)
def kNum (k : Int) : Bool := decide (1 ≤ k ∧ k ≤ 14)
def zyz (k : Int) : Int := if 15 ≤ k then 2 else if 12 ≤ k then 1 else if 9 ≤ k then 5 else 0
theorem zvi (k : Int) : zfk k = some (zhe k) := by unfold zfk zhe; simp [Bool.decide_and]
theorem zxT (k : Int) : zdU k = some (kNum k) := by unfold zdU kNum; simp [Bool.decide_and]
end Go.Proofs.YtglkepeofhonlaaGreatDoor
namespace Go.Proofs.YtglkepeofhonlaaGreatDoor
open Go
set_option linter.unusedVariables false
abbrev Fld := zb
abbrev Mes := zc
def ziS {α : Type} (p : α → Bool) (l : List α) : Int := match l.findIdx? p with
 | some i => (i : Int)
 | none => -1
theorem zim {α : Type} {p : α → Bool} {l : List α} (h : l.findIdx? p = none) : ziS p l = -1 := by unfold ziS; rw [h]
theorem zin {α : Type} {p : α → Bool} {l : List α} {i : Nat} (h : l.findIdx? p = some i) : ziS p l = (i : Int) := by unfold ziS; rw [h]
theorem zil {α : Type} (p : α → Bool) (l : List α) (F : Int → Option (Unit ⊕ Int)) (h0 : F (l.length : Int) = some (.inl ())) (hs : ∀ (i : Nat) (h : i < l.length), F (i : Int) = if p l[i] then some (.inr (i : Int)) else F ((i + 1 : Nat) : Int)) :
  ∀ (d i : Nat), i + d = l.length → (∀ j (h : j < l.length), j < i → p l[j] = false) → F (i : Int) = some (match l.findIdx? p with | some k => .inr (k : Int) | none => .inl ()) := by
 intro d
 induction d with
 | zero =>
  intro i hi hj
  have : i = l.length := by omega
  subst this
  have hn : l.findIdx? p = none := by
   rw [List.findIdx?_eq_none_iff]
   intro x hx
   obtain ⟨j, hj', rfl⟩ := List.getElem_of_mem hx
   exact hj j hj' hj'
  rw [h0, hn]
 | succ d ih =>
  intro i hi hj
  have hil : i < l.length := by omega
  rw [hs i hil]
  by_cases hp : p l[i] = true
  ·have hf : l.findIdx? p = some i := by
    rw [List.findIdx?_eq_some_iff_getElem]
    exact ⟨hil, hp, fun j hji => by simpa using hj j (by omega) hji⟩
   rw [if_pos hp, hf]
  ·rw [if_neg hp]
   refine ih (i + 1) (by omega) fun j h hji => ?_
   by_cases e : j = i
   ·subst e; simpa using hp
   ·exact hj j h (by omega)
def fldI (m : Mes) (number : Int) : Int := ziS (fun f : Fld => f.Number == number) m.Fields
def nmdI (m : Mes) (name : List UInt8) : Int := ziS (fun f : Fld => f.Name == name) m.Fields
theorem zry {m : Mes} (hm : m.Fields.length ≤ 1152921504606846976) (number : Int) : zfn m number = some (fldI m number) := by
 unfold zfn fldI
 have h := zil (fun f : Fld => f.Number == number) m.Fields (fun i => zdd m number i) (by
   refine zhA ?_
   unfold zaZ
   rw [itF (by simp)])
  (fun i hi => by
   have hb : zaZ m number i = if ((m.Fields[i]).Number == number) = true then some (.inr (.inr (i : Int))) else some (.inl ((i + 1 : Nat) : Int)) := by
    unfold zaZ
    rw [itT (by simp; omega), zE rfl hi, sb, zy (by omega)]; rfl
   by_cases hp : ((m.Fields[i]).Number == number) = true
   ·rw [if_pos hp] at hb ⊢; exact zhA hb
   ·rw [if_neg hp] at hb ⊢; exact zkJ hb)
  m.Fields.length 0 (by omega) (fun j _ hj => by omega)
 have h' : zdd m number 0 = _ := h
 rw [h', sb]
 unfold ziS
 cases m.Fields.findIdx? (fun f : Fld => f.Number == number) <;> rfl
theorem zwG {m : Mes} (hm : m.Fields.length ≤ 1152921504606846976) (name : List UInt8) : zfo m name = some (nmdI m name) := by
 unfold zfo nmdI
 have h := zil (fun f : Fld => f.Name == name) m.Fields (fun i => zde m name i) (by
   refine zhB ?_
   unfold zba
   rw [itF (by simp)])
  (fun i hi => by
   have hb : zba m name i = if ((m.Fields[i]).Name == name) = true then some (.inr (.inr (i : Int))) else some (.inl ((i + 1 : Nat) : Int)) := by
    unfold zba
    rw [itT (by simp; omega), zE rfl hi, sb, zy (by omega)]; rfl
   by_cases hp : ((m.Fields[i]).Name == name) = true
   ·rw [if_pos hp] at hb ⊢; exact zhB hb
   ·rw [if_neg hp] at hb ⊢; exact zkK hb)
  m.Fields.length 0 (by omega) (fun j _ hj => by omega)
 have h' : zde m name 0 = _ := h
 rw [h', sb]
 unfold ziS
 cases m.Fields.findIdx? (fun f : Fld => f.Name == name) <;> rfl
def nmc (i : Nat) (c : UInt8) : Bool := decide (65 ≤ c.toNat ∧ c.toNat ≤ 90 ∨ 97 ≤ c.toNat ∧ c.toNat ≤ 122 ∨ c.toNat = 95 ∨ 0 < i ∧ 48 ≤ c.toNat ∧ c.toNat ≤ 57)
def nmA : Nat → List UInt8 → Bool
 | _, [] => true
 | i, c :: l => nmc i c && nmA (i + 1) l
def zbB (s : List UInt8) : Bool := nmA 0 s && decide (1 ≤ s.length ∧ s.length ≤ 60)
theorem zav {α : Type} {l t : List α} {x : α} {k : Nat} (h : l.drop k = x :: t) : ∃ hk : k < l.length, l[k] = x ∧ l.drop (k + 1) = t := by
 have hk : k < l.length := by
  rcases Nat.lt_or_ge k l.length with h' | h'
  ·exact h'
  ·rw [List.drop_eq_nil_of_le h'] at h; cases h
 rw [List.drop_eq_getElem_cons hk] at h
 injection h with h1 h2
 exact ⟨hk, h1, h2⟩
theorem zaU {α : Type} {l : List α} {k : Nat} (h : l.drop k = []) : l.length ≤ k := by have := congrArg List.length h; simp at this; omega
theorem zzt (s : List UInt8) (hs : s.length ≤ 1152921504606846976) : ∀ (l : List UInt8) (i : Nat), s.drop i = l → zdt s i = some (if nmA i l = true then .inl () else .inr ()) := by
 intro l
 induction l with
 | nil =>
  intro i hd
  have := zaU hd
  refine zhJ ?_
  unfold zbl
  rw [itF (by simp; omega)]; rfl
 | cons c l ih =>
  intro i hd
  obtain ⟨hk, hx, hd'⟩ := zav hd
  have hb : zbl s i = if nmc i c = true then some (.inl ((i + 1 : Nat) : Int)) else some (.inr (.inr ())) := by
   unfold zbl
   rw [itT (by simp; omega), zE rfl hk, sb, hx, zy (by omega)]
   have e : (if (decide ((c.toNat : Int) ≥ 65)) then ((decide ((c.toNat : Int) ≤ 90)) || (if (decide ((c.toNat : Int) ≥ 97)) then ((decide ((c.toNat : Int) ≤ 122)) || (((c.toNat : Int) == 95) || ((decide ((i : Int) > 0)) && ((decide ((c.toNat : Int) ≥ 48)) && (decide ((c.toNat : Int) ≤ 57)))))) else (((c.toNat : Int) == 95) || ((decide ((i : Int) > 0)) && ((decide ((c.toNat : Int) ≥ 48)) && (decide ((c.toNat : Int) ≤ 57))))))) else (if (decide ((c.toNat : Int) ≥ 97)) then ((decide ((c.toNat : Int) ≤ 122)) || (((c.toNat : Int) == 95) || ((decide ((i : Int) > 0)) && ((decide ((c.toNat : Int) ≥ 48)) && (decide ((c.toNat : Int) ≤ 57)))))) else (((c.toNat : Int) == 95) || ((decide ((i : Int) > 0)) && ((decide ((c.toNat : Int) ≥ 48)) && (decide ((c.toNat : Int) ≤ 57))))))) = nmc i c := by
    have e95 : ((c.toNat : Int) == 95) = decide (c.toNat = 95) := zuG _ 95
    have a1 : decide ((c.toNat : Int) ≥ 65) = decide (65 ≤ c.toNat) := decide_eq_decide.2 (by omega)
    have a2 : decide ((c.toNat : Int) ≤ 90) = decide (c.toNat ≤ 90) := decide_eq_decide.2 (by omega)
    have a3 : decide ((c.toNat : Int) ≥ 97) = decide (97 ≤ c.toNat) := decide_eq_decide.2 (by omega)
    have a4 : decide ((c.toNat : Int) ≤ 122) = decide (c.toNat ≤ 122) := decide_eq_decide.2 (by omega)
    have a5 : decide ((i : Int) > 0) = decide (0 < i) := decide_eq_decide.2 (by omega)
    have a6 : decide ((c.toNat : Int) ≥ 48) = decide (48 ≤ c.toNat) := decide_eq_decide.2 (by omega)
    have a7 : decide ((c.toNat : Int) ≤ 57) = decide (c.toNat ≤ 57) := decide_eq_decide.2 (by omega)
    rw [e95, a1, a2, a3, a4, a5, a6, a7]
    simp only [nmc, Bool.decide_or, Bool.decide_and]
    generalize decide (65 ≤ c.toNat) = p1
    generalize decide (c.toNat ≤ 90) = p2
    generalize decide (97 ≤ c.toNat) = p3
    generalize decide (c.toNat ≤ 122) = p4
    generalize decide (c.toNat = 95) = p5
    generalize decide (0 < i) = p6
    generalize decide (48 ≤ c.toNat) = p7
    generalize decide (c.toNat ≤ 57) = p8
    cases p1 <;> cases p2 <;> cases p3 <;> cases p4 <;> cases p5 <;> cases p6 <;> cases p7 <;> cases p8 <;> rfl
   rw [e]
   cases nmc i c
   ·rw [itT (by rfl)]; rfl
   ·rw [itF (by rfl)]; push_cast; rfl
  rw [nmA]
  cases hc : nmc i c
  ·rw [hc, if_neg (by simp)] at hb
   rw [zhJ hb]; rfl
  ·rw [hc, if_pos rfl] at hb
   rw [zlj hb, ih _ hd', Bool.true_and]
theorem zpm {s : List UInt8} (hs : s.length ≤ 1152921504606846976) : zdK s = some (zbB s) := by
 unfold zdK zbB
 have h := zzt s hs s 0 rfl
 have h' : zdt s 0 = _ := h
 rw [h', sb]
 cases nmA 0 s
 ·rfl
 ·simp [Bool.decide_and]
  rw [Bool.eq_iff_iff]; simp; omega
def zdh (n : Int) (prev : List Fld) (f : Fld) : Int :=
 if zbB f.Name = false then 5 else if prev.any (fun g => g.Name == f.Name) = true then 6
 else if f.Number < 1 ∨ f.Number > 536870911 ∨ (19000 ≤ f.Number ∧ f.Number < 20000) then 7
 else if prev.any (fun g => g.Number == f.Number) = true then 8 else if zhe f.Kind = false then 9
 else if f.Packed = true ∧ ¬ (f.Repeated = true ∧ kNum f.Kind = true) then 10
 else if f.Kind = 17 ∧ (f.Of < 0 ∨ f.Of ≥ n) ∨ f.Kind ≠ 17 ∧ f.Of ≠ 0 then 11 else 0
theorem zsi (n : Int) (prev : List Fld) (f : Fld) : 0 ≤ zdh n prev f ∧ zdh n prev f ≤ 11 := by
 unfold zdh
 repeat' split
 all_goals omega
theorem zxt {s : List Mes} {i k : Nat} {m : Mes} (hi : ∃ h : i < s.length, s[i] = m) (hk : k ≤ m.Fields.length) (hb : m.Fields.length ≤ 1152921504606846976) (f : Fld) :
  ∀ (l : List Fld) (j : Nat) (a b : Bool), (m.Fields.take k).drop j = l → j ≤ k → zdc i k s f a b j = some (a || l.any (fun g => g.Name == f.Name), b || l.any (fun g => g.Number == f.Number)) := by
 obtain ⟨hi, hm⟩ := hi
 intro l
 induction l with
 | nil =>
  intro j a b hd hj
  have := zaU hd
  rw [List.length_take] at this
  refine zkI ?_
  unfold zbr
  rw [itF (by simp; omega)]; simp
 | cons g l ih =>
  intro j a b hd hj
  obtain ⟨hjk, hx, hd'⟩ := zav hd
  rw [List.length_take] at hjk
  rw [List.getElem_take] at hx
  refine (zkH (name' := a || (g.Name == f.Name)) (number' := b || (g.Number == f.Number)) (j' := ((j + 1 : Nat) : Int)) ?_).trans ?_
  ·unfold zbr
   have e1 : idx s (i : Int) = some m := by rw [zE rfl hi, hm]
   have e2 : idx m.Fields (j : Int) = some g := by rw [zE rfl (by omega), hx]
   rw [itT (by simp; omega), e1, sb, e2, sb, zy (by omega)]
   cases a <;> cases b <;> (simp only [Bool.false_eq_true, if_false, if_true, e2, sb, Bool.false_or, Bool.true_or]; push_cast; rfl)
  ·rw [ih _ _ _ hd' (by omega), List.any_cons, List.any_cons, Bool.or_assoc, Bool.or_assoc]
theorem zwF {s : List Mes} {i k : Nat} {m : Mes} {f : Fld} (hi : ∃ h : i < s.length, s[i] = m) (hk : ∃ h : k < m.Fields.length, m.Fields[k] = f) (hb : m.Fields.length ≤ 1152921504606846976) (hf : f.Name.length ≤ 1152921504606846976) :
  zfm s i k = some (zdh s.length (m.Fields.take k) f) := by
 obtain ⟨hil, hm⟩ := hi
 obtain ⟨hkl, hfe⟩ := hk
 have e1 : idx s (i : Int) = some m := by rw [zE rfl hil, hm]
 have e2 : idx m.Fields (k : Int) = some f := by rw [zE rfl hkl, hfe]
 have h := zxt ⟨hil, hm⟩ (Nat.le_of_lt hkl) hb f (m.Fields.take k) 0 false false rfl (Nat.zero_le _)
 have h' : zdc i k s f false false 0 = _ := h
 unfold zfm zdh
 rw [e1, sb, e2, sb, h', sb, zpm hf, sb]
 simp only [Bool.false_or]
 cases h1 : zbB f.Name
 ·rw [itT (by rfl), if_pos (show false = false from rfl)]
 ·rw [itF (by rfl), if_neg (show ¬ (true = false) by simp)]
  cases h2 : (m.Fields.take k).any (fun g => g.Name == f.Name)
  ·rw [itF (by rfl), if_neg (show ¬ (false = true) by simp)]
   by_cases h3 : f.Number < 1 ∨ f.Number > 536870911 ∨ (19000 ≤ f.Number ∧ f.Number < 20000)
   ·rw [itT (by simpa using h3), if_pos h3]
   ·rw [itF (by simp; omega), if_neg h3]
    cases h4 : (m.Fields.take k).any (fun g => g.Number == f.Number)
    ·rw [itF (by rfl), if_neg (show ¬ (false = true) by simp), zvi, sb]
     cases h5 : zhe f.Kind
     ·rw [itT (by rfl), if_pos (show false = false from rfl)]
     ·rw [itF (by rfl), if_neg (show ¬ (true = false) by simp)]
      have e10 : (if f.Packed = true then (if f.Repeated = true then (zdU f.Kind >>= fun rv3 => some (!rv3)) else some (!false)) else some false) = some (decide (f.Packed = true ∧ ¬ (f.Repeated = true ∧ kNum f.Kind = true))) := by
       rw [zxT, sb]
       cases f.Packed <;> cases f.Repeated <;> cases kNum f.Kind <;> rfl
      rw [e10, sb]
      by_cases h6 : f.Packed = true ∧ ¬ (f.Repeated = true ∧ kNum f.Kind = true)
      ·rw [itT (decide_eq_true h6), if_pos h6]
      ·rw [itF (decide_eq_false h6), if_neg h6]
       by_cases h7 : f.Kind = 17
       ·by_cases h8 : f.Of < 0 ∨ f.Of ≥ (s.length : Int)
        ·rw [itT (by simp [h7]; simpa using h8), if_pos (.inl ⟨h7, h8⟩)]
        ·rw [itF (by simp [h7]; omega), if_neg (by simp [h7]; omega)]
       ·by_cases h8 : f.Of = 0
        ·rw [itF (by simp [h7, h8]), if_neg (by simp [h7, h8])]
        ·rw [itT (by simp [h7, h8]), if_pos (.inr ⟨h7, h8⟩)]
    ·rw [itT (by rfl), if_pos (show true = true from rfl)]
  ·rw [itT (by rfl), if_pos (show true = true from rfl)]
def msgF (n : Int) (prev : List Fld) : List Fld → Option (Nat × Int)
 | [] => none
 | f :: l => if 0 < zdh n prev f then some (prev.length, zdh n prev f) else msgF n (prev ++ [f]) l
def chkF (n : Int) (prev : List Mes) : List Mes → Option (Nat × Int × Int)
 | [] => none
 | m :: l => if zbB m.Name = false then some (prev.length, -1, 2) else if prev.any (fun g => g.Name == m.Name) = true then some (prev.length, -1, 3)
  else if 200 < m.Fields.length then some (prev.length, -1, 4) else match msgF n [] m.Fields with
   | some (k, w) => some (prev.length, (k : Int), w)
   | none => chkF n (prev ++ [m]) l
def ziD (s : List Mes) : Int × Int × Int := if s.length = 0 ∨ 100 < s.length then (-1, -1, 1) else match chkF s.length [] s with
 | none => (0, 0, 0)
 | some (i, k, w) => ((i : Int), k, w)
def zjN (s : List Mes) : Bool := decide ((ziD s).2.2 = 0)
def WS (s : List Mes) : Prop := s.length ≤ 140737488351232 ∧ ∀ m ∈ s, m.Name.length ≤ 140737488351232 ∧ m.Fields.length ≤ 140737488351232 ∧ ∀ f ∈ m.Fields, f.Name.length ≤ 140737488351232
theorem zvJ {s : List Mes} {i : Nat} {m : Mes} (hi : ∃ h : i < s.length, s[i] = m) (hb : m.Fields.length ≤ 140737488351232) (hn : ∀ f ∈ m.Fields, f.Name.length ≤ 140737488351232) :
  ∀ (l : List Fld) (k : Nat), m.Fields.drop k = l → k ≤ m.Fields.length → zdb i s k = some (match msgF s.length (m.Fields.take k) l with | some (j, w) => .inr ((j : Int), w) | none => .inl ()) := by
 obtain ⟨hil, hm⟩ := hi
 have e1 : idx s (i : Int) = some m := by rw [zE rfl hil, hm]
 intro l
 induction l with
 | nil =>
  intro k hd hk
  have := zaU hd
  refine zhz ?_
  unfold zaY
  rw [e1, sb, itF (by simp; omega)]; rfl
 | cons f l ih =>
  intro k hd hk
  obtain ⟨hkl, hx, hd'⟩ := zav hd
  have hf := zwF (s := s) (i := i) (k := k) (m := m) (f := f) ⟨hil, hm⟩ ⟨hkl, hx⟩ (by omega) (by have := hn f (by rw [← hx]; exact List.getElem_mem hkl); omega)
  have hbd := zsi s.length (m.Fields.take k) f
  have htl : (m.Fields.take k).length = k := by rw [List.length_take]; omega
  rw [msgF]
  by_cases h0 : 0 < zdh s.length (m.Fields.take k) f
  ·rw [if_pos h0]
   refine zhz ?_
   unfold zaY
   rw [e1, sb, itT (by simp; omega), hf, sb, itT (by simpa using h0)]
   simp only [htl]
  ·rw [if_neg h0]
   refine (zkG (k2' := ((k + 1 : Nat) : Int)) ?_).trans ?_
   ·unfold zaY
    rw [e1, sb, itT (by simp; omega), hf, sb, itF (by simp; omega), zy (by omega)]
    push_cast; rfl
   ·rw [ih (k + 1) hd' (by omega), List.take_succ_eq_append_getElem hkl, hx]
theorem zvI {s : List Mes} {i : Nat} {m : Mes} (hi : ∃ h : i < s.length, s[i] = m) (hs : s.length ≤ 140737488351232) :
  ∀ (l : List Mes) (k : Nat) (a : Bool), (s.take i).drop k = l → k ≤ i → zda i s a k = some (a || l.any (fun g => g.Name == m.Name)) := by
 obtain ⟨hil, hm⟩ := hi
 intro l
 induction l with
 | nil =>
  intro k a hd hk
  have := zaU hd
  rw [List.length_take] at this
  refine zkF ?_
  unfold zbq
  rw [itF (by simp; omega)]; simp
 | cons g l ih =>
  intro k a hd hk
  obtain ⟨hkl, hx, hd'⟩ := zav hd
  rw [List.length_take] at hkl
  rw [List.getElem_take] at hx
  refine (zkE (twice' := a || (g.Name == m.Name)) (k' := ((k + 1 : Nat) : Int)) ?_).trans ?_
  ·unfold zbq
   have e1 : idx s (i : Int) = some m := by rw [zE rfl hil, hm]
   have e2 : idx s (k : Int) = some g := by rw [zE rfl (by omega), hx]
   rw [itT (by simp; omega), e1, e2, sb, sb, zy (by omega)]
   cases a <;> (simp only [Bool.false_eq_true, if_false, if_true, sb, Bool.false_or, Bool.true_or]; push_cast; rfl)
  ·rw [ih _ _ hd' (by omega), List.any_cons, Bool.or_assoc]
theorem zvH {s : List Mes} (hw : WS s) : ∀ (l : List Mes) (i : Nat), s.drop i = l → i ≤ s.length → zcZ s i = some (match chkF s.length (s.take i) l with | some (j, k, w) => .inr ((j : Int), k, w) | none => .inl ()) := by
 intro l
 induction l with
 | nil =>
  intro i hd hi
  have := zaU hd
  refine zcR ?_
  unfold zaX
  rw [itF (by simp; omega)]; rfl
 | cons m l ih =>
  intro i hd hi
  obtain ⟨hil, hx, hd'⟩ := zav hd
  obtain ⟨hsl, hwm⟩ := hw
  obtain ⟨w1, w2, w3⟩ := hwm m (by rw [← hx]; exact List.getElem_mem hil)
  have htl : (s.take i).length = i := by rw [List.length_take]; omega
  have e1 : idx s (i : Int) = some m := by rw [zE rfl hil, hx]
  have h2 := zvI ⟨hil, hx⟩ hsl (s.take i) 0 false rfl (Nat.zero_le _)
  have h2' : zda i s false 0 = _ := h2
  have h3 := zvJ ⟨hil, hx⟩ w2 w3 m.Fields 0 rfl (Nat.zero_le _)
  have h3' : zdb i s 0 = _ := h3
  have hb : zaX s i = (if zbB m.Name = false then some (.inr (.inr ((i : Int), -1, 2))) else if (s.take i).any (fun g => g.Name == m.Name) = true then some (.inr (.inr ((i : Int), -1, 3)))
    else if 200 < m.Fields.length then some (.inr (.inr ((i : Int), -1, 4))) else match msgF s.length [] m.Fields with
     | some (k, w) => some (.inr (.inr ((i : Int), (k : Int), w)))
     | none => some (.inl ((i + 1 : Nat) : Int))) := by
   unfold zaX
   rw [itT (by simp; omega), h2', sb, e1, sb, zpm (by omega), sb, sb, h3', sb, Bool.false_or]
   cases h4 : zbB m.Name
   ·rw [itT (by rfl), if_pos (show false = false from rfl)]
   ·rw [itF (by rfl), if_neg (show ¬ (true = false) by simp)]
    cases h5 : (s.take i).any (fun g => g.Name == m.Name)
    ·rw [itF (by rfl), if_neg (show ¬ (false = true) by simp)]
     by_cases h6 : 200 < m.Fields.length
     ·rw [itT (by simp; omega), if_pos h6]
     ·rw [itF (by simp; omega), if_neg h6, List.take_zero]
      cases msgF s.length [] m.Fields with
      | none => simp only; rw [zy (by omega)]; push_cast; rfl
      | some p => rfl
    ·rw [itT (by rfl), if_pos (show true = true from rfl)]
  rw [chkF]
  by_cases h4 : zbB m.Name = false
  ·rw [if_pos h4] at hb ⊢
   rw [zcR hb]; simp only [htl]
  ·rw [if_neg h4] at hb ⊢
   by_cases h5 : (s.take i).any (fun g => g.Name == m.Name) = true
   ·rw [if_pos h5] at hb ⊢
    rw [zcR hb]; simp only [htl]
   ·rw [if_neg h5] at hb ⊢
    by_cases h6 : 200 < m.Fields.length
    ·rw [if_pos h6] at hb ⊢
     rw [zcR hb]; simp only [htl]
    ·rw [if_neg h6] at hb ⊢
     cases h7 : msgF s.length [] m.Fields with
     | some p =>
      rw [h7] at hb
      rw [zcR hb]; simp only [htl]
     | none =>
      rw [h7] at hb
      rw [zkD hb, ih _ hd' (by omega), List.take_succ_eq_append_getElem hil, hx]
theorem ztC {s : List Mes} (hw : WS s) : zfl s = some (ziD s) := by
 unfold zfl ziD
 by_cases h : s.length = 0 ∨ 100 < s.length
 ·have e0 : ((s.length : Int) == 0) = decide (s.length = 0) := zuG _ 0
  rw [e0, itT (by simp only [Bool.or_eq_true, decide_eq_true_eq]; omega), if_pos h]
 ·have e0 : ((s.length : Int) == 0) = decide (s.length = 0) := zuG _ 0
  rw [e0, itF (by simp only [Bool.or_eq_false_iff, decide_eq_false_iff_not]; omega), if_neg h]
  have h1 := zvH hw s 0 rfl (Nat.zero_le _)
  have h1' : zcZ s 0 = _ := h1
  rw [h1', sb, List.take_zero]
  cases chkF s.length [] s with
  | none => rfl
  | some p => rfl
theorem ztD {s : List Mes} (hw : WS s) : zfp s = some (zjN s) := by
 unfold zfp zjN
 rw [ztC hw, sb]
 rfl
theorem zqM {n : Int} : ∀ (l prev : List Fld), msgF n prev l = none ↔ ∀ (k : Nat) (f : Fld), l[k]? = some f → zdh n (prev ++ l.take k) f = 0
 | [], prev => by simp [msgF]
 | f :: l, prev => by
  have hb := zsi n prev f
  rw [msgF]
  by_cases h : 0 < zdh n prev f
  ·rw [if_pos h]
   refine ⟨(fun h' => nomatch h'), fun h' => ?_⟩
   have := h' 0 f rfl
   simp at this; omega
  ·rw [if_neg h, zqM l (prev ++ [f])]
   constructor
   ·intro h' k g hg
    cases k with
    | zero => simp at hg; subst hg; simp; omega
    | succ k => have := h' k g (by simpa using hg); simpa using this
   ·intro h' k g hg
    have := h' (k + 1) g (by simpa using hg)
    simpa using this
theorem ztM {n : Int} : ∀ (l prev : List Mes), chkF n prev l = none ↔ ∀ (i : Nat) (m : Mes), l[i]? = some m → zbB m.Name = true ∧ (prev ++ l.take i).any (fun g => g.Name == m.Name) = false ∧ m.Fields.length ≤ 200 ∧ msgF n [] m.Fields = none
 | [], prev => by simp [chkF]
 | m :: l, prev => by
  rw [chkF]
  by_cases h1 : zbB m.Name = false
  ·rw [if_pos h1]
   refine ⟨(fun h' => nomatch h'), fun h' => ?_⟩
   have := (h' 0 m rfl).1
   rw [h1] at this; cases this
  ·rw [if_neg h1]
   by_cases h2 : prev.any (fun g => g.Name == m.Name) = true
   ·rw [if_pos h2]
    refine ⟨(fun h' => nomatch h'), fun h' => ?_⟩
    have := (h' 0 m rfl).2.1
    simp only [List.take_zero, List.append_nil] at this
    rw [h2] at this; cases this
   ·rw [if_neg h2]
    by_cases h3 : 200 < m.Fields.length
    ·rw [if_pos h3]
     refine ⟨(fun h' => nomatch h'), fun h' => ?_⟩
     have := (h' 0 m rfl).2.2.1
     omega
    ·rw [if_neg h3]
     cases h4 : msgF n [] m.Fields with
     | some p =>
      refine ⟨(fun h' => nomatch h'), fun h' => ?_⟩
      have := (h' 0 m rfl).2.2.2
      rw [h4] at this; cases this
     | none =>
      simp only
      rw [ztM l (prev ++ [m])]
      constructor
      ·intro h' i g hg
       cases i with
       | zero => simp at hg; subst hg; exact ⟨by simpa using h1, by simpa using h2, by omega, h4⟩
       | succ i => have := h' i g (by simpa using hg); simpa using this
      ·intro h' i g hg
       have := h' (i + 1) g (by simpa using hg)
       simpa using this
theorem zBW : ∀ (n : Int) (l prev : List Fld) (k : Nat) (w : Int), msgF n prev l = some (k, w) → 0 < w := by
 intro n l
 induction l with
 | nil => intro prev k w h; cases h
 | cons f l ih =>
  intro prev k w h
  rw [msgF] at h
  split at h
  ·cases h; assumption
  ·exact ih _ _ _ h
theorem zyj : ∀ (n : Int) (l prev : List Mes) (i : Nat) (k w : Int), chkF n prev l = some (i, k, w) → 0 < w := by
 intro n l
 induction l with
 | nil => intro prev i k w h; cases h
 | cons m l ih =>
  intro prev i k w h
  rw [chkF] at h
  split at h
  ·cases h; omega
  ·split at h
   ·cases h; omega
   ·split at h
    ·cases h; omega
    ·split at h
     ·rename_i k' w' h'; cases h; exact zBW _ _ _ _ _ h'
     ·exact ih _ _ _ _ h
structure zCh (n : Int) (f : Fld) : Prop where
 name : zbB f.Name = true
 lo : 1 ≤ f.Number
 hi : f.Number ≤ 536870911
 kind : zhe f.Kind = true
 packed : f.Packed = true → f.Repeated = true ∧ kNum f.Kind = true
 sub : f.Kind = 17 → 0 ≤ f.Of ∧ f.Of < n
 noSub : f.Kind ≠ 17 → f.Of = 0
theorem zsj {n : Int} {prev : List Fld} {f : Fld} (h : zdh n prev f = 0) : zCh n f ∧ prev.any (fun g => g.Name == f.Name) = false ∧ prev.any (fun g => g.Number == f.Number) = false := by
 unfold zdh at h
 split at h
 ·omega
 ·rename_i h1
  split at h
  ·omega
  ·rename_i h2
   split at h
   ·omega
   ·rename_i h3
    split at h
    ·omega
    ·rename_i h4
     split at h
     ·omega
     ·rename_i h5
      split at h
      ·omega
      ·rename_i h6
       split at h
       ·omega
       ·rename_i h7
        refine ⟨⟨by simpa using h1, by omega, by omega, by simpa using h5, fun hp => ?_, fun hk => by omega, fun hk => by omega⟩, by simpa using h2, by simpa using h4⟩
        by_cases hq : f.Repeated = true ∧ kNum f.Kind = true
        ·exact hq
        ·exact absurd ⟨hp, hq⟩ h6
structure ziA (s : List Mes) : Prop where
 len : 1 ≤ s.length ∧ s.length ≤ 100
 name : ∀ m ∈ s, zbB m.Name = true
 names : ∀ (i j : Nat) (a b : Mes), i < j → s[i]? = some a → s[j]? = some b → a.Name ≠ b.Name
 few : ∀ m ∈ s, m.Fields.length ≤ 200
 fld : ∀ m ∈ s, ∀ f ∈ m.Fields, zCh s.length f
 nums : ∀ m ∈ s, ∀ (i j : Nat) (f g : Fld), i < j → m.Fields[i]? = some f → m.Fields[j]? = some g → f.Number ≠ g.Number ∧ f.Name ≠ g.Name
theorem zqC {α : Type} {l : List α} {p : α → Bool} (h : l.any p = false) {x : α} (hx : x ∈ l) : p x = false := by
 rw [List.any_eq_false] at h
 simpa using h x hx
theorem zzz {s : List Mes} (h : zjN s = true) : ziA s := by
 have h0 : (ziD s).2.2 = 0 := by simpa [zjN] using h
 have h1 : ¬ (s.length = 0 ∨ 100 < s.length) := fun hh => by unfold ziD at h0; rw [if_pos hh] at h0; simp at h0
 have h2 : chkF s.length [] s = none := by
  cases h4 : chkF s.length [] s with
  | none => rfl
  | some p =>
   exfalso
   obtain ⟨i, k, w⟩ := p
   have h5 : (ziD s).2.2 = w := by unfold ziD; rw [if_neg h1, h4]
   have := zyj _ _ _ _ _ _ h4
   omega
 have h3 := (ztM s []).1 h2
 have at' : ∀ m ∈ s, zbB m.Name = true ∧ m.Fields.length ≤ 200 ∧ msgF s.length [] m.Fields = none := fun m hm => by
  obtain ⟨i, hi, rfl⟩ := List.getElem_of_mem hm
  have := h3 i _ (List.getElem?_eq_getElem hi)
  exact ⟨this.1, this.2.2.1, this.2.2.2⟩
 refine ⟨by omega, fun m hm => (at' m hm).1, fun i j a b hij ha hb => ?_, fun m hm => (at' m hm).2.1, fun m hm f hf => ?_, fun m hm i j f g hij hf hg => ?_⟩
 ·have := (h3 j b hb).2.1
  have hai : a ∈ ([] ++ s.take j : List Mes) := by
   rw [List.nil_append]
   exact List.mem_of_getElem? (i := i) (by rw [List.getElem?_take, if_pos hij]; exact ha)
  simpa using zqC this hai
 ·have h4 := (zqM m.Fields []).1 (at' m hm).2.2
  obtain ⟨i, hi, rfl⟩ := List.getElem_of_mem hf
  exact (zsj (h4 i _ (List.getElem?_eq_getElem hi))).1
 ·have h4 := (zqM m.Fields []).1 (at' m hm).2.2
  obtain ⟨_, k1, k2⟩ := zsj (h4 j g hg)
  have hai : f ∈ ([] ++ m.Fields.take j : List Fld) := by
   rw [List.nil_append]
   exact List.mem_of_getElem? (i := i) (by rw [List.getElem?_take, if_pos hij]; exact hf)
  exact ⟨by simpa using zqC k2 hai, by simpa using zqC k1 hai⟩
theorem zte {α : Type} [DecidableEq α] (a b : List α) (F : Int → Option (Unit ⊕ Unit)) (hl : a.length = b.length) (h0 : F (a.length : Int) = some (.inl ()))
  (hs : ∀ (i : Nat) (h : i < a.length) (h' : i < b.length), F (i : Int) = if a[i] = b[i] then F ((i + 1 : Nat) : Int) else some (.inr ())) :
  ∀ (d i : Nat), i + d = a.length → F (i : Int) = some (if a.drop i = b.drop i then .inl () else .inr ()) := by
 intro d
 induction d with
 | zero =>
  intro i hi
  have e1 : a.drop i = [] := List.drop_eq_nil_of_le (by omega)
  have e2 : b.drop i = [] := List.drop_eq_nil_of_le (by omega)
  have : i = a.length := by omega
  rw [e1, e2, if_pos rfl, this, h0]
 | succ d ih =>
  intro i hi
  rw [hs i (by omega) (by omega), List.drop_eq_getElem_cons (l := a) (by omega), List.drop_eq_getElem_cons (l := b) (by omega)]
  by_cases h : a[i]'(by omega) = b[i]'(by omega)
  ·rw [if_pos h, ih (i + 1) (by omega), h]
   simp only [List.cons.injEq, true_and]
  ·rw [if_neg h, if_neg (fun e => h (List.cons.inj e).1)]
theorem zkw {a b : List Int} (ha : a.length ≤ 1152921504606846976) : zbV a b = some (decide (a = b)) := by
 unfold zbV
 by_cases hl : a.length = b.length
 ·rw [itF (by simp; omega)]
  have h := zte a b (fun i => zcs a b i) hl (by
    refine zgI ?_
    unfold zaE
    rw [itF (by simp)])
   (fun i hi hi' => by
    by_cases hp : a[i] = b[i]
    ·rw [if_pos hp]
     refine zjJ ?_
     unfold zaE
     rw [itT (by simp; omega), zE rfl hi, sb, zE rfl hi', sb, itF (by simp [hp]), zy (by omega)]; push_cast; rfl
    ·rw [if_neg hp]
     refine zgI ?_
     unfold zaE
     rw [itT (by simp; omega), zE rfl hi, sb, zE rfl hi', sb, itT (by simp [hp])])
   a.length 0 (by omega)
  have h' : zcs a b 0 = _ := h
  rw [h', sb, List.drop_zero, List.drop_zero]
  by_cases he : a = b
  ·rw [if_pos he]; simp [he]
  ·rw [if_neg he]; simp [he]
 ·rw [itT (by simp; omega)]
  have : a ≠ b := fun e => hl (by rw [e])
  simp [this]
theorem zyY {s : List Mes} {i : Nat} {m : Mes} (hi : ∃ h : i < s.length, s[i] = m) (hb : m.Fields.length ≤ 140737488351232) : ∀ (d k : Nat) (n : Int), k + d = m.Fields.length → ∃ r, zdS i s n k = some r := by
 obtain ⟨hil, hm⟩ := hi
 have e1 : idx s (i : Int) = some m := by rw [zE rfl hil, hm]
 intro d
 induction d with
 | zero =>
  intro k n hk
  refine ⟨n, zlC ?_⟩
  unfold zbK
  rw [e1, sb, itF (by simp; omega)]
 | succ d ih =>
  intro k n hk
  obtain ⟨r, hr⟩ := ih (k + 1) (IntKind.i64.wrap (n + (IntKind.i64.wrap (Int.tdiv (((m.Fields[k]'(by omega)).Name.length : Int)) 100)))) (by omega)
  refine ⟨r, (zlB (k' := ((k + 1 : Nat) : Int)) ?_).trans hr⟩
  unfold zbK
  rw [e1, sb, itT (by simp; omega), sb, zE rfl (by omega), sb, zy (x := (k : Int) + 1) (by omega)]
  push_cast; rfl
theorem zAg {s : List Mes} (hw : WS s) : ∃ b, zfd s = some b := by
 obtain ⟨hs, hm⟩ := hw
 have key : ∀ (d i : Nat) (n : Int), i + d = s.length → ∃ r, zdR s n i = some r := by
  intro d
  induction d with
  | zero =>
   intro i n hi
   refine ⟨n, zlA ?_⟩
   unfold zbJ
   rw [itF (by simp; omega)]
  | succ d ih =>
   intro i n hi
   have hil : i < s.length := by omega
   obtain ⟨q, hq⟩ := zyY (s := s) (i := i) (m := s[i]) ⟨hil, rfl⟩ (hm _ (List.getElem_mem hil)).2.1 (s[i]).Fields.length 0
    (IntKind.i64.wrap ((IntKind.i64.wrap ((IntKind.i64.wrap (n + 1)) + (IntKind.i64.wrap (Int.tdiv ((s[i]).Name.length : Int) 100)))) + ((s[i]).Fields.length : Int))) (by omega)
   have hq' : zdS i s (IntKind.i64.wrap ((IntKind.i64.wrap ((IntKind.i64.wrap (n + 1)) + (IntKind.i64.wrap (Int.tdiv ((s[i]).Name.length : Int) 100)))) + ((s[i]).Fields.length : Int))) 0 = some q := hq
   obtain ⟨r, hr⟩ := ih (i + 1) q (by omega)
   refine ⟨r, (zlz (i' := ((i + 1 : Nat) : Int)) ?_).trans hr⟩
   unfold zbJ
   rw [itT (by simp; omega), zE rfl hil, sb, sb, hq', sb, zy (x := (i : Int) + 1) (by omega)]
   push_cast; rfl
 obtain ⟨r, hr⟩ := key s.length 0 0 (by omega)
 have hr' : zdR s 0 0 = some r := hr
 exact ⟨_, by unfold zfd; rw [hr', sb]⟩
def zCm (m : Mes) (p : Int) : Int := (m.Fields.getD p.toNat ⟨[], 0, 0, false, false, 0⟩).Number
def zqD (κ : Int → Int) (a b : Int) : Prop := κ a < κ b ∨ κ a = κ b ∧ a < b
end Go.Proofs.YtglkepeofhonlaaGreatDoor
namespace Go.Proofs.YtglkepeofhonlaaGreatDoor
open Go
set_option linter.unusedVariables false
def zcT : List UInt8 → List (List UInt8)
 | [] => [[]]
 | c :: l => if c = 46 then [] :: zcT l else match zcT l with
  | [] => [[c]]
  | x :: xs => (c :: x) :: xs
theorem zqv (l : List UInt8) : zcT l ≠ [] := by
 cases l with
 | nil => simp [zcT]
 | cons c l =>
  rw [zcT]
  split
  ·simp
  ·split <;> simp
theorem zuv {x : List UInt8} (h : ∀ c ∈ x, c ≠ 46) : zcT x = [x] := by
 induction x with
 | nil => rfl
 | cons c x ih => rw [zcT, if_neg (h c List.mem_cons_self), ih fun d hd => h d (List.mem_cons_of_mem _ hd)]
theorem ztk {x : List UInt8} (h : ∀ c ∈ x, c ≠ 46) (y : List UInt8) : zcT (x ++ 46 :: y) = x :: zcT y := by
 induction x with
 | nil => rw [List.nil_append, zcT, if_pos rfl]
 | cons c x ih => rw [List.cons_append, zcT, if_neg (h c List.mem_cons_self), ih fun d hd => h d (List.mem_cons_of_mem _ hd)]
theorem zzF (l : List UInt8) : ∀ x ∈ zcT l, x.length ≤ l.length := by
 induction l with
 | nil => intro x hx; simp [zcT] at hx; subst hx; simp
 | cons c l ih =>
  intro x hx
  rw [zcT] at hx
  split at hx
  ·rcases List.mem_cons.1 hx with rfl | hx
   ·simp
   ·have := ih x hx; simp; omega
  ·split at hx
   ·simp at hx; subst hx; simp
   ·rename_i y ys h
    rcases List.mem_cons.1 hx with rfl | hx
    ·have := ih y (by rw [h]; exact List.mem_cons_self); simp; omega
    ·have := ih x (by rw [h]; exact List.mem_cons_of_mem _ hx); simp; omega
def zgj (p : List UInt8) : List (List UInt8) × Bool := if (zcT p).all zbB && decide ((zcT p).length ≤ 65) then (zcT p, true) else ([], false)
theorem zvo {p : List UInt8} (hp : p.length ≤ 1099511627776) : ∀ (d i from0 : Nat) (out : List (List UInt8)), i + d = p.length → from0 ≤ i → out.length ≤ i → (∀ c ∈ (p.drop from0).take (i - from0), c ≠ 46) →
  zcx p out from0 i = some (if (zcT (p.drop from0)).all zbB = true then .inl (out ++ zcT (p.drop from0)) else .inr ()) := by
 -- the piece that ends here
 have body : ∀ (i from0 : Nat) (out : List (List UInt8)), from0 ≤ i → i ≤ p.length → out.length ≤ i → (i < p.length → ∃ h : i < p.length, p[i] = 46) →
   zaA p out from0 i = if zbB ((p.drop from0).take (i - from0)) = true then some (.inl (out ++ [(p.drop from0).take (i - from0)], ((i + 1 : Nat) : Int), ((i + 1 : Nat) : Int))) else some (.inr (.inr ())) := by
  intro i from0 out h1 h2 ho h3
  have hc : cut p (from0 : Int) (i : Int) = some ((p.drop from0).take (i - from0)) := zsg rfl rfl h1 h2
  have hg : (if (decide ((i : Int) < (p.length : Int))) = true then (idx p (i : Int) >>= fun c => some ((c.toNat : Int) != 46)) else some false) = some false := by
   by_cases hi : i < p.length
   ·obtain ⟨_, h4⟩ := h3 hi
    rw [itT (by simpa using hi), zE rfl hi, sb, h4]; rfl
   ·rw [itF (by simpa using hi)]
  unfold zaA
  rw [itT (by simp; omega), hg, sb, itF (c := false) rfl, hc, sb, zpm (by simp; omega), sb]
  cases zbB ((p.drop from0).take (i - from0))
  ·rw [itT (c := !false) rfl]; rfl
  ·rw [itF (c := !true) rfl, sb, zeG (by simp; omega), sb, zy (by omega)]
   push_cast; rfl
 intro d
 induction d with
 | zero =>
  intro i from0 out hi hf ho hx
  have hil : i = p.length := by omega
  subst hil
  have ht : (p.drop from0).take (p.length - from0) = p.drop from0 := List.take_of_length_le (by simp)
  rw [ht] at hx
  have hb := body p.length from0 out hf (Nat.le_refl _) ho (fun h => absurd h (Nat.lt_irrefl _))
  rw [ht] at hb
  rw [zuv hx]
  by_cases hn : zbB (p.drop from0) = true
  ·rw [if_pos hn] at hb
   rw [zfG hb]
   have : zcx p (out ++ [p.drop from0]) ((p.length + 1 : Nat) : Int) ((p.length + 1 : Nat) : Int) = some (.inl (out ++ [p.drop from0])) := by
    refine zfH ?_
    unfold zaA
    rw [itF (by simp; omega)]
   rw [this, if_pos (by simp [hn])]
  ·rw [if_neg hn] at hb
   rw [zfH hb, if_neg (by simpa using hn)]
 | succ d ih =>
  intro i from0 out hi hf ho hx
  have hil : i < p.length := by omega
  have hdr : (p.drop from0).drop (i - from0) = p[i] :: p.drop (i + 1) := by
   rw [List.drop_drop, show from0 + (i - from0) = i by omega, List.drop_eq_getElem_cons hil]
  have hsp : p.drop from0 = (p.drop from0).take (i - from0) ++ p[i] :: p.drop (i + 1) := by rw [← hdr, List.take_append_drop]
  by_cases hc : p[i] = 46
  ·have hb := body i from0 out hf (by omega) ho (fun h => ⟨h, hc⟩)
   rw [hc] at hsp
   have hsd : zcT (p.drop from0) = (p.drop from0).take (i - from0) :: zcT (p.drop (i + 1)) := by
    generalize hq : (p.drop from0).take (i - from0) = q at hsp hx ⊢
    rw [hsp, ztk hx]
   rw [hsd]
   by_cases hn : zbB ((p.drop from0).take (i - from0)) = true
   ·rw [if_pos hn] at hb
    rw [zfG hb, ih (i + 1) (i + 1) _ (by omega) (Nat.le_refl _) (by simp; omega) (by simp), List.all_cons, hn, Bool.true_and, List.append_assoc, List.singleton_append]
   ·rw [if_neg hn] at hb
    rw [zfH hb, List.all_cons, if_neg (by simp [hn])]
  ·have hb : zaA p out from0 i = some (.inl (out, (from0 : Int), ((i + 1 : Nat) : Int))) := by
    unfold zaA
    have h46 : (((p[i]).toNat : Int) != 46) = true := by
     have : (p[i]).toNat ≠ 46 := fun h => hc (UInt8.toNat_inj.1 (by rw [h]; rfl))
     simp; omega
    rw [itT (by simp; omega), itT (by simpa using hil), zE rfl hil, sb, sb, h46, itT (c := true) rfl, zy (by omega)]
    push_cast; rfl
   rw [zfG hb, ih (i + 1) from0 out (by omega) (by omega) (by omega) ?_]
   intro c hcm
   have e : (p.drop from0).take (i + 1 - from0) = (p.drop from0).take (i - from0) ++ [p[i]] := by
    rw [show i + 1 - from0 = (i - from0) + 1 by omega, List.take_add_one, List.getElem?_drop, show from0 + (i - from0) = i by omega, List.getElem?_eq_getElem hil]; rfl
   rw [e] at hcm
   rcases List.mem_append.1 hcm with h | h
   ·exact hx c h
   ·simp at h; subst h; exact hc
theorem ztE {p : List UInt8} (hp : p.length ≤ 1099511627776) : zfq p = some (zgj p) := by
 unfold zfq zgj
 have h := zvo hp p.length 0 0 [] (by omega) (Nat.le_refl _) (Nat.zero_le _) (by simp)
 have h' : zcx p [] 0 0 = _ := h
 rw [h', sb, List.drop_zero, List.nil_append]
 cases ha : (zcT p).all zbB
 ·rfl
 ·simp only [if_true, Bool.true_and]
  by_cases hl : (zcT p).length ≤ 65
  ·rw [itF (by simp; omega), itT (by simpa using hl)]
  ·rw [itT (by simp; omega), itF (by simpa using hl)]
def zgA : List (List UInt8) → List UInt8
 | [] => []
 | [x] => x
 | x :: y :: l => x ++ 46 :: zgA (y :: l)
def znw (out : List UInt8) (first : Bool) : List (List UInt8) → List UInt8
 | [] => out
 | x :: l => znw ((if first then out else out ++ [46]) ++ x) false l
theorem zrm : ∀ (l : List (List UInt8)) (out : List UInt8), l ≠ [] → znw out false l = out ++ 46 :: zgA l
 | [], _, h => absurd rfl h
 | [x], out, _ => by simp [znw, zgA]
 | x :: y :: l, out, _ => by
  rw [znw, zrm (y :: l) _ (by simp), zgA]; simp
theorem zAs (l : List (List UInt8)) : znw [] true l = zgA l := by
 match l with
 | [] => rfl
 | [x] => simp [znw, zgA]
 | x :: y :: l => rw [znw, zrm (y :: l) _ (by simp), zgA]; simp
theorem zub : ∀ (l : List (List UInt8)) (out : List UInt8) (f : Bool), out.length ≤ (znw out f l).length
 | [], _, _ => Nat.le_refl _
 | x :: l, out, f => by
  refine Nat.le_trans ?_ (zub l _ false)
  cases f <;> simp <;> omega
theorem zwl {l : List (List UInt8)} (hl : l.length ≤ 1099511627776) : ∀ (t : List (List UInt8)) (i : Nat) (out : List UInt8), l.drop i = t → (znw out (decide (i = 0)) t).length ≤ 1152921504606846976 →
  zdu l out i = some (znw out (decide (i = 0)) t) := by
 intro t
 induction t with
 | nil =>
  intro i out hd _
  have := zaU hd
  refine zll ?_
  unfold zbz
  rw [itF (by simp; omega)]; rfl
 | cons x t ih =>
  intro i out hd hb
  obtain ⟨hk, hx, hd'⟩ := zav hd
  rw [znw] at hb ⊢
  have h1 := Nat.le_trans (zub t ((if decide (i = 0) = true then out else out ++ [46]) ++ x) false) hb
  have hi0 : decide (i + 1 = 0) = false := by simp
  refine (zlk (out' := (if decide (i = 0) = true then out else out ++ [46]) ++ x) (i' := ((i + 1 : Nat) : Int)) ?_).trans ?_
  ·unfold zbz
   rw [itT (by simp; omega)]
   by_cases h0 : i = 0
   ·subst h0
    simp only [decide_true, if_true] at h1 ⊢
    rw [itF (by rfl), sb, zE rfl hk, sb, hx, zxm (by rw [List.length_append] at h1; omega), sb]
    rw [zy (by omega)]; push_cast; rfl
   ·simp only [h0, decide_false, Bool.false_eq_true, if_false] at h1 ⊢
    simp only [List.length_append, List.length_cons, List.length_nil] at h1
    rw [itT (by simp; omega), zxm (by simp; omega), sb, sb, zE rfl hk, sb, hx, zxm (by simp; omega), sb, zy (by omega)]
    push_cast; rfl
  ·have := ih (i + 1) ((if decide (i = 0) = true then out else out ++ [46]) ++ x) hd' (by rw [hi0]; exact hb)
   rw [hi0] at this
   exact this
theorem zvh {l : List (List UInt8)} (hl : l.length ≤ 1099511627776) (hb : (zgA l).length ≤ 1152921504606846976) : zfO l = some (zgA l) := by
 unfold zfO
 rw [← zAs] at hb ⊢
 have h := zwl hl l 0 [] rfl hb
 have h' : zdu l [] 0 = _ := h
 rw [h', sb]
 rfl
def zkc (l : List (List UInt8)) : Bool := l.all zbB && decide (1 ≤ l.length ∧ l.length ≤ 65)
theorem zvl {a b : List (List UInt8)} (ha : a.length ≤ 1152921504606846976) : zfP a b = some (decide (a = b)) := by
 have key : ∀ (d i : Nat), i + d = a.length → a.length = b.length → (a.take i = b.take i) → ∃ r : Int, zcO a b i = some r ∧ (r = a.length ↔ a = b) ∧ r ≤ a.length := by
  intro d
  induction d with
  | zero =>
   intro i hi hl ht
   have hil : i = a.length := by omega
   refine ⟨(i : Int), zhc ?_, ?_, by omega⟩
   ·unfold zaO
    rw [itT (by simp; omega), sb, itT (c := true) rfl]
   ·have : a = b := by rw [← List.take_length (l := a), ← List.take_length (l := b), ← hl, ← hil]; exact ht
    simp [this, hil]
  | succ d ih =>
   intro i hi hl ht
   have hia : i < a.length := by omega
   have hib : i < b.length := by omega
   have hb : zaO a b i = if a[i] = b[i] then some (.inl ((i + 1 : Nat) : Int)) else some (.inr (i : Int)) := by
    unfold zaO
    rw [itF (by simp; omega), itF (by simp; omega), zE rfl hia, sb, zE rfl hib, sb, sb, zy (by omega)]
    by_cases h : a[i] = b[i]
    ·rw [itF (by simp [h]), if_pos h]; push_cast; rfl
    ·rw [itT (by simp [h]), if_neg h]
   by_cases h : a[i] = b[i]
   ·rw [if_pos h] at hb
    obtain ⟨r, h1, h2⟩ := ih (i + 1) (by omega) hl (by rw [List.take_succ_eq_append_getElem hia, List.take_succ_eq_append_getElem hib, ht, h])
    exact ⟨r, by rw [zkl hb]; exact h1, h2⟩
   ·rw [if_neg h] at hb
    refine ⟨(i : Int), zhc hb, ⟨fun h' => by omega, fun h' => ?_⟩, by omega⟩
    subst h'; exact absurd rfl h
 unfold zfP
 by_cases hl : a.length = b.length
 ·obtain ⟨r, h1, h2, _⟩ := key a.length 0 (by omega) hl rfl
  have h1' : zcO a b 0 = some r := h1
  rw [itT (by simp; omega)]
  unfold zgi
  rw [h1', sb, sb, sb]
  congr 1
  rw [Bool.eq_iff_iff]
  simp only [beq_iff_eq, decide_eq_true_eq]
  exact h2
 ·rw [itF (by simp; omega), sb]
  have : a ≠ b := fun e => hl (by rw [e])
  simp [this]
theorem zyH {l : List (List UInt8)} (hl : l.length ≤ 140737488351232) : ∃ b, zeN l = some b := by
 have key : ∀ (d i : Nat) (n : Int), i + d = l.length → ∃ r, zdr l n i = some r := by
  intro d
  induction d with
  | zero =>
   intro i n hi
   refine ⟨n, zle ?_⟩
   unfold zbx
   rw [itF (by simp; omega)]
  | succ d ih =>
   intro i n hi
   have hil : i < l.length := by omega
   obtain ⟨r, hr⟩ := ih (i + 1) (IntKind.i64.wrap ((IntKind.i64.wrap (n + ((l[i]).length : Int))) + 1)) (by omega)
   refine ⟨r, (zld (i' := ((i + 1 : Nat) : Int)) ?_).trans hr⟩
   unfold zbx
   rw [itT (by simp; omega), zE rfl hil, sb, zy (x := (i : Int) + 1) (by omega)]
   push_cast; rfl
 obtain ⟨r, hr⟩ := key l.length 0 0 (by omega)
 have hr' : zdr l 0 0 = some r := hr
 exact ⟨_, by unfold zeN; rw [hr', sb]⟩
end Go.Proofs.YtglkepeofhonlaaGreatDoor
namespace Go.Proofs.YtglkepeofhonlaaGreatDoor
open Go
def enc (v : Nat) : List UInt8 := if v < 128 then [UInt8.ofNat v] else UInt8.ofNat (128 + v % 128) :: enc (v / 128)
termination_by v
decreasing_by omega
def scan : Nat → Nat → List UInt8 → Unit ⊕ (Int × Int × Int)
 | _, _, [] => .inl ()
 | i, acc, c :: t => if i = 9 ∧ 1 < c.toNat then .inr (0, 0, 4) else if c.toNat < 128 then .inr (((acc + c.toNat % 128 * 128 ^ i : Nat) : Int), ((i + 1 : Nat) : Int), 0) else scan (i + 1) (acc + c.toNat % 128 * 128 ^ i) t
def rdR : Unit ⊕ (Int × Int × Int) → Int × Int × Int
 | .inl _ => (0, 0, 3)
 | .inr r => r
def rd (b : List UInt8) : Int × Int × Int := rdR (scan 0 0 (b.take 10))
theorem all_nil (acc : List Int) : zoN [] acc = some (.inl acc) := by
 refine zqx ?_
 unfold zjm
 rw [itF (by simp)]
end Go.Proofs.YtglkepeofhonlaaGreatDoor
namespace Go.Proofs.YtglkepeofhonlaaGreatDoor
open Go
set_option linter.unusedVariables false
def ends (base : Nat) : List (List UInt8) → List Int
 | [] => []
 | p :: ps => ((base + p.length : Nat) : Int) :: ends (base + p.length) ps
end Go.Proofs.YtglkepeofhonlaaGreatDoor
namespace Go.Proofs.YtglkepeofhonlaaGreatDoor
open Go
set_option linter.unusedVariables false
def zeZ (m : Mes) (i : Int) : Fld := m.Fields.getD i.toNat ⟨[], 0, 0, false, false, 0⟩
theorem zmj (m : Mes) (n : Int) : fldI m n = -1 ∧ (∀ f ∈ m.Fields, f.Number ≠ n) ∨ ∃ (i : Nat) (h : i < m.Fields.length), fldI m n = i ∧ m.Fields[i].Number = n ∧ ∀ (j : Nat) (h : j < m.Fields.length), j < i → m.Fields[j].Number ≠ n := by
 unfold fldI
 cases h : m.Fields.findIdx? (fun f : Fld => f.Number == n) with
 | none =>
  left
  rw [List.findIdx?_eq_none_iff] at h
  exact ⟨zim (List.findIdx?_eq_none_iff.2 h), fun f hf => by simpa using h f hf⟩
 | some i =>
  right
  have h' := h
  rw [List.findIdx?_eq_some_iff_getElem] at h
  obtain ⟨hi, hp, hj⟩ := h
  exact ⟨i, hi, zin h', by simpa using hp, fun j hjl hji => by simpa using hj j hji⟩
theorem zjs {m : Mes} {i : Nat} (h : i < m.Fields.length) : zeZ m (i : Int) = m.Fields[i] := by
 unfold zeZ; rw [Int.toNat_natCast, List.getD_eq_getElem?_getD, List.getElem?_eq_getElem h]; rfl
end Go.Proofs.YtglkepeofhonlaaGreatDoor
namespace Go.Proofs.YtglkepeofhonlaaGreatDoor
open Go
set_option linter.unusedVariables false
def zaN (s : List Mes) (i : Int) : Mes := s.getD i.toNat ⟨[], []⟩
theorem zjz {s : List Mes} {i : Nat} (h : i < s.length) : zaN s (i : Int) = s[i] := by
 unfold zaN; rw [Int.toNat_natCast, List.getD_eq_getElem?_getD, List.getElem?_eq_getElem h]; rfl
end Go.Proofs.YtglkepeofhonlaaGreatDoor
namespace Go.Proofs.YtglkepeofhonlaaGreatDoor
open Go
set_option linter.unusedVariables false
abbrev zm := List Int
def begB (way w : zm) : Bool := w.isPrefixOf way
theorem ziC {way w : zm} : begB way w = true ↔ w <+: way := List.isPrefixOf_iff_prefix
theorem zqi {way w : zm} (hb : way.length ≤ 1152921504606846976) : zcU way w = some (begB way w) := by
 unfold zcU
 by_cases hl : w.length ≤ way.length
 ·rw [itT (by simpa using hl), znm rfl hl, sb, zkw (by simp; omega), sb, sb]
  congr 1
  rw [Bool.eq_iff_iff, ziC, decide_eq_true_eq, List.prefix_iff_eq_take]
  exact ⟨fun h => h.symm, fun h => h.symm⟩
 ·rw [itF (by simpa using hl), sb]
  congr 1
  symm
  rw [← Bool.not_eq_true, ziC]
  exact fun h => hl h.length_le
def zbG : zm → zm → Bool
 | [], b => !b.isEmpty
 | _ :: _, [] => false
 | x :: a, y :: b => if x = y then zbG a b else decide (x < y)
theorem zxU {a b : zm} (ha : a.length ≤ 1152921504606846976) : zfS a b = some (zbG a b) := by
 have key : ∀ (d i : Nat), i + d = a.length → ∃ r, zcG a b i = some r ∧ (match r with | .inl _ => decide ((a.length : Int) < (b.length : Int)) | .inr x => x) = zbG (a.drop i) (b.drop i) := by
  have stop : ∀ i : Nat, ¬ (i < a.length ∧ i < b.length) → i ≤ a.length → (i = 0 ∨ i ≤ b.length) → zcG a b i = some (.inl ()) ∧ decide ((a.length : Int) < (b.length : Int)) = zbG (a.drop i) (b.drop i) := by
   intro i h ha' hb'
   refine ⟨zez ?_, ?_⟩
   ·unfold zaI
    rw [itF (by simp; omega)]
   ·by_cases hi : i < a.length
    ·have hd : b.drop i = [] := List.drop_eq_nil_of_le (by omega)
     rw [hd, List.drop_eq_getElem_cons hi, zbG]
     have : ¬ ((a.length : Int) < (b.length : Int)) := by omega
     simp [this]
    ·have hd : a.drop i = [] := List.drop_eq_nil_of_le (by omega)
     rw [hd, zbG]
     by_cases hlt : a.length < b.length
     ·have h1 : ((a.length : Int) < (b.length : Int)) := by omega
      have h2 : b.drop i ≠ [] := by intro h; have := congrArg List.length h; simp at this; omega
      cases hbd : b.drop i with
      | nil => exact absurd hbd h2
      | cons => simp [h1]
     ·have h1 : ¬ ((a.length : Int) < (b.length : Int)) := by omega
      have h2 : b.drop i = [] := List.drop_eq_nil_of_le (by omega)
      simp [h1, h2]
  intro d
  induction d with
  | zero =>
   intro i hi
   by_cases hb : i ≤ b.length
   ·obtain ⟨h1, h2⟩ := stop i (by omega) (by omega) (.inr hb)
    exact ⟨_, h1, h2⟩
   ·-- b is shorter: the loop ended zqD
    refine ⟨.inl (), zez ?_, ?_⟩
    ·unfold zaI
     rw [itF (by simp; omega)]
    ·have h1 : ¬ ((a.length : Int) < (b.length : Int)) := by omega
     have h2 : b.drop i = [] := List.drop_eq_nil_of_le (by omega)
     have h3 : a.drop i = [] := List.drop_eq_nil_of_le (by omega)
     simp [h1, h2, h3, zbG]
  | succ d ih =>
   intro i hi
   have hia : i < a.length := by omega
   by_cases hib : i < b.length
   ·have hb : zaI a b i = if a[i] = b[i] then some (.inl ((i + 1 : Nat) : Int)) else some (.inr (.inr (decide (a[i] < b[i])))) := by
     unfold zaI
     rw [itT (by simp; omega), zE rfl hia, sb, zE rfl hib, sb, sb, sb, zy (by omega)]
     by_cases h : a[i] = b[i]
     ·rw [itF (by simp [h]), if_pos h]; push_cast; rfl
     ·rw [itT (by simp [h]), if_neg h]
    rw [List.drop_eq_getElem_cons hia, List.drop_eq_getElem_cons hib, zbG]
    by_cases h : a[i] = b[i]
    ·rw [if_pos h] at hb
     obtain ⟨r, h1, h2⟩ := ih (i + 1) (by omega)
     exact ⟨r, by rw [zlo hb]; exact h1, by rw [if_pos h]; exact h2⟩
    ·rw [if_neg h] at hb
     exact ⟨_, zez hb, by rw [if_neg h]⟩
   ·refine ⟨.inl (), zez ?_, ?_⟩
    ·unfold zaI
     rw [itF (by simp; omega)]
    ·have h1 : ¬ ((a.length : Int) < (b.length : Int)) := by omega
     have h2 : b.drop i = [] := List.drop_eq_nil_of_le (by omega)
     rw [h2, List.drop_eq_getElem_cons hia, zbG]
     simp [h1]
 obtain ⟨r, h1, h2⟩ := key a.length 0 (by omega)
 have h1' : zcG a b 0 = some r := h1
 unfold zfS
 rw [h1', sb]
 rw [List.drop_zero, List.drop_zero] at h2
 cases r with
 | inl _ => simp only at h2 ⊢; rw [h2]
 | inr x => simp only at h2 ⊢; rw [h2]
theorem zhl : ∀ (a : zm), zbG a a = false
 | [] => rfl
 | x :: a => by rw [zbG, if_pos rfl, zhl a]
theorem zkV : ∀ (a b c : zm), zbG a b = true → zbG b c = true → zbG a c = true
 | [], b, c, h1, h2 => by
  cases c with
  | nil => cases b <;> simp [zbG] at h2
  | cons => rfl
 | _ :: _, [], _, h1, _ => by simp [zbG] at h1
 | _ :: _, _ :: _, [], _, h2 => by simp [zbG] at h2
 | x :: a, y :: b, z :: c, h1, h2 => by
  rw [zbG] at h1 h2 ⊢
  by_cases hxy : x = y
  ·rw [if_pos hxy] at h1
   by_cases hyz : y = z
   ·rw [if_pos hyz] at h2
    rw [if_pos (hxy.trans hyz)]
    exact zkV a b c h1 h2
   ·rw [if_neg hyz] at h2
    rw [if_neg (by rw [hxy]; exact hyz), hxy]; exact h2
  ·rw [if_neg hxy] at h1
   have h1' : x < y := by simpa using h1
   by_cases hyz : y = z
   ·rw [if_neg (by rw [← hyz]; exact hxy), ← hyz]; exact h1
   ·rw [if_neg hyz] at h2
    have h2' : y < z := by simpa using h2
    rw [if_neg (by omega)]; simp; omega
theorem zrp : ∀ (a b : zm), a ≠ b → zbG a b = true ∨ zbG b a = true
 | [], [], h => absurd rfl h
 | [], _ :: _, _ => .inl rfl
 | _ :: _, [], _ => .inr rfl
 | x :: a, y :: b, h => by
  rw [zbG, zbG]
  by_cases hxy : x = y
  ·rw [if_pos hxy, if_pos hxy.symm]
   exact zrp a b (fun e => h (by rw [hxy, e]))
  ·rw [if_neg hxy, if_neg (fun e => hxy e.symm)]
   rcases Int.lt_or_gt_of_ne hxy with h' | h'
   ·left; simpa using h'
   ·right; simpa using h'
theorem zwq {a b : zm} (h : zbG a b = true) : zbG b a = false := by
 cases hb : zbG b a with
 | false => rfl
 | true => have := zkV a b a h hb; rw [zhl] at this; cases this
theorem znV : ∀ (l k : List zm), l.Pairwise (fun a b => zbG a b = true) → k.Pairwise (fun a b => zbG a b = true) → (∀ w, w ∈ l ↔ w ∈ k) → l = k
 | [], [], _, _, _ => rfl
 | [], y :: k, _, _, h => absurd ((h y).2 List.mem_cons_self) (by simp)
 | x :: l, [], _, _, h => absurd ((h x).1 List.mem_cons_self) (by simp)
 | x :: l, y :: k, hl, hk, h => by
  have hl' := List.pairwise_cons.1 hl
  have hk' := List.pairwise_cons.1 hk
  have hxy : x = y := by
   rcases List.mem_cons.1 ((h x).1 List.mem_cons_self) with h1 | h1
   ·exact h1
   ·rcases List.mem_cons.1 ((h y).2 List.mem_cons_self) with h2 | h2
    ·exact h2.symm
    ·have a1 := hk'.1 x h1
     have a2 := hl'.1 y h2
     rw [zwq a1] at a2; cases a2
  subst hxy
  congr 1
  refine znV l k hl'.2 hk'.2 fun w => ?_
  have nl : x ∉ l := fun hm => by have := hl'.1 x hm; rw [zhl] at this; cases this
  have nk : x ∉ k := fun hm => by have := hk'.1 x hm; rw [zhl] at this; cases this
  have := h w
  simp only [List.mem_cons] at this
  constructor
  ·intro hw
   rcases this.1 (.inr hw) with rfl | h'
   ·exact absurd hw nl
   ·exact h'
  ·intro hw
   rcases this.2 (.inr hw) with rfl | h'
   ·exact absurd hw nk
   ·exact h'
def zrw (ways : List zm) (i : Nat) (w : zm) (k : Nat) (v : zm) : Bool := decide (k ≠ i) && !v.isEmpty && begB w v && (decide (v.length < w.length) || decide (k < i))
def badW (ways : List zm) (i : Nat) (w : zm) : Nat → List zm → Bool
 | _, [] => false
 | k, v :: l => zrw ways i w k v || badW ways i w (k + 1) l
def insL (w : zm) (out : List zm) : List zm := out.takeWhile (fun x => zbG x w) ++ w :: out.dropWhile (fun x => zbG x w)
def ofK (ways : List zm) : Nat → List zm
 | 0 => []
 | i + 1 => match ways[i]? with
  | some w => if !w.isEmpty && !badW ways i w 0 ways then insL w (ofK ways i) else ofK ways i
  | none => ofK ways i
def ofW (ways : List zm) : List zm := ofK ways ways.length
theorem zAn {w x : zm} {out : List zm} : x ∈ insL w out ↔ x = w ∨ x ∈ out := by
 unfold insL
 have hs : out.takeWhile (fun x => zbG x w) ++ out.dropWhile (fun x => zbG x w) = out := List.takeWhile_append_dropWhile
 constructor
 ·intro h
  rcases List.mem_append.1 h with h | h
  ·exact .inr (by rw [← hs]; exact List.mem_append_left _ h)
  ·rcases List.mem_cons.1 h with h | h
   ·exact .inl h
   ·exact .inr (by rw [← hs]; exact List.mem_append_right _ h)
 ·intro h
  rcases h with rfl | h
  ·exact List.mem_append_right _ List.mem_cons_self
  ·rw [← hs] at h
   rcases List.mem_append.1 h with h | h
   ·exact List.mem_append_left _ h
   ·exact List.mem_append_right _ (List.mem_cons_of_mem _ h)
theorem zxY {w : zm} : ∀ {l : List zm}, ∀ x ∈ l.takeWhile (fun x => zbG x w), zbG x w = true := by
 intro l
 induction l with
 | nil => intro x hx; simp at hx
 | cons y l ih =>
  intro x hx
  rw [List.takeWhile_cons] at hx
  by_cases hy : zbG y w = true
  ·rw [if_pos hy] at hx
   rcases List.mem_cons.1 hx with rfl | hx
   ·exact hy
   ·exact ih x hx
  ·rw [if_neg hy] at hx; cases hx
theorem zxr {w : zm} : ∀ {l : List zm}, l.Pairwise (fun a b => zbG a b = true) → (w ∉ l) → ∀ x ∈ l.dropWhile (fun x => zbG x w), zbG w x = true := by
 intro l
 induction l with
 | nil => intro _ _ x hx; simp at hx
 | cons y l ih =>
  intro hp hn x hx
  rw [List.dropWhile_cons] at hx
  have hp' := List.pairwise_cons.1 hp
  by_cases hy : zbG y w = true
  ·rw [if_pos hy] at hx
   exact ih hp'.2 (fun h => hn (List.mem_cons_of_mem _ h)) x hx
  ·rw [if_neg hy] at hx
   have hwy : zbG w y = true := by
    rcases zrp w y (fun e => hn (by rw [e]; exact List.mem_cons_self)) with h | h
    ·exact h
    ·exact absurd h hy
   rcases List.mem_cons.1 hx with rfl | hx
   ·exact hwy
   ·exact zkV _ _ _ hwy (hp'.1 x hx)
theorem zwc {w : zm} {out : List zm} (hs : out.Pairwise (fun a b => zbG a b = true)) (hn : w ∉ out) : (insL w out).Pairwise (fun a b => zbG a b = true) := by
 unfold insL
 have hsp : out.takeWhile (fun x => zbG x w) ++ out.dropWhile (fun x => zbG x w) = out := List.takeWhile_append_dropWhile
 have hp : (out.takeWhile (fun x => zbG x w) ++ out.dropWhile (fun x => zbG x w)).Pairwise (fun a b => zbG a b = true) := by rw [hsp]; exact hs
 rw [List.pairwise_append] at hp ⊢
 have ht := zxY (w := w) (l := out)
 have hd := zxr hs hn
 refine ⟨hp.1, List.pairwise_cons.2 ⟨hd, hp.2.1⟩, fun a ha b hb => ?_⟩
 rcases List.mem_cons.1 hb with rfl | hb
 ·exact ht a ha
 ·exact hp.2.2 a ha b hb
theorem zvA {ways : List zm} {i : Nat} {w : zm} : ∀ (l : List zm) (k : Nat), badW ways i w k l = true ↔ ∃ j v, l[j]? = some v ∧ zrw ways i w (k + j) v = true
 | [], k => by simp [badW]
 | v :: l, k => by
  rw [badW, Bool.or_eq_true, zvA l (k + 1)]
  constructor
  ·rintro (h | ⟨j, u, h1, h2⟩)
   ·exact ⟨0, v, rfl, by simpa using h⟩
   ·exact ⟨j + 1, u, by simpa using h1, by rw [show k + (j + 1) = k + 1 + j by omega]; exact h2⟩
  ·rintro ⟨j, u, h1, h2⟩
   cases j with
   | zero => left; simp at h1; subst h1; simpa using h2
   | succ j => right; exact ⟨j, u, by simpa using h1, by rw [show k + 1 + j = k + (j + 1) by omega]; exact h2⟩
def zqA (ways : List zm) (w : zm) : Prop := w ∈ ways ∧ w ≠ [] ∧ ∀ v ∈ ways, v ≠ [] → v <+: w → v = w
theorem zsp {ways : List zm} {i : Nat} {w : zm} (hi : ways[i]? = some w) : (!w.isEmpty && !badW ways i w 0 ways) = true ↔ zqA ways w ∧ ∀ j < i, ways[j]? ≠ some w := by
 rw [Bool.and_eq_true, Bool.not_eq_true', Bool.not_eq_true', ← Bool.not_eq_true, ← Bool.not_eq_true, zvA]
 have hw : w ∈ ways := List.mem_of_getElem? hi
 have hok : ∀ (k : Nat) (v : zm), zrw ways i w k v = true ↔ k ≠ i ∧ v ≠ [] ∧ v <+: w ∧ (v.length < w.length ∨ k < i) := by
  intro k v
  unfold zrw
  simp only [Bool.and_eq_true, Bool.or_eq_true, decide_eq_true_eq, ziC, Bool.not_eq_true', List.isEmpty_eq_false_iff]
  constructor
  ·rintro ⟨⟨⟨h1, h2⟩, h3⟩, h4⟩; exact ⟨h1, h2, h3, h4⟩
  ·rintro ⟨h1, h2, h3, h4⟩; exact ⟨⟨⟨h1, h2⟩, h3⟩, h4⟩
 constructor
 ·rintro ⟨h1, h2⟩
  refine ⟨⟨hw, by simpa using h1, fun v hv hv0 hp => ?_⟩, fun j hj hje => ?_⟩
  ·obtain ⟨k, hk, rfl⟩ := List.getElem_of_mem hv
   rcases Nat.lt_or_ge (ways[k]).length w.length with hl | hl
   ·exfalso
    refine h2 ⟨k, ways[k], List.getElem?_eq_getElem hk, (hok _ _).2 ⟨fun e => ?_, hv0, hp, .inl hl⟩⟩
    rw [Nat.zero_add] at e
    subst e
    rw [List.getElem?_eq_getElem hk] at hi
    cases hi; omega
   ·exact hp.eq_of_length (by have := hp.length_le; omega)
  ·refine h2 ⟨j, w, hje, (hok _ _).2 ⟨by omega, by simpa using h1, List.prefix_refl w, .inr (by omega)⟩⟩
 ·rintro ⟨⟨_, h1, h2⟩, h3⟩
  refine ⟨by simpa using h1, ?_⟩
  rintro ⟨k, v, hk, hv⟩
  rw [Nat.zero_add] at hv
  obtain ⟨g1, g2, g3, g4⟩ := (hok _ _).1 hv
  have := h2 v (List.mem_of_getElem? hk) g2 g3
  subst this
  rcases g4 with g4 | g4
  ·omega
  ·exact h3 k g4 hk
theorem zrO {ways : List zm} : ∀ (i : Nat), i ≤ ways.length → ∀ w, w ∈ ofK ways i ↔ zqA ways w ∧ ∃ j < i, ways[j]? = some w
 | 0, _, w => by simp [ofK]
 | i + 1, hi, w => by
  have hil : i < ways.length := hi
  have ih := zrO (ways := ways) i (Nat.le_of_lt hil) w
  obtain ⟨u, hg⟩ : ∃ u, ways[i]? = some u := ⟨ways[i], List.getElem?_eq_getElem hil⟩
  rw [ofK, hg]
  simp only
  by_cases hu : (!u.isEmpty && !badW ways i u 0 ways) = true
  ·rw [if_pos hu, zAn, ih]
   obtain ⟨h1, h2⟩ := (zsp hg).1 hu
   constructor
   ·rintro (rfl | ⟨h3, j, hj, hje⟩)
    ·exact ⟨h1, i, by omega, hg⟩
    ·exact ⟨h3, j, by omega, hje⟩
   ·rintro ⟨h3, j, hj, hje⟩
    by_cases hji : j = i
    ·subst hji; rw [hg] at hje; cases hje; exact .inl rfl
    ·exact .inr ⟨h3, j, by omega, hje⟩
  ·rw [if_neg hu, ih]
   constructor
   ·rintro ⟨h3, j, hj, hje⟩; exact ⟨h3, j, by omega, hje⟩
   ·rintro ⟨h3, j, hj, hje⟩
    by_cases hji : j = i
    ·subst hji
     rw [hg] at hje; cases hje
     -- it stood there zqD
     have hn : ¬ ∀ k < j, ways[k]? ≠ some w := fun hk => hu ((zsp hg).2 ⟨h3, hk⟩)
     simp only [Classical.not_forall, Classical.not_not] at hn
     obtain ⟨k, hk, hke⟩ := hn
     exact ⟨h3, k, hk, hke⟩
    ·exact ⟨h3, j, by omega, hje⟩
theorem zgG {ways : List zm} {w : zm} : w ∈ ofW ways ↔ zqA ways w := by
 unfold ofW
 rw [zrO _ (Nat.le_refl _)]
 refine ⟨fun h => h.1, fun h => ⟨h, ?_⟩⟩
 obtain ⟨j, hj, rfl⟩ := List.getElem_of_mem h.1
 exact ⟨j, hj, List.getElem?_eq_getElem hj⟩
theorem zsM {ways : List zm} : ∀ (i : Nat), i ≤ ways.length → (ofK ways i).Pairwise (fun a b => zbG a b = true)
 | 0, _ => .nil
 | i + 1, hi => by
  have hil : i < ways.length := hi
  have ih := zsM (ways := ways) i (Nat.le_of_lt hil)
  obtain ⟨u, hg⟩ : ∃ u, ways[i]? = some u := ⟨ways[i], List.getElem?_eq_getElem hil⟩
  rw [ofK, hg]
  simp only
  by_cases hu : (!u.isEmpty && !badW ways i u 0 ways) = true
  ·rw [if_pos hu]
   obtain ⟨h1, h2⟩ := (zsp hg).1 hu
   refine zwc ih fun hm => ?_
   obtain ⟨_, j, hj, hje⟩ := (zrO i (by omega) u).1 hm
   exact h2 j hj hje
  ·rw [if_neg hu]; exact ih
theorem zmv (ways : List zm) : (ofW ways).Pairwise (fun a b => zbG a b = true) := zsM _ (Nat.le_refl _)
theorem zrN {ways : List zm} : ∀ (i : Nat), (ofK ways i).length ≤ i
 | 0 => Nat.le_refl _
 | i + 1 => by
  have ih := zrN (ways := ways) i
  rw [ofK]
  split
  ·split
   ·unfold insL
    have hs : ∀ (p : zm → Bool), ((ofK ways i).takeWhile p).length + ((ofK ways i).dropWhile p).length = (ofK ways i).length := fun p => by rw [← List.length_append, List.takeWhile_append_dropWhile]
    rename_i w _ _
    have := hs (fun x => zbG x w)
    simp only [List.length_append, List.length_cons]
    omega
   ·omega
  ·omega
theorem zjj (ways : List zm) : (ofW ways).length ≤ ways.length := zrN _
def hasB (ways : List zm) (way : zm) : Bool := ways.any fun v => !v.isEmpty && begB way v
theorem zbQ {ways : List zm} {way : zm} : hasB ways way = true ↔ ∃ v ∈ ways, v ≠ [] ∧ v <+: way := by
 unfold hasB
 rw [List.any_eq_true]
 constructor
 ·rintro ⟨v, hv, h⟩
  simp only [Bool.and_eq_true, ziC, Bool.not_eq_true', List.isEmpty_eq_false_iff] at h
  exact ⟨v, hv, h.1, h.2⟩
 ·rintro ⟨v, hv, h1, h2⟩
  exact ⟨v, hv, by simp only [Bool.and_eq_true, ziC, Bool.not_eq_true', List.isEmpty_eq_false_iff]; exact ⟨h1, h2⟩⟩
theorem zxJ {ways : List zm} : ∀ (n : Nat) (v : zm), v.length ≤ n → v ∈ ways → v ≠ [] → ∃ w, zqA ways w ∧ w <+: v := by
 intro n
 induction n with
 | zero => intro v hv _ h0; exact absurd (List.eq_nil_of_length_eq_zero (by omega)) h0
 | succ n ih =>
  intro v hv hm h0
  by_cases h : ∀ u ∈ ways, u ≠ [] → u <+: v → u = v
  ·exact ⟨v, ⟨hm, h0, h⟩, List.prefix_refl v⟩
  ·simp only [Classical.not_forall] at h
   obtain ⟨u, hu, hu0, hp, hne⟩ := h
   have hl : u.length < v.length := by
    rcases Nat.lt_or_ge u.length v.length with h' | h'
    ·exact h'
    ·exact absurd (hp.eq_of_length (by have := hp.length_le; omega)) hne
   obtain ⟨w, hw, hwp⟩ := ih u (by omega) hu hu0
   exact ⟨w, hw, hwp.trans hp⟩
theorem zjh {ways : List zm} {way : zm} : hasB (ofW ways) way = hasB ways way := by
 rw [Bool.eq_iff_iff, zbQ, zbQ]
 constructor
 ·rintro ⟨v, hv, h0, hp⟩
  exact ⟨v, (zgG.1 hv).1, h0, hp⟩
 ·rintro ⟨v, hv, h0, hp⟩
  obtain ⟨w, hw, hwp⟩ := zxJ v.length v (Nat.le_refl _) hv h0
  exact ⟨w, zgG.2 hw, hw.2.1, hwp.trans hp⟩
theorem zkt {a b : List zm} (h : ∀ way, hasB a way = hasB b way) : ofW a = ofW b := by
 have half : ∀ {a b : List zm}, (∀ way, hasB a way = hasB b way) → ∀ w, zqA a w → zqA b w := by
  intro a b h w hw
  have h1 : hasB b w = true := by rw [← h]; exact zbQ.2 ⟨w, hw.1, hw.2.1, List.prefix_refl w⟩
  obtain ⟨v, hv, hv0, hvp⟩ := zbQ.1 h1
  have h2 : hasB a v = true := by rw [h]; exact zbQ.2 ⟨v, hv, hv0, List.prefix_refl v⟩
  obtain ⟨u, hu, hu0, hup⟩ := zbQ.1 h2
  have huw := hw.2.2 u hu hu0 (hup.trans hvp)
  have hvw : v = w := by
   subst huw
   exact hvp.eq_of_length (by have := hvp.length_le; have := hup.length_le; omega)
  subst hvw
  refine ⟨hv, hv0, fun x hx hx0 hxp => ?_⟩
  have h3 : hasB a x = true := by rw [h]; exact zbQ.2 ⟨x, hx, hx0, List.prefix_refl x⟩
  obtain ⟨y, hy, hy0, hyp⟩ := zbQ.1 h3
  have := hw.2.2 y hy hy0 (hyp.trans hxp)
  subst this
  exact hxp.eq_of_length (by have := hyp.length_le; have := hxp.length_le; omega)
 exact znV _ _ (zmv a) (zmv b) fun w => by rw [zgG, zgG]; exact ⟨half h w, half (fun way => (h way).symm) w⟩
theorem zmu (ways : List zm) : ofW (ofW ways) = ofW ways := zkt fun way => zjh
def WW (ways : List zm) : Prop := ways.length ≤ 5864062014634 ∧ ∀ w ∈ ways, w.length ≤ 17592186043904
theorem zAR {ways : List zm} (hw : WW ways) {i : Nat} {w : zm} (hi : ∃ h : i < ways.length, ways[i] = w) : ∀ (t : List zm) (k : Nat) (ok : Bool), ways.drop k = t → zeo i ways ok k = some (ok && !badW ways i w k t) := by
 obtain ⟨hil, hie⟩ := hi
 have e1 : idx ways (i : Int) = some w := by rw [zE rfl hil, hie]
 have hwl := hw.2 w (by rw [← hie]; exact List.getElem_mem hil)
 have hwc := hw.1
 intro t
 induction t with
 | nil =>
  intro k ok hd
  have := zaU hd
  refine (zmf (oo_ := ok) ?_).trans ?_
  ·unfold zbD
   rw [itF (by simp; omega)]
  ·simp [badW]
 | cons v t ih =>
  intro k ok hd
  obtain ⟨hk, hv, hd'⟩ := zav hd
  have e2 : idx ways (k : Int) = some v := by rw [zE rfl hk, hv]
  have hb : zbD i ways ok k = if zrw ways i w k v = true then some (.inl (false, ((k + 1 : Nat) : Int))) else some (.inl (ok, ((k + 1 : Nat) : Int))) := by
   have hg : (if ((k : Int) != (i : Int)) = true then (idx ways (k : Int) >>= fun x2 => if (decide ((x2.length : Int) > 0)) = true then (idx ways (i : Int) >>= fun x3 => idx ways (k : Int) >>= fun x4 => zcU x3 x4 >>= fun rv =>
     if rv = true then (idx ways (k : Int) >>= fun x5 => idx ways (i : Int) >>= fun x6 => if (decide ((x5.length : Int) < (x6.length : Int))) = true then some true else some (decide ((k : Int) < (i : Int)))) else some false) else some false) else some false) = some (zrw ways i w k v) := by
    unfold zrw
    by_cases h1 : k = i
    ·rw [itF (by simp [h1])]; simp [h1]
    ·rw [itT (by simp; omega), e2, sb]
     cases v with
     | nil => rw [itF (by simp)]; simp
     | cons y v =>
      rw [itT (by simp), e1, sb, sb, zqi (by omega), sb]
      cases hbg : begB w (y :: v)
      ·rw [itF rfl]; simp
      ·rw [itT rfl, sb, sb]
       by_cases h2 : (y :: v).length < w.length
       ·rw [itT (decide_eq_true (by omega))]
        have : decide ((y :: v).length < w.length) = true := decide_eq_true h2
        rw [this]; simp [h1]
       ·rw [itF (decide_eq_false (by omega))]
        have : decide ((y :: v).length < w.length) = false := decide_eq_false h2
        rw [this]; simp [h1]
   unfold zbD
   rw [itT (by simp; omega), hg, sb, zy (by omega)]
   push_cast; rfl
  rw [badW]
  cases ho : zrw ways i w k v
  ·rw [ho, if_neg (by simp)] at hb
   rw [ziF hb, ih _ _ hd', Bool.false_or]
  ·rw [ho, if_pos rfl] at hb
   rw [ziF hb, ih _ _ hd']; simp
theorem zAS {ways out : List zm} (hw : WW ways) (ho : WW out) {i : Nat} {w : zm} (hi : ∃ h : i < ways.length, ways[i] = w) : ∀ (t : List zm) (k : Nat), out.drop k = t → k ≤ out.length →
  zep i out ways k = some ((k + (t.takeWhile (fun x => zbG x w)).length : Nat) : Int) := by
 obtain ⟨hil, hie⟩ := hi
 have e1 : idx ways (i : Int) = some w := by rw [zE rfl hil, hie]
 have hoc := ho.1
 intro t
 induction t with
 | nil =>
  intro k hd hk
  have := zaU hd
  refine ziG ?_
  unfold zbE
  rw [itF (by simp; omega), sb, itF rfl]; simp
 | cons v t ih =>
  intro k hd hk
  obtain ⟨hkl, hv, hd'⟩ := zav hd
  have e2 : idx out (k : Int) = some v := by rw [zE rfl hkl, hv]
  have hvl := ho.2 v (by rw [← hv]; exact List.getElem_mem hkl)
  have hb : zbE i out ways k = if zbG v w = true then some (.inl ((k + 1 : Nat) : Int)) else some (.inr (k : Int)) := by
   unfold zbE
   rw [itT (by simp; omega), e2, sb, e1, sb, zxU (by omega), sb, sb, zy (by omega)]
   push_cast; rfl
  rw [List.takeWhile_cons]
  by_cases h : zbG v w = true
  ·rw [if_pos h] at hb
   rw [zmg hb, ih _ hd' (by omega), if_pos h, List.length_cons]
   congr 2; omega
  ·rw [if_neg h] at hb
   rw [ziG hb, if_neg h]; simp
theorem ziZ {ways : List zm} (hw : WW ways) : zcL ways = some (ofW ways) := by
 have hwc := hw.1
 have wwk : ∀ i, i ≤ ways.length → WW (ofK ways i) := fun i hi => ⟨by have := zrN (ways := ways) i; omega, fun w hm => hw.2 w ((zrO i hi w).1 hm).1.1⟩
 have key : ∀ (d i : Nat), i + d = ways.length → zen ways (ofK ways i) i = some (ofW ways) := by
  intro d
  induction d with
  | zero =>
   intro i hi
   have : i = ways.length := by omega
   subst this
   refine zme ?_
   unfold zbS
   rw [itF (by simp)]; rfl
  | succ d ih =>
   intro i hi
   have hil : i < ways.length := by omega
   obtain ⟨w, hwe⟩ : ∃ w, ways[i] = w := ⟨_, rfl⟩
   have e1 : idx ways (i : Int) = some w := by rw [zE rfl hil, hwe]
   have h2 := zAR hw (i := i) (w := w) ⟨hil, hwe⟩ ways 0 (!w.isEmpty) rfl
   have h2' : zeo i ways (!w.isEmpty) 0 = _ := h2
   have hke := hw.2 w (by rw [← hwe]; exact List.getElem_mem hil)
   have hpos : decide ((w.length : Int) > 0) = !w.isEmpty := by cases w <;> simp
   have hol := zrN (ways := ways) i
   have hk1 : ofK ways (i + 1) = if (!w.isEmpty && !badW ways i w 0 ways) = true then insL w (ofK ways i) else ofK ways i := by
    rw [ofK, List.getElem?_eq_getElem hil, hwe]
   refine (zmd (out' := ofK ways (i + 1)) (i' := ((i + 1 : Nat) : Int)) ?_).trans (ih _ (by omega))
   unfold zbS
   rw [itT (by simp; omega), e1, sb, hpos, h2', sb, hk1]
   cases hg : (!w.isEmpty && !badW ways i w 0 ways)
   ·rw [itT (c := !false) rfl, if_neg (by simp), zy (by omega)]; push_cast; rfl
   ·rw [itF (c := !true) rfl, if_pos rfl]
    have h3 := zAS hw (wwk i (by omega)) (i := i) (w := w) ⟨hil, hwe⟩ (ofK ways i) 0 rfl (Nat.zero_le _)
    have h3' : zep i (ofK ways i) ways 0 = _ := h3
    rw [Nat.zero_add] at h3'
    have hsp : (ofK ways i).takeWhile (fun x => zbG x w) ++ (ofK ways i).dropWhile (fun x => zbG x w) = ofK ways i := List.takeWhile_append_dropWhile
    unfold insL
    generalize (ofK ways i).takeWhile (fun x => zbG x w) = tk at h3' hsp ⊢
    generalize (ofK ways i).dropWhile (fun x => zbG x w) = dk at hsp ⊢
    have hlen : tk.length + dk.length = (ofK ways i).length := by rw [← hsp, List.length_append]
    have c1 : cut (ofK ways i) 0 ((tk.length : Nat) : Int) = some tk := by rw [znm rfl (by omega), ← hsp, List.take_left]
    have c2 : cut (ofK ways i) ((tk.length : Nat) : Int) ((ofK ways i).length : Int) = some dk := by rw [znl rfl rfl (by omega), ← hsp, List.drop_left]
    rw [h3', sb, c1, sb, zeG (by simp; omega), sb, List.nil_append, sb, zeG (by simp; omega), sb, c2, sb, zeG (by simp; omega), sb, zy (by omega)]
    simp
 unfold zcL
 have h := key ways.length 0 (by omega)
 have h' : zen ways [] 0 = _ := h
 rw [h', sb]
theorem znQ {ways : List zm} (hw : WW ways) {way : zm} (hl : way.length ≤ 1152921504606846976) : zem ways way = some (hasB ways way) := by
 have hwc := hw.1
 have key : ∀ (t : List zm) (i : Nat), ways.drop i = t → zdV way ways i = some (if hasB t way = true then .inr () else .inl ()) := by
  intro t
  induction t with
  | nil =>
   intro i hd
   have := zaU hd
   refine zii ?_
   unfold zbu
   rw [itF (by simp; omega)]; rfl
  | cons v t ih =>
   intro i hd
   obtain ⟨hk, hv, hd'⟩ := zav hd
   have e1 : idx ways (i : Int) = some v := by rw [zE rfl hk, hv]
   have hb : zbu way ways i = if (!v.isEmpty && begB way v) = true then some (.inr (.inr ())) else some (.inl ((i + 1 : Nat) : Int)) := by
    unfold zbu
    rw [itT (by simp; omega), e1, sb]
    cases v with
    | nil => rw [itF (by simp), sb, itF rfl, if_neg (by simp), zy (by omega)]; push_cast; rfl
    | cons y v =>
     rw [itT (by simp), sb, zqi (by omega), sb, sb]
     have : (!(y :: v).isEmpty && begB way (y :: v)) = begB way (y :: v) := by simp
     rw [this, zy (by omega)]
     push_cast; rfl
   have hh : hasB (v :: t) way = ((!v.isEmpty && begB way v) || hasB t way) := by unfold hasB; rw [List.any_cons]
   rw [hh]
   cases hg : (!v.isEmpty && begB way v)
   ·rw [hg, if_neg (by simp)] at hb
    rw [zlD hb, ih _ hd', Bool.false_or]
   ·rw [hg, if_pos rfl] at hb
    rw [zii hb]; simp
 have h := key ways 0 rfl
 have h' : zdV way ways 0 = _ := h
 unfold zem
 rw [h', sb]
 cases hasB ways way <;> rfl
theorem zeD {a b : List zm} (ha : WW a) : zaw a b = some (decide (a = b)) := by
 have hac := ha.1
 unfold zaw
 by_cases hl : a.length = b.length
 ·rw [itF (by simp; omega)]
  have h := zte a b (fun i => zdy a b i) hl (by
    refine zhM ?_
    unfold zbn
    rw [itF (by simp)])
   (fun i hi hi' => by
    have hx := ha.2 _ (List.getElem_mem hi)
    by_cases hp : a[i] = b[i]
    ·rw [if_pos hp]
     refine zln ?_
     unfold zbn
     rw [itT (by simp; omega), zE rfl hi, sb, zE rfl hi', sb, zkw (by omega), sb, itF (by simp [hp]), zy (by omega)]; push_cast; rfl
    ·rw [if_neg hp]
     refine zhM ?_
     unfold zbn
     rw [itT (by simp; omega), zE rfl hi, sb, zE rfl hi', sb, zkw (by omega), sb, itT (by simp [hp])])
   a.length 0 (by omega)
  have h' : zdy a b 0 = _ := h
  rw [h', sb, List.drop_zero, List.drop_zero]
  by_cases he : a = b
  ·rw [if_pos he]; simp [he]
  ·rw [if_neg he]; simp [he]
 ·rw [itT (by simp; omega)]
  have : a ≠ b := fun e => hl (by rw [e])
  simp [this]
def zie (m : List zm) (n : Int) : Bool := m.any fun v => v == [n]
theorem zwI {m : List zm} (hw : WW m) (n : Int) : zfs m n = some (zie m n) := by
 have hwc := hw.1
 have key : ∀ (t : List zm) (i : Nat), m.drop i = t → zdg m n i = some (if zie t n = true then .inr () else .inl ()) := by
  intro t
  induction t with
  | nil =>
   intro i hd
   have := zaU hd
   refine zhC ?_
   unfold zbc
   rw [itF (by simp; omega)]; rfl
  | cons v t ih =>
   intro i hd
   obtain ⟨hk, hv, hd'⟩ := zav hd
   have e1 : idx m (i : Int) = some v := by rw [zE rfl hk, hv]
   have hb : zbc m n i = if (v == [n]) = true then some (.inr (.inr ())) else some (.inl ((i + 1 : Nat) : Int)) := by
    unfold zbc
    rw [itT (by simp; omega), e1, sb]
    match v with
    | [] => rw [itF (by rfl), sb, itF rfl, if_neg (by simp), zy (by omega)]; push_cast; rfl
    | [x] =>
     have e0 : idx [x] 0 = some x := rfl
     rw [itT (by rfl), sb, e0, sb, sb, zy (by omega)]
     by_cases hx : x = n
     ·rw [itT (by simpa using hx), if_pos (by simp [hx])]
     ·rw [itF (by simpa using hx), if_neg (by simp [hx])]; push_cast; rfl
    | x :: y :: v => rw [itF (by simp; omega), sb, itF rfl, if_neg (by simp), zy (by omega)]; push_cast; rfl
   have hh : zie (v :: t) n = ((v == [n]) || zie t n) := by unfold zie; rw [List.any_cons]
   rw [hh]
   cases hg : (v == [n])
   ·rw [hg, if_neg (by simp)] at hb
    rw [zkN hb, ih _ hd', Bool.false_or]
   ·rw [hg, if_pos rfl] at hb
    rw [zhC hb]; simp
 have h := key m 0 rfl
 have h' : zdg m n 0 = _ := h
 unfold zfs
 rw [h', sb]
 cases zie m n <;> rfl
def zgd (n : Int) : zm → Option zm
 | x :: y :: v => if x = n then some (y :: v) else none
 | _ => none
def zeY (m : List zm) (n : Int) : List zm := m.filterMap (zgd n)
theorem zwH {m : List zm} (hw : WW m) (n : Int) : zer m n = some (zeY m n) := by
 have hwc := hw.1
 have key : ∀ (t : List zm) (i : Nat) (out : List zm), m.drop i = t → out.length ≤ i → zdf m n out i = some (out ++ zeY t n) := by
  intro t
  induction t with
  | nil =>
   intro i out hd ho
   have := zaU hd
   refine (zkM (oo_ := out) ?_).trans ?_
   ·unfold zbb
    rw [itF (by simp; omega)]
   ·simp [zeY]
  | cons v t ih =>
   intro i out hd ho
   obtain ⟨hk, hv, hd'⟩ := zav hd
   have e1 : idx m (i : Int) = some v := by rw [zE rfl hk, hv]
   have hb : zbb m n out i = some (.inl (out ++ (zgd n v).toList, ((i + 1 : Nat) : Int))) := by
    unfold zbb
    rw [itT (by simp; omega), e1, sb]
    match v with
    | [] => rw [itF (by rfl), sb, itF rfl, zy (by omega)]; simp [zgd]
    | [x] => rw [itF (by rfl), sb, itF rfl, zy (by omega)]; simp [zgd]
    | x :: y :: v =>
     have e0 : idx (x :: y :: v) 0 = some x := rfl
     rw [itT (by simp; omega), sb, e0, sb, sb]
     by_cases hx : x = n
     ·have ec : cut (x :: y :: v) 1 ((x :: y :: v).length : Int) = some (y :: v) := znl (a := 1) rfl rfl (by simp)
      rw [itT (by simpa using hx), sb, ec, sb, zeG (by simp; omega), sb, zy (by omega)]
      simp [zgd, hx]
     ·rw [itF (by simpa using hx), zy (by omega)]
      simp [zgd, hx]
   have hrl : (zgd n v).toList.length ≤ 1 := by cases zgd n v <;> simp
   rw [zkL hb, ih _ _ hd' (by rw [List.length_append]; omega)]
   unfold zeY
   rw [List.filterMap_cons]
   cases zgd n v <;> simp
 have h := key m 0 [] rfl (Nat.le_refl _)
 have h' : zdf m n [] 0 = _ := h
 unfold zer
 rw [h', sb, List.nil_append]
def zbX (s : List Mes) (root : Int) : Int := if zjN s = false then 9 else if root < 0 ∨ root ≥ s.length then 2 else 0
theorem zmB {s : List Mes} (hw : WS s) (root : Int) : zdL s root = some (zbX s root) := by
 unfold zdL zbX
 rw [ztD hw, sb]
 cases h : zjN s
 ·rw [itT (c := !false) rfl, if_pos (show false = false from rfl)]
 ·rw [itF (c := !true) rfl, if_neg (show ¬ (true = false) by simp)]
  by_cases h2 : root < 0 ∨ root ≥ s.length
  ·rw [itT (by simpa using h2), if_pos h2]
  ·rw [itF (by simp; omega), if_neg h2]
theorem zif {s : List Mes} {root : Int} (h : zbX s root = 0) : ziA s ∧ 0 ≤ root ∧ root < s.length := by
 unfold zbX at h
 split at h
 ·omega
 ·rename_i h1
  split at h
  ·omega
  ·exact ⟨zzz (by simpa using h1), by omega⟩
def wayS (s : List Mes) : List (List UInt8) → Int → Option zm
 | [], _ => none
 | [nm], r => if nmdI (zaN s r) nm < 0 then none else some [(zeZ (zaN s r) (nmdI (zaN s r) nm)).Number]
 | nm :: y :: l, r => if nmdI (zaN s r) nm < 0 then none
  else if (zeZ (zaN s r) (nmdI (zaN s r) nm)).Repeated = true ∨ (zeZ (zaN s r) (nmdI (zaN s r) nm)).Kind ≠ 17 then none
  else (wayS s (y :: l) (zeZ (zaN s r) (nmdI (zaN s r) nm)).Of).map ((zeZ (zaN s r) (nmdI (zaN s r) nm)).Number :: ·)
theorem zpg (m : Mes) (n : List UInt8) : nmdI m n = -1 ∧ (∀ f ∈ m.Fields, f.Name ≠ n) ∨ ∃ (i : Nat) (h : i < m.Fields.length), nmdI m n = i ∧ m.Fields[i].Name = n ∧ ∀ (j : Nat) (h : j < m.Fields.length), j < i → m.Fields[j].Name ≠ n := by
 unfold nmdI
 cases h : m.Fields.findIdx? (fun f : Fld => f.Name == n) with
 | none =>
  left
  rw [List.findIdx?_eq_none_iff] at h
  exact ⟨zim (List.findIdx?_eq_none_iff.2 h), fun f hf => by simpa using h f hf⟩
 | some i =>
  right
  have h' := h
  rw [List.findIdx?_eq_some_iff_getElem] at h
  obtain ⟨hi, hp, hj⟩ := h
  exact ⟨i, hi, zin h', by simpa using hp, fun j hjl hji => by simpa using hj j hji⟩
theorem znW (s : List Mes) : ∀ (l : List (List UInt8)) (r : Int) (w : zm), wayS s l r = some w → w.length = l.length
 | [], _, _, h => by cases h
 | [nm], r, w, h => by
  rw [wayS] at h
  split at h
  ·cases h
  ·cases h; rfl
 | nm :: y :: l, r, w, h => by
  rw [wayS] at h
  split at h
  ·cases h
  ·split at h
   ·cases h
   ·rw [Option.map_eq_some_iff] at h
    obtain ⟨w', h1, rfl⟩ := h
    rw [List.length_cons, znW s (y :: l) _ w' h1]; rfl
theorem zur {s : List Mes} (hr : ziA s) : ∀ (l : List (List UInt8)) (fuel k : Nat), l ≠ [] → l.length ≤ fuel → l.length ≤ 1048576 → k < s.length →
  zgm fuel s k l = some (match wayS s l k with | some w => (w, true) | none => ([], false))
 | [], _, _, h, _, _, _ => absurd rfl h
 | nm :: t, fuel, k, _, hf, hlen, hk => by
  obtain ⟨fuel, rfl⟩ : ∃ q, fuel = q + 1 := ⟨fuel - 1, by simp at hf; omega⟩
  have hm : s[k] ∈ s := List.getElem_mem hk
  have hfew := hr.few _ hm
  have e0 : idx (nm :: t) 0 = some nm := rfl
  have e1 : idx s (k : Int) = some s[k] := zE rfl hk
  show zfr (zgm fuel) s k (nm :: t) = _
  unfold zfr
  rw [e1, sb, e0, sb, zwG (by omega), sb]
  have hms : zaN s (k : Int) = s[k] := zjz hk
  rcases zpg s[k] nm with ⟨hn, _⟩ | ⟨i, hi, hn, hne, _⟩
  ·rw [hn, itT (by rfl)]
   cases t with
   | nil => rw [wayS, hms, hn, if_pos (show (-1 : Int) < 0 by decide)]
   | cons y t => rw [wayS, hms, hn, if_pos (show (-1 : Int) < 0 by decide)]
  ·have hfm : s[k].Fields[i] ∈ s[k].Fields := List.getElem_mem hi
   have hfo := hr.fld _ hm _ hfm
   rw [hn, itF (by simp), sb, zE rfl hi, sb]
   cases t with
   | nil =>
    rw [itT (by rfl), wayS, hms, hn, if_neg (show ¬ ((i : Int) < 0) by omega), zjs hi]
   | cons y t =>
    rw [itF (by simp; omega), wayS, hms, hn, if_neg (show ¬ ((i : Int) < 0) by omega), zjs hi]
    by_cases h17 : (s[k].Fields[i]).Repeated = true ∨ (s[k].Fields[i]).Kind ≠ 17
    ·rw [itT (by simpa using h17), if_pos h17]
    ·rw [itF (by simpa using h17), if_neg h17]
     have hk17 : (s[k].Fields[i]).Kind = 17 := by
      by_cases h : (s[k].Fields[i]).Kind = 17
      ·exact h
      ·exact absurd (.inr h) h17
     have hof := hfo.sub hk17
     obtain ⟨q, hq⟩ : ∃ q : Nat, (s[k].Fields[i]).Of = q := ⟨(s[k].Fields[i]).Of.toNat, by omega⟩
     have ec : cut (nm :: y :: t) 1 ((nm :: y :: t).length : Int) = some (y :: t) := znl (a := 1) rfl rfl (by simp)
     simp only [List.length_cons] at hf hlen
     rw [ec, sb, hq, zur hr (y :: t) fuel q (by simp) (by simp; omega) (by simp; omega) (by omega), sb]
     cases hw : wayS s (y :: t) q with
     | none => simp only [Option.map_none]; rw [itT (by rfl)]
     | some w =>
      have hwl := znW s _ _ _ hw
      simp only [List.length_cons] at hwl
      simp only [Option.map_some]
      rw [itF (by rfl), zeG (by simp; omega), sb]
      simp
def zbo (s : List Mes) (root : Int) (p : List UInt8) : zm × Int :=
 if zbX s root ≠ 0 then ([], zbX s root) else if (zgj p).2 = false then ([], 10) else match wayS s (zgj p).1 root with
  | some w => (w, 0)
  | none => ([], 10)
theorem zmD {p : List UInt8} (h : (zgj p).2 = true) : zgj p = (zcT p, true) ∧ (zcT p).length ≤ 65 ∧ zcT p ≠ [] ∧ ∀ x ∈ zcT p, zbB x = true := by
 unfold zgj at h ⊢
 split at h
 ·rename_i h1
  rw [if_pos h1]
  simp only [Bool.and_eq_true, List.all_eq_true, decide_eq_true_eq] at h1
  exact ⟨rfl, h1.2, zqv p, h1.1⟩
 ·cases h
theorem zlt {s : List Mes} (hw : WS s) (root : Int) {p : List UInt8} (hp : p.length ≤ 1099511627776) {fuel : Nat} (hf : 65 ≤ fuel) : zdx fuel s root p = some (zbo s root p) := by
 unfold zdx zbo
 rw [zmB hw, sb]
 by_cases h : zbX s root = 0
 ·obtain ⟨hr, h1, h2⟩ := zif h
  obtain ⟨k, rfl⟩ : ∃ k : Nat, root = k := ⟨root.toNat, by omega⟩
  rw [itF (by simpa using h), if_neg (show ¬ (zbX s k ≠ 0) from fun hh => hh h), ztE hp, sb]
  cases h3 : (zgj p).2
  ·rw [itT (c := !false) rfl, if_pos (show false = false from rfl)]
  ·obtain ⟨h4, h5, h6, _⟩ := zmD h3
   rw [itF (c := !true) rfl, if_neg (show ¬ (true = false) by simp), h4]
   simp only
   rw [zur hr _ fuel k h6 (by omega) (by omega) (by omega), sb]
   cases wayS s (zcT p) k with
   | none => simp only; rw [itT (by rfl)]
   | some w => simp only; rw [itF (by rfl)]
 ·rw [itT (by simpa using h), if_pos h]
theorem zjl (s : List Mes) (root : Int) (p : List UInt8) : 0 ≤ (zbo s root p).2 ∧ (zbo s root p).2 ≤ 10 ∧ ((zbo s root p).2 ≠ 0 → (zbo s root p).1 = []) ∧ (zbo s root p).1.length ≤ 65 := by
 unfold zbo
 have ha : 0 ≤ zbX s root ∧ zbX s root ≤ 9 := by unfold zbX; repeat' split; all_goals omega
 split
 ·exact ⟨ha.1, by simp only; omega, fun _ => rfl, by simp⟩
 ·split
  ·exact ⟨by simp, by simp, fun _ => rfl, by simp⟩
  ·rename_i h3
   obtain ⟨h4, h5, _⟩ := zmD (p := p) (by simpa using h3)
   split
   ·rename_i w hw
    rw [h4] at hw
    exact ⟨by simp, by simp, fun h => absurd rfl h, by simp only; rw [znW s _ _ _ hw]; exact h5⟩
   ·exact ⟨by simp, by simp, fun _ => rfl, by simp⟩
def zgY (s : List Mes) (root : Int) : List (List UInt8) → List zm ⊕ Int
 | [] => .inl []
 | p :: l => if (zbo s root p).2 ≠ 0 then .inr (zbo s root p).2 else match zgY s root l with
  | .inl ws => .inl ((zbo s root p).1 :: ws)
  | .inr c => .inr c
def zeO (s : List Mes) (root : Int) (paths : List (List UInt8)) : List zm × Int :=
 if zbX s root ≠ 0 then ([], zbX s root) else if 200 < paths.length then ([], 13) else match zgY s root paths with
  | .inl ws => (ofW ws, 0)
  | .inr c => ([], c)
theorem zlW (s : List Mes) (root : Int) : ∀ (l : List (List UInt8)) (ws : List zm), zgY s root l = .inl ws → ws.length = l.length ∧ ∀ w ∈ ws, w.length ≤ 65
 | [], ws, h => by cases h; simp
 | p :: l, ws, h => by
  rw [zgY] at h
  split at h
  ·cases h
  ·split at h
   ·rename_i ws' hw
    cases h
    obtain ⟨h1, h2⟩ := zlW s root l ws' hw
    refine ⟨by simp [h1], fun w hm => ?_⟩
    rcases List.mem_cons.1 hm with rfl | hm
    ·exact (zjl s root p).2.2.2
    ·exact h2 w hm
   ·cases h
theorem zzp {s : List Mes} (hw : WS s) (root : Int) {paths : List (List UInt8)} (hp : paths.length ≤ 1048576) (hx : ∀ p ∈ paths, p.length ≤ 1099511627776) {fuel : Nat} (hf : 65 ≤ fuel) : ∀ (t : List (List UInt8)) (i : Nat) (ws : List zm), paths.drop i = t → ws.length ≤ i →
  zdv fuel paths root s ws i = some (match zgY s root t with | .inl us => .inl (ws ++ us) | .inr c => .inr c) := by
 intro t
 induction t with
 | nil =>
  intro i ws hd ho
  have := zaU hd
  refine (zhK (oo_ := .inl ws) ?_).trans ?_
  ·unfold zbm
   rw [itF (by simp; omega)]
  ·simp [zgY]
 | cons p t ih =>
  intro i ws hd ho
  obtain ⟨hk, hv, hd'⟩ := zav hd
  have e1 : idx paths (i : Int) = some p := by rw [zE rfl hk, hv]
  have hpl := hx p (by rw [← hv]; exact List.getElem_mem hk)
  rw [zgY]
  by_cases hc : (zbo s root p).2 = 0
  ·rw [if_neg (show ¬ ((zbo s root p).2 ≠ 0) from fun h => h hc)]
   refine (zlm (ways' := ws ++ [(zbo s root p).1]) (i' := ((i + 1 : Nat) : Int)) ?_).trans ?_
   ·unfold zbm
    rw [itT (by simp; omega), e1, sb, zlt hw root hpl hf, sb, itF (by simpa using hc), zeG (by simp; omega), sb, zy (by omega)]
    push_cast; rfl
   ·rw [ih _ _ hd' (by simp; omega)]
    cases zgY s root t <;> simp
  ·rw [if_pos hc]
   refine zhK ?_
   unfold zbm
   rw [itT (by simp; omega), e1, sb, zlt hw root hpl hf, sb, itT (by simpa using hc)]
theorem zvj {s : List Mes} (hw : WS s) (root : Int) {paths : List (List UInt8)} (hx : ∀ p ∈ paths, p.length ≤ 1099511627776) {fuel : Nat} (hf : 65 ≤ fuel) : zfQ fuel s root paths = some (zeO s root paths) := by
 unfold zfQ zeO
 rw [zmB hw, sb]
 by_cases h : zbX s root = 0
 ·rw [itF (by simpa using h), if_neg (show ¬ (zbX s root ≠ 0) from fun hh => hh h)]
  by_cases hl : 200 < paths.length
  ·rw [itT (by simp; omega), if_pos hl]
  ·rw [itF (by simp; omega), if_neg hl]
   have h1 := zzp hw root (paths := paths) (by omega) hx hf paths 0 [] rfl (Nat.le_refl _)
   have h1' : zdv fuel paths root s [] 0 = _ := h1
   rw [h1', sb]
   cases hwr : zgY s root paths with
   | inl ws =>
    obtain ⟨g1, g2⟩ := zlW s root paths ws hwr
    simp only [List.nil_append]
    rw [ziZ ⟨by omega, fun w hm => by have := g2 w hm; omega⟩, sb]
   | inr c => rfl
 ·rw [itT (by simpa using h), if_pos h]
def zgr (s : List Mes) : zm → Int → Option (List (List UInt8))
 | [], _ => some []
 | [n], r => if fldI (zaN s r) n < 0 then none else some [(zeZ (zaN s r) (fldI (zaN s r) n)).Name]
 | n :: y :: l, r => if fldI (zaN s r) n < 0 then none
  else if (zeZ (zaN s r) (fldI (zaN s r) n)).Repeated = true ∨ (zeZ (zaN s r) (fldI (zaN s r) n)).Kind ≠ 17 then none
  else (zgr s (y :: l) (zeZ (zaN s r) (fldI (zaN s r) n)).Of).map ((zeZ (zaN s r) (fldI (zaN s r) n)).Name :: ·)
def zfa (s : List Mes) (root : Int) (way : zm) : List UInt8 × Bool := match zgr s way root with
 | some l => (zgA l, decide (1 ≤ l.length ∧ l.length ≤ 65))
 | none => ([], false)
theorem zqO {s : List Mes} (hr : ziA s) : ∀ (w : zm) (k : Nat) (l : List (List UInt8)), k < s.length → zgr s w k = some l → l.length = w.length ∧ ∀ x ∈ l, zbB x = true
 | [], _, l, _, h => by cases h; simp
 | [n], k, l, hk, h => by
  rw [zgr, zjz hk] at h
  rcases zmj s[k] n with ⟨hn, _⟩ | ⟨i, hi, hn, _⟩
  ·rw [hn, if_pos (show (-1 : Int) < 0 by decide)] at h; cases h
  ·rw [hn, if_neg (show ¬ ((i : Int) < 0) by omega), zjs hi] at h
   cases h
   exact ⟨rfl, fun x hx => by simp at hx; subst hx; exact (hr.fld _ (List.getElem_mem hk) _ (List.getElem_mem hi)).name⟩
 | n :: y :: w, k, l, hk, h => by
  rw [zgr, zjz hk] at h
  rcases zmj s[k] n with ⟨hn, _⟩ | ⟨i, hi, hn, _⟩
  ·rw [hn, if_pos (show (-1 : Int) < 0 by decide)] at h; cases h
  ·have hfo := hr.fld _ (List.getElem_mem hk) _ (List.getElem_mem hi)
   rw [hn, if_neg (show ¬ ((i : Int) < 0) by omega), zjs hi] at h
   split at h
   ·cases h
   ·rename_i h17
    have hk17 : (s[k].Fields[i]).Kind = 17 := by
     by_cases h : (s[k].Fields[i]).Kind = 17
     ·exact h
     ·exact absurd (.inr h) h17
    have hof := hfo.sub hk17
    obtain ⟨q, hq⟩ : ∃ q : Nat, (s[k].Fields[i]).Of = q := ⟨(s[k].Fields[i]).Of.toNat, by omega⟩
    rw [hq, Option.map_eq_some_iff] at h
    obtain ⟨l', h1, rfl⟩ := h
    obtain ⟨g1, g2⟩ := zqO hr (y :: w) q l' (by omega) h1
    refine ⟨by simp [g1], fun x hx => ?_⟩
    rcases List.mem_cons.1 hx with rfl | hx
    ·exact hfo.name
    ·exact g2 x hx
theorem zuc : ∀ (l : List (List UInt8)), (∀ x ∈ l, x.length ≤ 60) → (zgA l).length ≤ 61 * l.length
 | [], _ => by simp [zgA]
 | [x], h => by have := h x List.mem_cons_self; simp [zgA]; omega
 | x :: y :: l, h => by
  have h1 := h x List.mem_cons_self
  have h2 := zuc (y :: l) fun z hz => h z (List.mem_cons_of_mem _ hz)
  rw [zgA]
  simp only [List.length_append, List.length_cons] at h2 ⊢
  omega
theorem zsJ {x : List UInt8} (h : zbB x = true) : 1 ≤ x.length ∧ x.length ≤ 60 := by
 unfold zbB at h
 simp only [Bool.and_eq_true, decide_eq_true_eq] at h
 exact h.2
theorem zzx {s : List Mes} (hr : ziA s) {way : zm} (hwl : way.length ≤ 1048576) : ∀ (t : zm) (i k : Nat) (names : List (List UInt8)), way.drop i = t → (t ≠ [] → k < s.length) → names.length ≤ i → ∀ r : Int, (t ≠ [] → r = k) →
  zdw s way r names i = some (match zgr s t k with | some l => .inl (names ++ l) | none => .inr ()) := by
 intro t
 induction t with
 | nil =>
  intro i k names hd hk ho r hrk
  have := zaU hd
  refine (zga (oo_ := .inl names) ?_).trans ?_
  ·unfold zaT
   rw [itF (by simp; omega)]
  ·simp [zgr]
 | cons n t ih =>
  intro i k names hd hk ho r hrk
  have hkl := hk (by simp)
  have hrk := hrk (by simp)
  subst hrk
  obtain ⟨hil, hv, hd'⟩ := zav hd
  have hm : s[k] ∈ s := List.getElem_mem hkl
  have hfew := hr.few _ hm
  have e1 : idx s (k : Int) = some s[k] := zE rfl hkl
  have e2 : idx way (i : Int) = some n := by rw [zE rfl hil, hv]
  have hlast : decide ((i : Int) < IntKind.i64.wrap ((way.length : Int) - 1)) = !t.isEmpty := by
   rw [zy (by omega)]
   cases t with
   | nil => have := zaU hd'; simp; omega
   | cons y t => obtain ⟨h, _⟩ := zav hd'; simp; omega
  rcases zmj s[k] n with ⟨hn, _⟩ | ⟨j, hj, hn, _⟩
  ·have hns : zgr s (n :: t) k = none := by
    cases t <;> rw [zgr, zjz hkl, hn, if_pos (show (-1 : Int) < 0 by decide)]
   rw [hns]
   refine zga ?_
   unfold zaT
   rw [itT (by simp; omega), e1, sb, e2, sb, zry (by omega), sb, hn, itT (by rfl)]
  ·have hfo := hr.fld _ hm _ (List.getElem_mem hj)
   have hb : zaT s way k names i = if t.isEmpty = false ∧ ((s[k].Fields[j]).Repeated = true ∨ (s[k].Fields[j]).Kind ≠ 17) then some (.inr (.inr ())) else some (.inl ((s[k].Fields[j]).Of, names ++ [(s[k].Fields[j]).Name], ((i + 1 : Nat) : Int))) := by
    unfold zaT
    rw [itT (by simp; omega), e1, sb, e2, sb, zry (by omega), sb, hn, itF (by simp), sb, zE rfl hj, sb, zeG (by simp; omega), sb, hlast]
    by_cases hc : t.isEmpty = false ∧ ((s[k].Fields[j]).Repeated = true ∨ (s[k].Fields[j]).Kind ≠ 17)
    ·rw [if_pos hc, itT (by simpa using hc)]
    ·rw [if_neg hc, itF (by rw [← Bool.not_eq_true]; simpa using hc), zy (by omega)]
     push_cast; rfl
   cases t with
   | nil =>
    rw [if_neg (by simp)] at hb
    rw [zhL hb, ih (i + 1) 0 _ hd' (fun h => absurd rfl h) (by simp; omega) _ (fun h => absurd rfl h), zgr, zgr, zjz hkl, hn, if_neg (show ¬ ((j : Int) < 0) by omega), zjs hj]
    simp
   | cons y t =>
    rw [zgr, zjz hkl, hn, if_neg (show ¬ ((j : Int) < 0) by omega), zjs hj]
    by_cases h17 : (s[k].Fields[j]).Repeated = true ∨ (s[k].Fields[j]).Kind ≠ 17
    ·rw [if_pos ⟨rfl, h17⟩] at hb
     rw [zga hb, if_pos h17]
    ·rw [if_neg (fun h => h17 h.2)] at hb
     rw [if_neg h17]
     have hk17 : (s[k].Fields[j]).Kind = 17 := by
      by_cases h : (s[k].Fields[j]).Kind = 17
      ·exact h
      ·exact absurd (.inr h) h17
     have hof := hfo.sub hk17
     obtain ⟨q, hq⟩ : ∃ q : Nat, (s[k].Fields[j]).Of = q := ⟨(s[k].Fields[j]).Of.toNat, by omega⟩
     rw [zhL hb, ih (i + 1) q _ hd' (fun _ => by omega) (by simp; omega) _ (fun _ => hq), hq]
     cases zgr s (y :: t) q <;> simp
theorem zvk {s : List Mes} (hr : ziA s) {k : Nat} (hk : k < s.length) {way : zm} (hwl : way.length ≤ 1048576) : zfR s k way = some (zfa s k way) := by
 have h := zzx hr hwl way 0 k [] rfl (fun _ => hk) (Nat.le_refl _) k (fun _ => rfl)
 have h' : zdw s way k [] 0 = _ := h
 unfold zfR zfa
 rw [h', sb]
 cases hn : zgr s way k with
 | none => rfl
 | some l =>
  obtain ⟨g1, g2⟩ := zqO hr way k l hk hn
  have hj := zuc l fun x hx => (zsJ (g2 x hx)).2
  simp only [List.nil_append]
  rw [zvh (by omega) (by omega), sb]
  by_cases h1 : 1 ≤ l.length
  ·rw [itT (by simp; omega), sb]
   simp only [h1, true_and]
   congr 2
   exact decide_eq_decide.2 (by omega)
  ·rw [itF (by simp; omega), sb]
   simp [h1]
theorem zlJ {l : List zm} (hl : l.length ≤ 140737488351232) : ∃ b, zcz l = some b := by
 have key : ∀ (d i : Nat) (n : Int), i + d = l.length → ∃ r, zds l n i = some r := by
  intro d
  induction d with
  | zero =>
   intro i n hi
   refine ⟨n, zlg ?_⟩
   unfold zby
   rw [itF (by simp; omega)]
  | succ d ih =>
   intro i n hi
   have hil : i < l.length := by omega
   obtain ⟨r, hr⟩ := ih (i + 1) (IntKind.i64.wrap ((IntKind.i64.wrap (n + 1)) + ((l[i]).length : Int))) (by omega)
   refine ⟨r, (zlf (i' := ((i + 1 : Nat) : Int)) ?_).trans hr⟩
   unfold zby
   rw [itT (by simp; omega), zE rfl hil, sb, zy (x := (i : Int) + 1) (by omega)]
   push_cast; rfl
 obtain ⟨r, hr⟩ := key l.length 0 0 (by omega)
 have hr' : zds l 0 0 = some r := hr
 exact ⟨_, by unfold zcz; rw [hr', sb]⟩
end Go.Proofs.YtglkepeofhonlaaGreatDoor
namespace Go.Proofs.YtglkepeofhonlaaGreatDoor
open Go
set_option linter.unusedVariables false
theorem ziq (a b : List zm) (way : zm) : hasB (a ++ b) way = (hasB a way || hasB b way) := by unfold hasB; rw [List.any_append]
theorem zrG {a b : Bool} (h : a = true ↔ b = true) : a = b := by
 cases a <;> cases b <;> simp at h ⊢
def znH (x y : List zm) : List zm := x.filter (hasB y) ++ y.filter (hasB x)
def zoL (x y : List zm) : List zm := ofW (znH x y)
theorem zoc (x y : List zm) (way : zm) : hasB (znH x y) way = (hasB x way && hasB y way) := by
 refine zrG ?_
 rw [Bool.and_eq_true, zbQ, zbQ, zbQ]
 constructor
 ·rintro ⟨v, hm, hne, hp⟩
  rcases List.mem_append.1 hm with h | h
  ·obtain ⟨h1, h2⟩ := List.mem_filter.1 h
   obtain ⟨u, hu, hun, hup⟩ := zbQ.1 h2
   exact ⟨⟨v, h1, hne, hp⟩, ⟨u, hu, hun, hup.trans hp⟩⟩
  ·obtain ⟨h1, h2⟩ := List.mem_filter.1 h
   obtain ⟨u, hu, hun, hup⟩ := zbQ.1 h2
   exact ⟨⟨u, hu, hun, hup.trans hp⟩, ⟨v, h1, hne, hp⟩⟩
 ·rintro ⟨⟨v, hv, hvn, hvp⟩, ⟨u, hu, hun, hup⟩⟩
  rcases Nat.le_total v.length u.length with hl | hl
  ·have hvu : v <+: u := List.prefix_of_prefix_length_le hvp hup hl
   exact ⟨u, List.mem_append.2 (.inr (List.mem_filter.2 ⟨hu, zbQ.2 ⟨v, hv, hvn, hvu⟩⟩)), hun, hup⟩
  ·have huv : u <+: v := List.prefix_of_prefix_length_le hup hvp hl
   exact ⟨v, List.mem_append.2 (.inl (List.mem_filter.2 ⟨hv, zbQ.2 ⟨u, hu, hun, huv⟩⟩)), hvn, hvp⟩
theorem zxu (x y : List zm) (way : zm) : hasB (zoL x y) way = (hasB x way && hasB y way) := by unfold zoL; rw [zjh, zoc]
theorem zto (a : List zm) : ofW (a ++ a) = ofW a := zkt fun way => by rw [ziq]; cases hasB a way <;> rfl
theorem zuj (a : List zm) : zoL a a = ofW a := zkt fun way => by rw [zoc]; cases hasB a way <;> rfl
theorem zuZ (a b : List zm) : zoL (ofW a) (ofW b) = zoL a b := by
 unfold zoL
 exact zkt fun way => by rw [zoc, zoc, zjh, zjh]
theorem zod {a : List zm} {w : zm} (h : w ∈ a) (hn : w ≠ []) : hasB a w = true := zbQ.2 ⟨w, h, hn, List.prefix_refl _⟩
theorem zvX {a : List zm} {w v : zm} (h : hasB a w = true) : hasB a (w ++ v) = true := by
 obtain ⟨u, hu, hn, hp⟩ := zbQ.1 h
 exact zbQ.2 ⟨u, hu, hn, hp.trans (List.prefix_append _ _)⟩
theorem znh {a : List zm} (h : WW a) : WW (ofW a) := ⟨Nat.le_trans (zjj _) h.1, fun w hm => h.2 w (zgG.1 hm).1⟩
def zsV (s : List Mes) (root : Int) (ways : List zm) : List (List UInt8) × Int :=
 if zbX s root ≠ 0 then ([], zbX s root) else if ofW ways = ways ∧ (ways.all fun w => (zfa s root w).2) = true then (ways.map fun w => (zfa s root w).1, 0) else ([], 10)
theorem zri (s : List Mes) (root : Int) : zbX s root = 0 ∨ zbX s root = 2 ∨ zbX s root = 9 := by
 unfold zbX
 split
 ·simp
 ·split <;> simp
theorem zpx (s : List Mes) (root : Int) : ∀ (l : List (List UInt8)) (c : Int), zgY s root l = .inr c → 0 ≤ c ∧ c ≤ 10 ∧ c ≠ 0
 | [], _, h => by cases h
 | p :: l, c, h => by
  rw [zgY] at h
  have hc := zjl s root p
  split at h
  ·rename_i h0; cases h; exact ⟨hc.1, hc.2.1, h0⟩
  ·split at h
   ·cases h
   ·rename_i c' h'; cases h; exact zpx s root l c h'
theorem zsB (s : List Mes) (root : Int) (paths : List (List UInt8)) : 0 ≤ (zeO s root paths).2 ∧ (zeO s root paths).2 ≤ 13 ∧ WW (zeO s root paths).1 ∧ (∀ w ∈ (zeO s root paths).1, w.length ≤ 65) ∧ (zeO s root paths).1.length ≤ 200 := by
 unfold zeO
 have hWn : WW [] := ⟨by simp, fun w h => by cases h⟩
 by_cases h : zbX s root ≠ 0
 ·rw [if_pos h]
  rcases zri s root with h1 | h1 | h1 <;> rw [h1] <;> exact ⟨by simp, by simp, hWn, by simp, by simp⟩
 ·rw [if_neg h]
  by_cases hl : 200 < paths.length
  ·rw [if_pos hl]; exact ⟨by simp, by simp, hWn, by simp, by simp⟩
  ·rw [if_neg hl]
   cases hw : zgY s root paths with
   | inl ws =>
    obtain ⟨g1, g2⟩ := zlW s root paths ws hw
    have hle := zjj ws
    have h65 : ∀ w ∈ ofW ws, w.length ≤ 65 := fun w hm => g2 w (zgG.1 hm).1
    exact ⟨by simp, by simp, ⟨by simp only; omega, fun w hm => by have := h65 w hm; omega⟩, h65, by simp only; omega⟩
   | inr c =>
    have hc := zpx s root paths c hw
    exact ⟨hc.1, by simp only; omega, hWn, by simp, by simp⟩
theorem zro : ∀ (p : List UInt8), zgA (zcT p) = p
 | [] => rfl
 | c :: l => by
  have ih := zro l
  rw [zcT]
  by_cases hc : c = 46
  ·rw [if_pos hc]
   cases h : zcT l with
   | nil => exact absurd h (zqv l)
   | cons y ys => rw [h] at ih; rw [zgA, ih, hc]; rfl
  ·rw [if_neg hc]
   cases h : zcT l with
   | nil => exact absurd h (zqv l)
   | cons x xs =>
    rw [h] at ih
    cases xs with
    | nil => simp only [zgA] at ih ⊢; rw [ih]
    | cons y ys => simp only [zgA] at ih ⊢; rw [List.cons_append, ih]
theorem ztU {s : List Mes} (hs : ziA s) {m : Mes} (hm : m ∈ s) {i : Nat} (hi : i < m.Fields.length) : fldI m (m.Fields[i]).Number = (i : Int) := by
 rcases zmj m (m.Fields[i]).Number with ⟨_, h⟩ | ⟨j, hj, e, hn, hmin⟩
 ·exact absurd rfl (h _ (List.getElem_mem hi))
 ·rw [e]
  rcases Nat.lt_trichotomy i j with h | h | h
  ·exact absurd rfl (hmin i hi h)
  ·rw [h]
  ·exact absurd hn (hs.nums m hm j i _ _ h (List.getElem?_eq_getElem hj) (List.getElem?_eq_getElem hi)).1
theorem zuz {s : List Mes} (hs : ziA s) : ∀ (l : List (List UInt8)) (k : Nat) (w : zm), k < s.length → wayS s l k = some w → zgr s w k = some l
 | [], _, _, _, h => by cases h
 | [nm], k, w, hk, h => by
  have hm : zaN s k = s[k] := by simp [zaN, List.getD_eq_getElem?_getD, hk]
  rw [wayS] at h
  split at h
  ·cases h
  ·rename_i h0
   rcases zpg (zaN s k) nm with ⟨e, _⟩ | ⟨i, hi, e, hn, _⟩
   ·rw [e] at h0; simp at h0
   ·rw [e] at h
    have hf : zeZ (zaN s k) (i : Int) = (zaN s k).Fields[i] := by simp [zeZ, List.getD_eq_getElem?_getD, hi]
    rw [hf] at h
    cases h
    have hq := ztU hs (m := zaN s k) (by rw [hm]; exact List.getElem_mem hk) hi
    rw [zgr, hq, if_neg (by omega), hf, hn]
 | nm :: y :: l, k, w, hk, h => by
  have hm : zaN s k = s[k] := by simp [zaN, List.getD_eq_getElem?_getD, hk]
  have hmem : zaN s k ∈ s := by rw [hm]; exact List.getElem_mem hk
  rw [wayS] at h
  split at h
  ·cases h
  ·rename_i h0
   split at h
   ·cases h
   ·rename_i h1
    rw [Option.map_eq_some_iff] at h
    obtain ⟨w', h2, rfl⟩ := h
    rcases zpg (zaN s k) nm with ⟨e, _⟩ | ⟨i, hi, e, hn, _⟩
    ·rw [e] at h0; simp at h0
    ·have hf : zeZ (zaN s k) (i : Int) = (zaN s k).Fields[i] := by simp [zeZ, List.getD_eq_getElem?_getD, hi]
     rw [e, hf] at h1 h2 ⊢
     have hk17 : ((zaN s k).Fields[i]).Kind = 17 := by
      rcases Decidable.em (((zaN s k).Fields[i]).Kind = 17) with h | h
      ·exact h
      ·exact absurd (.inr h) h1
     have hof := (hs.fld _ hmem _ (List.getElem_mem hi)).sub hk17
     obtain ⟨q, hq⟩ : ∃ q : Nat, ((zaN s k).Fields[i]).Of = q := ⟨((zaN s k).Fields[i]).Of.toNat, by omega⟩
     rw [hq] at h2
     have ih := zuz hs (y :: l) q w' (by omega) h2
     have hwl := znW s _ _ _ h2
     cases w' with
     | nil => simp at hwl
     | cons a w'' =>
      have hfi := ztU hs hmem hi
      rw [zgr, hfi, if_neg (by omega), hf, if_neg h1, hq, ih, hn]
      rfl
theorem zqn {s : List Mes} {root : Int} {p : List UInt8} (h : (zbo s root p).2 = 0) : zbX s root = 0 ∧ zfa s root (zbo s root p).1 = (p, true) ∧ (zbo s root p).1 ≠ [] := by
 unfold zbo at h ⊢
 by_cases h0 : zbX s root = 0
 ·have h0' : ¬ zbX s root ≠ 0 := fun hh => hh h0
  rw [if_neg h0'] at h ⊢
  obtain ⟨hr, g1, g2⟩ := zif h0
  obtain ⟨k, rfl⟩ : ∃ k : Nat, root = k := ⟨root.toNat, by omega⟩
  cases hs : (zgj p).2 with
  | false => rw [hs, if_pos rfl] at h; simp at h
  | true =>
   obtain ⟨e1, e2, e3, e4⟩ := zmD hs
   rw [if_neg (by rw [hs]; simp)] at h
   rw [if_neg (show ¬ (true = false) by simp)]
   rw [e1] at h ⊢
   cases hw : wayS s (zcT p) k with
   | none => simp only [hw] at h; simp at h
   | some w =>
    refine ⟨h0, ?_, ?_⟩
    ·simp only
     unfold zfa
     rw [zuz hr _ k w (by omega) hw]
     simp only
     rw [zro, decide_eq_true ⟨List.length_pos_iff.2 e3, e2⟩]
    ·have := znW s _ _ _ hw
     intro hn
     simp only at hn
     rw [hn] at this
     exact e3 (List.length_eq_zero_iff.1 (by simpa using this.symm))
 ·rw [if_pos h0] at h; exact absurd h h0
theorem zuA (s : List Mes) (root : Int) : ∀ (l : List (List UInt8)) (ws : List zm), zgY s root l = .inl ws → (∀ w ∈ ws, ∃ p ∈ l, zbo s root p = (w, 0)) ∧ ∀ p ∈ l, (zbo s root p).2 = 0 ∧ (zbo s root p).1 ∈ ws
 | [], ws, h => by cases h; simp
 | p :: l, ws, h => by
  rw [zgY] at h
  split at h
  ·cases h
  ·rename_i h0
   have h0' : (zbo s root p).2 = 0 := by simpa using h0
   split at h
   ·rename_i ws' hw
    cases h
    obtain ⟨i1, i2⟩ := zuA s root l ws' hw
    refine ⟨fun w hm => ?_, fun q hq => ?_⟩
    ·cases hm with
     | head => exact ⟨p, List.mem_cons_self, by rw [← h0']⟩
     | tail _ hm => obtain ⟨q, hq, e⟩ := i1 w hm; exact ⟨q, List.mem_cons_of_mem _ hq, e⟩
    ·cases hq with
     | head => exact ⟨h0', List.mem_cons_self⟩
     | tail _ hq => exact ⟨(i2 q hq).1, List.mem_cons_of_mem _ (i2 q hq).2⟩
   ·cases h
theorem ztt (s : List Mes) (root : Int) : ∀ (ws : List zm), (∀ w ∈ ws, zbo s root (zfa s root w).1 = (w, 0)) → zgY s root (ws.map fun w => (zfa s root w).1) = .inl ws
 | [], _ => rfl
 | w :: ws, h => by
  have h1 := h w List.mem_cons_self
  rw [List.map_cons, zgY, h1, if_neg (by simp), ztt s root ws (fun v hv => h v (List.mem_cons_of_mem _ hv))]
theorem zsC {s : List Mes} {root : Int} {paths : List (List UInt8)} (h : (zeO s root paths).2 = 0) : zbX s root = 0 ∧ paths.length ≤ 200 ∧ ∃ ws, zgY s root paths = .inl ws ∧ (zeO s root paths).1 = ofW ws := by
 unfold zeO at h ⊢
 by_cases h0 : zbX s root = 0
 ·have h0' : ¬ zbX s root ≠ 0 := fun hh => hh h0
  rw [if_neg h0'] at h ⊢
  by_cases hl : 200 < paths.length
  ·rw [if_pos hl] at h; simp at h
  ·rw [if_neg hl] at h ⊢
   cases hw : zgY s root paths with
   | inl ws => exact ⟨h0, by omega, ws, rfl, rfl⟩
   | inr c => rw [hw] at h; have := zpx s root paths c hw; simp only at h; omega
 ·rw [if_pos h0] at h; exact absurd h h0
theorem zzn {s : List Mes} {root : Int} {paths : List (List UInt8)} (h : (zeO s root paths).2 ≠ 0) : (zeO s root paths).1 = [] := by
 unfold zeO at h ⊢
 split
 ·rfl
 ·rename_i h0
  rw [if_neg h0] at h
  split
  ·rfl
  ·rename_i hl
   rw [if_neg hl] at h
   cases hw : zgY s root paths with
   | inl ws => rw [hw] at h; simp at h
   | inr c => rfl
theorem zzo {s : List Mes} {root : Int} {paths : List (List UInt8)} (h : (zeO s root paths).2 = 0) :
  zsV s root (zeO s root paths).1 = ((zeO s root paths).1.map fun w => (zfa s root w).1, 0) ∧ zeO s root ((zeO s root paths).1.map fun w => (zfa s root w).1) = ((zeO s root paths).1, 0) ∧
  (zeO s root paths).1.length ≤ paths.length ∧ (∀ w ∈ (zeO s root paths).1, (zfa s root w).1 ∈ paths) ∧ ∀ p ∈ paths, (zbo s root p).2 = 0 ∧ hasB (zeO s root paths).1 (zbo s root p).1 = true := by
 obtain ⟨h0, hl, ws, hw, e⟩ := zsC h
 obtain ⟨m1, m2⟩ := zuA s root paths ws hw
 obtain ⟨g1, _⟩ := zlW s root paths ws hw
 rw [e]
 have h0' : ¬ zbX s root ≠ 0 := fun hh => hh h0
 have key : ∀ w ∈ ofW ws, ∃ p ∈ paths, zbo s root p = (w, 0) ∧ zfa s root w = (p, true) := fun w hm => by
  obtain ⟨p, hp, er⟩ := m1 w (zgG.1 hm).1
  have := zqn (s := s) (root := root) (p := p) (by rw [er])
  rw [er] at this
  exact ⟨p, hp, er, this.2.1⟩
 have hlen := zjj ws
 refine ⟨?_, ?_, by omega, fun w hm => ?_, fun p hp => ?_⟩
 ·unfold zsV
  rw [if_neg h0', if_pos ⟨zmu ws, List.all_eq_true.2 fun w hm => by obtain ⟨p, _, _, e2⟩ := key w hm; rw [e2]⟩]
 ·unfold zeO
  rw [if_neg h0', if_neg (by rw [List.length_map]; omega), ztt s root (ofW ws) (fun w hm => by obtain ⟨p, _, e1, e2⟩ := key w hm; rw [e2]; exact e1)]
  simp only
  rw [zmu]
 ·obtain ⟨p, hp, _, e2⟩ := key w hm
  rw [e2]; exact hp
 ·obtain ⟨c1, c2⟩ := m2 p hp
  have hne := (zqn c1).2.2
  exact ⟨c1, by rw [zjh]; exact zod c2 hne⟩
end Go.Proofs.YtglkepeofhonlaaGreatDoor
namespace Go.Proofs.YtglkepeofhonlaaGreatDoor
open Go
set_option linter.unusedVariables false
theorem zhX : ∀ {a b : zm}, zbG a b = true ↔ lexI a b < 0
 | [], [] => by simp [zbG, lexI]
 | [], _ :: _ => by simp [zbG, lexI]
 | _ :: _, [] => by simp [zbG, lexI]
 | x :: a, y :: b => by
  rw [zbG, lexI]
  by_cases h : x = y
  ·subst h
   rw [if_pos rfl, if_neg (Int.lt_irrefl x), if_neg (Int.lt_irrefl x)]
   exact zhX
  ·rw [if_neg h]
   by_cases h1 : x < y
   ·simp [h1]
   ·simp [h1, show y < x by omega]
theorem zwr : ∀ (v t : zm), lexI v (v ++ t) ≤ 0
 | [], [] => Int.le_refl _
 | [], _ :: _ => by rw [List.nil_append, lexI]; decide
 | x :: v, t => by rw [List.cons_append, lexI, if_neg (Int.lt_irrefl x), if_neg (Int.lt_irrefl x)]; exact zwr v t
theorem zwt {v w : zm} (h : v <+: w) : lexI v w ≤ 0 := by
 obtain ⟨t, rfl⟩ := h
 exact zwr v t
theorem zws : ∀ (v t u : zm), lexI v u ≤ 0 → lexI u (v ++ t) ≤ 0 → v <+: u
 | [], t, u, _, _ => List.nil_prefix
 | x :: v, t, [], h, _ => by rw [lexI] at h; exact absurd h (by decide)
 | x :: v, t, y :: u, h, k => by
  rw [lexI] at h
  rw [List.cons_append, lexI] at k
  by_cases h1 : x < y
  ·rw [if_neg (show ¬ y < x by omega), if_pos h1] at k
   exact absurd k (by decide)
  ·by_cases h2 : y < x
   ·rw [if_neg h1, if_pos h2] at h
    exact absurd h (by decide)
   ·rw [if_neg h1, if_neg h2] at h
    rw [if_neg h2, if_neg h1] at k
    obtain rfl : x = y := by omega
    exact List.cons_prefix_cons.2 ⟨rfl, zws v t u h k⟩
theorem zBX {v w u : zm} (hp : v <+: w) (h : lexI v u ≤ 0) (k : lexI u w ≤ 0) : v <+: u := by
 obtain ⟨t, rfl⟩ := hp
 exact zws v t u h k
structure zjQ (l : List zm) : Prop where
 sorted : l.Pairwise (fun a b => zbG a b = true)
 full : ∀ w ∈ l, w ≠ []
 anti : ∀ v ∈ l, ∀ w ∈ l, v <+: w → v = w
theorem zjQ.of {l : List zm} (h : zjQ l) : ofW l = l :=
 znV _ _ (zmv l) h.sorted fun w => by
  rw [zgG]
  exact ⟨fun k => k.1, fun hw => ⟨hw, h.full w hw, fun v hv _ hp => h.anti v hv w hw hp⟩⟩
theorem zlK (ways : List zm) : zjQ (ofW ways) :=
 ⟨zmv ways, fun w hw => (zgG.1 hw).2.1, fun v hv w hw hp => (zgG.1 hw).2.2 v (zgG.1 hv).1 (zgG.1 hv).2.1 hp⟩
theorem zzq {l : List zm} : zjQ l ↔ ofW l = l := ⟨fun h => h.of, fun h => h ▸ zlK l⟩
theorem zui : zjQ [] := ⟨List.Pairwise.nil, fun w hw => (by cases hw), fun v hv => (by cases hv)⟩
theorem zjQ.filter {l : List zm} (h : zjQ l) (p : zm → Bool) : zjQ (l.filter p) :=
 ⟨h.sorted.filter p, fun w hw => h.full w (List.mem_filter.1 hw).1, fun v hv w hw => h.anti v (List.mem_filter.1 hv).1 w (List.mem_filter.1 hw).1⟩
def zuw (last way : zm) : Bool := decide (0 ≤ lexI last way) || (!last.isEmpty && begB way last)
def ziR : zm → List zm → Bool
 | _, [] => true
 | last, w :: l => !zuw last w && ziR w l
theorem zzG {last way : zm} : zuw last way = false ↔ lexI last way < 0 ∧ ¬ (last ≠ [] ∧ last <+: way) := by
 unfold zuw
 rw [Bool.or_eq_false_iff, decide_eq_false_iff_not, ← Bool.not_eq_true, Bool.and_eq_true, ziC, Bool.not_eq_true', List.isEmpty_eq_false_iff]
 constructor
 ·rintro ⟨h, k⟩; exact ⟨by omega, k⟩
 ·rintro ⟨h, k⟩; exact ⟨by omega, k⟩
theorem zlZ {last w : zm} {l : List zm} : ziR last (w :: l) = true ↔ lexI last w < 0 ∧ ¬ (last ≠ [] ∧ last <+: w) ∧ ziR w l = true := by
 rw [ziR, Bool.and_eq_true, Bool.not_eq_true', zzG, and_assoc]
theorem zma : ∀ {l : List zm} {last : zm}, ziR last l = true → ∀ w ∈ l, lexI last w < 0
 | [], _, _, w, hw => by cases hw
 | u :: l, last, h, w, hw => by
  obtain ⟨h1, _, h3⟩ := zlZ.1 h
  rcases List.mem_cons.1 hw with rfl | hw
  ·exact h1
  ·exact zhX.1 (zkV last u w (zhX.2 h1) (zhX.2 (zma h3 w hw)))
theorem zxo : ∀ {l : List zm} {last : zm}, ziR last l = true → last ≠ [] → ∀ w ∈ l, ¬ last <+: w
 | [], _, _, _, w, hw => by cases hw
 | u :: l, last, h, hn, w, hw => by
  obtain ⟨h1, h2, h3⟩ := zlZ.1 h
  rcases List.mem_cons.1 hw with rfl | hw
  ·exact fun hp => h2 ⟨hn, hp⟩
  ·exact fun hp => h2 ⟨hn, zBX hp (by omega) (by have := zma h3 w hw; omega)⟩
theorem zrj : ∀ {l : List zm} {last : zm}, ziR last l = true → zjQ l
 | [], _, _ => zui
 | u :: l, last, h => by
  obtain ⟨h1, h2, h3⟩ := zlZ.1 h
  have ih := zrj h3
  have hu : u ≠ [] := fun e => by
   subst e
   cases last with
   | nil => rw [lexI] at h1; exact absurd h1 (by decide)
   | cons => rw [lexI] at h1; exact absurd h1 (by decide)
  refine ⟨List.pairwise_cons.2 ⟨fun w hw => zhX.2 (zma h3 w hw), ih.sorted⟩, fun w hw => ?_, fun v hv w hw hp => ?_⟩
  ·rcases List.mem_cons.1 hw with rfl | hw
   ·exact hu
   ·exact ih.full w hw
  ·rcases List.mem_cons.1 hv with rfl | hv1
   ·rcases List.mem_cons.1 hw with rfl | hw1
    ·rfl
    ·exact absurd hp (zxo h3 hu w hw1)
   ·rcases List.mem_cons.1 hw with rfl | hw1
    ·have := zma h3 v hv1
     have := zwt hp
     have := zhm v w
     omega
    ·exact ih.anti v hv1 w hw1 hp
theorem zvG : ∀ {l : List zm} {last : zm}, zjQ l → (∀ w ∈ l, lexI last w < 0 ∧ ¬ (last ≠ [] ∧ last <+: w)) → ziR last l = true
 | [], _, _, _ => rfl
 | u :: l, last, h, k => by
  obtain ⟨h1, h2⟩ := List.pairwise_cons.1 h.sorted
  refine zlZ.2 ⟨(k u List.mem_cons_self).1, (k u List.mem_cons_self).2, zvG ⟨h2, fun w hw => h.full w (List.mem_cons_of_mem _ hw), fun v hv w hw => h.anti v (List.mem_cons_of_mem _ hv) w (List.mem_cons_of_mem _ hw)⟩ fun w hw => ⟨zhX.1 (h1 w hw), fun ⟨_, hp⟩ => ?_⟩⟩
  have e := h.anti u List.mem_cons_self w (List.mem_cons_of_mem _ hw) hp
  have := h1 w hw
  rw [← e, zhl] at this
  cases this
theorem ztL {l : List zm} : ziR [] l = true ↔ ofW l = l := by
 rw [← zzq]
 refine ⟨zrj, fun h => zvG h fun w hw => ⟨?_, fun k => k.1 rfl⟩⟩
 cases w with
 | nil => exact absurd rfl (h.full [] hw)
 | cons => rw [lexI]; decide
def addL (acc : List zm) (x : zm) : List zm := if (!x.isEmpty && !hasB acc x) = true then acc ++ [x] else acc
structure Fo (pre acc : List zm) : Prop where
 mask : zjQ acc
 has : ∀ v, hasB acc v = hasB pre v
 mem : ∀ a ∈ acc, a ∈ pre
theorem zyr {pre acc : List zm} {x : zm} (h : Fo pre acc) (hx : ∀ a ∈ pre, lexI a x ≤ 0) (hn : hasB acc x = false) : ∀ a ∈ acc, ¬ x <+: a := fun a ha hp => by
 have e := zue (hx a (h.mem a ha)) (zwt hp)
 subst e
 rw [zod ha (h.mask.full a ha)] at hn
 cases hn
theorem zBH {pre acc : List zm} {x : zm} (h : Fo pre acc) (hx : ∀ a ∈ pre, lexI a x ≤ 0) : Fo (pre ++ [x]) (addL acc x) := by
 unfold addL
 have one : ∀ v, hasB [x] v = (!x.isEmpty && begB v x) := fun v => by simp [hasB]
 by_cases hc : (!x.isEmpty && !hasB acc x) = true
 ·rw [if_pos hc]
  simp only [Bool.and_eq_true, Bool.not_eq_true', List.isEmpty_eq_false_iff] at hc
  obtain ⟨h1, h2⟩ := hc
  have hf := zyr h hx h2
  have hb : ∀ a ∈ acc, ¬ a <+: x := fun a ha hp => by
   rw [zbQ.2 ⟨a, ha, h.mask.full a ha, hp⟩] at h2; cases h2
  refine ⟨⟨List.pairwise_append.2 ⟨h.mask.sorted, List.pairwise_singleton _ _, fun a ha b hb' => ?_⟩, fun w hw => ?_, fun v hv w hw hp => ?_⟩, fun v => by rw [ziq, ziq, h.has v], fun a ha => ?_⟩
  ·simp only [List.mem_singleton] at hb'
   subst hb'
   have h3 := hx a (h.mem a ha)
   rcases Int.lt_or_eq_of_le h3 with h4 | h4
   ·exact zhX.2 h4
   ·exact absurd (zoi h4 ▸ List.prefix_refl _) (hb a ha)
  ·rcases List.mem_append.1 hw with hw | hw
   ·exact h.mask.full w hw
   ·simp only [List.mem_singleton] at hw; rw [hw]; exact h1
  ·rcases List.mem_append.1 hv with hv1 | hv1 <;> rcases List.mem_append.1 hw with hw1 | hw1
   ·exact h.mask.anti v hv1 w hw1 hp
   ·simp only [List.mem_singleton] at hw1; subst hw1; exact absurd hp (hb v hv1)
   ·simp only [List.mem_singleton] at hv1; subst hv1; exact absurd hp (hf w hw1)
   ·simp only [List.mem_singleton] at hv1 hw1; rw [hv1, hw1]
  ·rcases List.mem_append.1 ha with ha | ha
   ·exact List.mem_append_left _ (h.mem a ha)
   ·exact List.mem_append_right _ ha
 ·rw [if_neg hc]
  refine ⟨h.mask, fun v => ?_, fun a ha => List.mem_append_left _ (h.mem a ha)⟩
  rw [ziq, one, ← h.has v]
  cases he : (!x.isEmpty && begB v x) with
  | false => rw [Bool.or_false]
  | true =>
   simp only [Bool.and_eq_true, Bool.not_eq_true', List.isEmpty_eq_false_iff, ziC] at he
   have hh : hasB acc x = true := by
    cases hb : hasB acc x with
    | true => rfl
    | false => exact absurd (by simp [hb, he.1]) hc
   obtain ⟨a, ha, hn, hp⟩ := zbQ.1 hh
   rw [zbQ.2 ⟨a, ha, hn, hp.trans he.2⟩]; rfl
theorem zCv : Fo [] [] := ⟨zui, fun v => rfl, fun a ha => (by cases ha)⟩
theorem zCw {l acc : List zm} (h : Fo l acc) : acc = ofW l := by rw [← h.mask.of]; exact zkt h.has
theorem zAQ {l r : List zm} (h : r.Perm l) : ofW r = ofW l := zkt fun v => by
 refine zrG ?_
 rw [zbQ, zbQ]
 exact ⟨fun ⟨a, ha, k⟩ => ⟨a, h.mem_iff.1 ha, k⟩, fun ⟨a, ha, k⟩ => ⟨a, h.mem_iff.2 ha, k⟩⟩
abbrev zmE := List (zI × Int)
structure Trie (t : zmE) (A : List zm) (P : List (zm × Int)) : Prop where
 root : ([], 0) ∈ P
 same : ∀ p ∈ P, ∀ q ∈ P, (p.2 = q.2 ↔ p.1 = q.1)
 ids : ∀ p ∈ P, 0 ≤ p.2 ∧ p.2 ≤ t.length
 keys : ∀ (i n : Int), (t.length : Int) < i → mget t ⟨i, n⟩ = none
 leaf : ∀ p ∈ P, ∀ n, p.1 ++ [n] ∈ A → mget t ⟨p.2, n⟩ = some (-1)
 node : ∀ p ∈ P, ∀ n, ∀ q ∈ P, q.1 = p.1 ++ [n] → mget t ⟨p.2, n⟩ = some q.2
 none : ∀ p ∈ P, ∀ n, p.1 ++ [n] ∉ A → (∀ q ∈ P, q.1 ≠ p.1 ++ [n]) → mget t ⟨p.2, n⟩ = none
 clo : ∀ q ∈ P, ∀ p n, q.1 = p ++ [n] → ∃ i, (p, i) ∈ P
 comp : ∀ a ∈ A, ∀ p, p <+: a → p ≠ a → ∃ i, (p, i) ∈ P
 anti : ∀ v ∈ A, ∀ w ∈ A, v <+: w → v = w
 full : ∀ a ∈ A, a ≠ []
def zmG (t : zmE) (A : List zm) (P : List (zm × Int)) : Prop := Trie t A P ∧ ∀ p ∈ P, p.1 = [] ∨ ∃ a ∈ A, p.1 <+: a ∧ p.1 ≠ a
theorem zwV : zmG [] [] [([], 0)] := by
 have h1 : ∀ p ∈ [(([] : zm), (0 : Int))], p = ([], 0) := fun p hp => by simpa using hp
 refine ⟨⟨List.mem_cons_self, fun p hp q hq => ?_, fun p hp => ?_, fun i n _ => rfl, fun p hp n h => (by cases h), fun p hp n q hq h => ?_, fun p hp n _ _ => rfl, fun q hq p n h => ?_, fun a ha => (by cases ha), fun v hv => (by cases hv), fun a ha => (by cases ha)⟩, fun p hp => ?_⟩
 ·rw [h1 p hp, h1 q hq]; simp
 ·rw [h1 p hp]; simp
 ·rw [h1 q hq, h1 p hp] at h; simp at h
 ·rw [h1 q hq] at h; simp at h
 ·rw [h1 p hp]; exact .inl rfl
theorem zsX {a b : zm} (h : a <+: b) (hl : b.length ≤ a.length) : a = b := h.eq_of_length (Nat.le_antisymm h.length_le hl)
section
variable {t : zmE} {A : List zm} {P : List (zm × Int)}
theorem zBo (h : zmG t A P) {way : zm} {i : Int} (hw : (way, i) ∈ P) : hasB A way = false := by
 rw [← Bool.not_eq_true, zbQ]
 rintro ⟨v, hv, hn, hp⟩
 rcases h.2 _ hw with h0 | ⟨a, ha, h1, h2⟩
 ·simp only at h0
  subst h0
  exact hn (List.prefix_nil.1 hp)
 ·have e := h.1.anti v hv a ha (hp.trans h1)
  subst e
  exact h2 (zsX h1 hp.length_le)
theorem zzJ {p : zm} {way : zm} (hp : p <+: way) (hn : p ≠ []) (ha : p ∈ A) : hasB A way = true := zbQ.2 ⟨p, ha, hn, hp⟩
theorem zzK (h : zmG t A P) {p way : zm} {i n : Int} (hp : (p, i) ∈ P) (hq : p ++ [n] <+: way) (hA : p ++ [n] ∉ A) (hP : ∀ q ∈ P, q.1 ≠ p ++ [n]) : hasB A way = false := by
 rw [← Bool.not_eq_true, zbQ]
 rintro ⟨v, hv, hn, hv2⟩
 have hpw : p <+: way := (List.prefix_append p [n]).trans hq
 rcases Nat.lt_trichotomy v.length (p ++ [n]).length with hl | hl | hl
 ·have hvp : v <+: p := List.prefix_of_prefix_length_le hv2 hpw (by simp at hl; omega)
  rcases h.2 _ hp with h0 | ⟨a, ha, h1, h2⟩
  ·simp only at h0
   subst h0
   exact hn (List.prefix_nil.1 hvp)
  ·have e := h.1.anti v hv a ha (hvp.trans h1)
   subst e
   exact h2 (zsX h1 hvp.length_le)
 ·have hvq : v <+: p ++ [n] := List.prefix_of_prefix_length_le hv2 hq (by omega)
  rw [zsX hvq (by omega)] at hv
  exact hA hv
 ·have hqv : p ++ [n] <+: v := List.prefix_of_prefix_length_le hq hv2 (by omega)
  obtain ⟨j, hj⟩ := h.1.comp v hv _ hqv (fun e => by rw [e] at hl; omega)
  exact hP _ hj rfl
theorem zwx {t : zmE} {k : zI} (h : mget t k = none) (x : Int) : (mput t k x).length = t.length + 1 := by
 have := congrArg List.length (zqL t k x)
 rw [h] at this
 simpa using this
theorem zAO {t : zmE} {k : zI} {y : Int} (h : mget t k = some y) (x : Int) : (mput t k x).length = t.length := by
 have := congrArg List.length (zqL t k x)
 rw [h] at this
 simpa using this
theorem zrZ {i n j m : Int} (h : ¬ (i = j ∧ n = m)) : ¬ ((⟨i, n⟩ : zI) = ⟨j, m⟩) := fun e => h (by injection e with e1 e2; exact ⟨e1, e2⟩)
theorem zti {a b : zm} {x y : Int} (h : a ++ [x] = b ++ [y]) : a = b ∧ x = y := by
 have := List.append_inj' h rfl
 exact ⟨this.1, by simpa using this.2⟩
theorem zBp (h : Trie t A P) {p : zm} {i n : Int} (hp : (p, i) ∈ P) (hA : p ++ [n] ∉ A) (hP : ∀ q ∈ P, q.1 ≠ p ++ [n]) :
  Trie (mput t ⟨i, n⟩ ((t.length + 1 : Nat) : Int)) A (P ++ [(p ++ [n], ((t.length + 1 : Nat) : Int))]) := by
 have hg := h.none _ hp n hA hP
 have hl := zwx hg ((t.length + 1 : Nat) : Int)
 have hi := h.ids _ hp
 have new : ∀ r, r ∈ P ++ [(p ++ [n], ((t.length + 1 : Nat) : Int))] → r ∈ P ∨ r = (p ++ [n], ((t.length + 1 : Nat) : Int)) := fun r hr => by
  rcases List.mem_append.1 hr with hr | hr
  ·exact .inl hr
  ·exact .inr (by simpa using hr)
 have key : ∀ r ∈ P, ∀ m, r.1 ++ [m] ≠ p ++ [n] → mget (mput t ⟨i, n⟩ ((t.length + 1 : Nat) : Int)) ⟨r.2, m⟩ = mget t ⟨r.2, m⟩ := fun r hr m hne => by
  rw [zgT, if_neg (zrZ fun ⟨e1, e2⟩ => hne (by rw [(h.same r hr _ hp).1 e1, e2]))]
 have fresh : ∀ m, mget (mput t ⟨i, n⟩ ((t.length + 1 : Nat) : Int)) ⟨((t.length + 1 : Nat) : Int), m⟩ = none := fun m => by
  rw [zgT, if_neg (zrZ fun ⟨e1, _⟩ => by simp only at hi; omega)]
  exact h.keys _ _ (by omega)
 refine ⟨List.mem_append_left _ h.root, fun r hr s hs => ?_, fun r hr => ?_, fun j m hj => ?_, fun r hr m hm => ?_, fun r hr m s hs hsr => ?_, fun r hr m hm hns => ?_, fun s hs q m hq => ?_, fun a ha q hq hne => ?_, h.anti, h.full⟩
 ·rcases new r hr with hr | rfl <;> rcases new s hs with hs | rfl
  ·exact h.same r hr s hs
  ·have := h.ids r hr
   exact ⟨fun e => by simp only at e; omega, fun e => absurd e (hP r hr)⟩
  ·have := h.ids s hs
   exact ⟨fun e => by simp only at e; omega, fun e => absurd e.symm (hP s hs)⟩
  ·exact ⟨fun _ => rfl, fun _ => rfl⟩
 ·rw [hl]
  rcases new r hr with hr | rfl
  ·have := h.ids r hr; exact ⟨this.1, by omega⟩
  ·exact ⟨by simp only; omega, Int.le_refl _⟩
 ·rw [hl] at hj
  simp only at hi
  rw [zgT, if_neg (zrZ fun ⟨e1, _⟩ => by omega)]
  exact h.keys _ _ (by omega)
 ·rcases new r hr with hr | rfl
  ·rw [key r hr m (fun e => hA (e ▸ hm))]; exact h.leaf r hr m hm
  ·obtain ⟨j, hj⟩ := h.comp _ hm (p ++ [n]) (List.prefix_append _ _) (fun e => by have := congrArg List.length e; simp at this)
   exact absurd rfl (hP _ hj)
 ·rcases new s hs with hs | rfl
  ·rcases new r hr with hr | rfl
   ·rw [key r hr m (fun e => hP s hs (hsr.trans e))]; exact h.node r hr m s hs hsr
   ·obtain ⟨j, hj⟩ := h.clo s hs _ _ hsr
    exact absurd rfl (hP _ hj)
  ·rcases new r hr with hr | rfl
   ·obtain ⟨e1, e2⟩ := zti hsr
    have e3 : r.2 = i := (h.same r hr _ hp).2 e1.symm
    rw [zgT, if_pos (by rw [e3, e2])]
   ·have := congrArg List.length hsr; simp at this
 ·rcases new r hr with hr | rfl
  ·have hne : r.1 ++ [m] ≠ p ++ [n] := fun e => hns _ (List.mem_append_right _ List.mem_cons_self) e.symm
   rw [key r hr m hne]
   exact h.none r hr m hm fun q hq => hns q (List.mem_append_left _ hq)
  ·exact fresh m
 ·rcases new s hs with hs | rfl
  ·obtain ⟨j, hj⟩ := h.clo s hs q m hq
   exact ⟨j, List.mem_append_left _ hj⟩
  ·obtain ⟨e1, e2⟩ := zti hq
   exact ⟨i, List.mem_append_left _ (e1 ▸ hp)⟩
 ·obtain ⟨j, hj⟩ := h.comp a ha q hq hne
  exact ⟨j, List.mem_append_left _ hj⟩
theorem zxZ (h : Trie t A P) {way : zm} {j : Int} (hw : (way, j) ∈ P) : ∀ p, p <+: way → ∃ i, (p, i) ∈ P := by
 have key : ∀ (d : Nat) (p : zm), p.length + d = way.length → p <+: way → ∃ i, (p, i) ∈ P := by
  intro d
  induction d with
  | zero => intro p hl hp; rw [zsX hp (by omega)]; exact ⟨j, hw⟩
  | succ d ih =>
   intro p hl hp
   have hlt : p.length < way.length := by omega
   have hq : p ++ [way[p.length]] <+: way := by
    have e : p = way.take p.length := List.prefix_iff_eq_take.1 hp
    have : way.take (p.length + 1) = p ++ [way[p.length]] := by rw [List.take_succ_eq_append_getElem hlt, ← e]
    rw [← this]
    exact List.take_prefix _ _
   obtain ⟨i, hi⟩ := ih _ (by simp; omega) hq
   exact h.clo _ hi p _ rfl
 intro p hp
 exact key (way.length - p.length) p (by have := hp.length_le; omega) hp
theorem zzI (h : Trie t A P) {p : zm} {i n j : Int} (hp : (p, i) ∈ P) (hw : (p ++ [n], j) ∈ P) (hf : ∀ a ∈ A, ¬ p ++ [n] <+: a) (hb : ∀ a ∈ A, ¬ a <+: p ++ [n])
  (hx : ∀ r ∈ P, r.1 = [] ∨ (∃ a ∈ A, r.1 <+: a ∧ r.1 ≠ a) ∨ r.1 <+: p ++ [n]) : (mput t ⟨i, n⟩ (-1)).length = t.length ∧ zmG (mput t ⟨i, n⟩ (-1)) (A ++ [p ++ [n]]) (P.filter fun r => decide (r.1 ≠ p ++ [n])) := by
 have hg := h.node _ hp n _ hw rfl
 have hl := zAO hg (-1)
 have hA : p ++ [n] ∉ A := fun ha => hf _ ha (List.prefix_refl _)
 have mem : ∀ r, r ∈ P.filter (fun r => decide (r.1 ≠ p ++ [n])) ↔ r ∈ P ∧ r.1 ≠ p ++ [n] := fun r => by rw [List.mem_filter]; simp
 have key : ∀ r ∈ P, ∀ m, r.1 ++ [m] ≠ p ++ [n] → mget (mput t ⟨i, n⟩ (-1)) ⟨r.2, m⟩ = mget t ⟨r.2, m⟩ := fun r hr m hne => by
  rw [zgT, if_neg (zrZ fun ⟨e1, e2⟩ => hne (by rw [(h.same r hr _ hp).1 e1, e2]))]
 have hself : ∀ r ∈ P, ∀ m, r.1 ++ [m] = p ++ [n] → mget (mput t ⟨i, n⟩ (-1)) ⟨r.2, m⟩ = some (-1) := fun r hr m e => by
  obtain ⟨e1, e2⟩ := zti e
  rw [zgT, if_pos (by rw [(h.same r hr _ hp).2 e1, e2])]
 have inA : ∀ a, a ∈ A ++ [p ++ [n]] → a ∈ A ∨ a = p ++ [n] := fun a ha => by
  rcases List.mem_append.1 ha with ha | ha
  ·exact .inl ha
  ·exact .inr (by simpa using ha)
 refine ⟨hl, ⟨(mem _).2 ⟨h.root, by simp⟩, fun r hr s hs => h.same r ((mem r).1 hr).1 s ((mem s).1 hs).1, fun r hr => ?_, fun k m hk => ?_, fun r hr m hm => ?_, fun r hr m s hs hsr => ?_, fun r hr m hm hns => ?_, fun s hs q m hq => ?_, fun a ha q hq hne => ?_, fun v hv w hw' hvw => ?_, fun a ha => ?_⟩, fun r hr => ?_⟩
 ·rw [hl]; exact h.ids r ((mem r).1 hr).1
 ·rw [hl] at hk
  have := h.ids _ hp
  simp only at this
  rw [zgT, if_neg (zrZ fun ⟨e1, _⟩ => by omega)]
  exact h.keys _ _ hk
 ·obtain ⟨hr, _⟩ := (mem r).1 hr
  by_cases he : r.1 ++ [m] = p ++ [n]
  ·exact hself r hr m he
  ·rw [key r hr m he]
   rcases inA _ hm with hm | hm
   ·exact h.leaf r hr m hm
   ·exact absurd hm he
 ·obtain ⟨hr, _⟩ := (mem r).1 hr
  obtain ⟨hs, hs2⟩ := (mem s).1 hs
  rw [key r hr m (fun e => hs2 (hsr.trans e))]
  exact h.node r hr m s hs hsr
 ·obtain ⟨hr, _⟩ := (mem r).1 hr
  have he : r.1 ++ [m] ≠ p ++ [n] := fun e => hm (by rw [e]; exact List.mem_append_right _ List.mem_cons_self)
  rw [key r hr m he]
  exact h.none r hr m (fun ha => hm (List.mem_append_left _ ha)) fun q hq e => hns q ((mem q).2 ⟨hq, by rw [e]; exact he⟩) e
 ·obtain ⟨hs, hs2⟩ := (mem s).1 hs
  obtain ⟨k, hk⟩ := h.clo s hs q m hq
  refine ⟨k, (mem _).2 ⟨hk, fun e => ?_⟩⟩
  simp only at e
  rcases hx s hs with h0 | ⟨a, ha, h1, _⟩ | h1
  ·rw [h0] at hq; simp at hq
  ·exact hf a ha ((by rw [← e]; exact (hq ▸ List.prefix_append q [m] : q <+: s.1) : p ++ [n] <+: s.1).trans h1)
  ·have := h1.length_le
   rw [hq, e] at this
   simp at this
 ·have hne2 : q ≠ p ++ [n] → ∀ k, (q, k) ∈ P → (q, k) ∈ P.filter (fun r => decide (r.1 ≠ p ++ [n])) := fun hq k hk => (mem _).2 ⟨hk, hq⟩
  rcases inA a ha with ha | rfl
  ·obtain ⟨k, hk⟩ := h.comp a ha q hq hne
   exact ⟨k, hne2 (fun e => hf a ha (e ▸ hq)) k hk⟩
  ·obtain ⟨k, hk⟩ := zxZ h hw q hq
   exact ⟨k, hne2 hne k hk⟩
 ·rcases inA v hv with hv | rfl <;> rcases inA w hw' with hw' | rfl
  ·exact h.anti v hv w hw' hvw
  ·exact absurd hvw (hb v hv)
  ·exact absurd hvw (hf w hw')
  ·rfl
 ·rcases inA a ha with ha | rfl
  ·exact h.full a ha
  ·simp
 ·obtain ⟨hr, hr2⟩ := (mem r).1 hr
  rcases hx r hr with h0 | ⟨a, ha, h1, h2⟩ | h1
  ·exact .inl h0
  ·exact .inr ⟨a, List.mem_append_left _ ha, h1, h2⟩
  ·exact .inr ⟨_, List.mem_append_right _ List.mem_cons_self, h1, hr2⟩
end
end Go.Proofs.YtglkepeofhonlaaGreatDoor
namespace Go.Proofs.YtglkepeofhonlaaGreatDoor
open Go
set_option linter.unusedVariables false
def zCG : List Str := [[], [105, 110, 116, 51, 50], [105, 110, 116, 54, 52], [117, 105, 110, 116, 51, 50], [117, 105, 110, 116, 54, 52], [115, 105, 110, 116, 51, 50], [115, 105, 110, 116, 54, 52], [98, 111, 111, 108], [101, 110, 117, 109], [102, 105, 120, 101, 100, 51, 50], [115, 102, 105, 120, 101, 100, 51, 50], [102, 108, 111, 97, 116], [102, 105, 120, 101, 100, 54, 52], [115, 102, 105, 120, 101, 100, 54, 52], [100, 111, 117, 98, 108, 101], [115, 116, 114, 105, 110, 103], [98, 121, 116, 101, 115], [109, 101, 115, 115, 97, 103, 101]]
def zAu (k : Int) : Str := (zCG[k.toNat]?).getD []
def kT : List (Int × zk) := [(1, ⟨[105, 110, 116, 51, 50], 0⟩), (2, ⟨[105, 110, 116, 54, 52], 0⟩), (3, ⟨[117, 105, 110, 116, 51, 50], 0⟩), (4, ⟨[117, 105, 110, 116, 54, 52], 0⟩), (5, ⟨[115, 105, 110, 116, 51, 50], 0⟩), (6, ⟨[115, 105, 110, 116, 54, 52], 0⟩), (7, ⟨[98, 111, 111, 108], 0⟩), (8, ⟨[101, 110, 117, 109], 0⟩), (9, ⟨[102, 105, 120, 101, 100, 51, 50], 5⟩), (10, ⟨[115, 102, 105, 120, 101, 100, 51, 50], 5⟩), (11, ⟨[102, 108, 111, 97, 116], 5⟩), (12, ⟨[102, 105, 120, 101, 100, 54, 52], 1⟩), (13, ⟨[115, 102, 105, 120, 101, 100, 54, 52], 1⟩), (14, ⟨[100, 111, 117, 98, 108, 101], 1⟩), (15, ⟨[115, 116, 114, 105, 110, 103], 2⟩), (16, ⟨[98, 121, 116, 101, 115], 2⟩), (17, ⟨[109, 101, 115, 115, 97, 103, 101], 2⟩)]
theorem zwp : zkp = some kT := rfl
theorem zrz {k : Int} (h : zhe k = true) : k = 1 ∨ k = 2 ∨ k = 3 ∨ k = 4 ∨ k = 5 ∨ k = 6 ∨ k = 7 ∨ k = 8 ∨ k = 9 ∨ k = 10 ∨ k = 11 ∨ k = 12 ∨ k = 13 ∨ k = 14 ∨ k = 15 ∨ k = 16 ∨ k = 17 := by
 have := of_decide_eq_true h
 omega
theorem zCz {k : Int} (h : zhe k = true) : mget kT k = some ⟨zAu k, zyz k⟩ := by
 rcases zrz h with rfl | rfl | rfl | rfl | rfl | rfl | rfl | rfl | rfl | rfl | rfl | rfl | rfl | rfl | rfl | rfl | rfl <;> rfl
theorem zBL {e : Int × zk} (h : e ∈ kT) : zhe e.1 = true ∧ e.2 = ⟨zAu e.1, zyz e.1⟩ := by
 have : kT.all (fun e => zhe e.1 && decide (e.2 = ⟨zAu e.1, zyz e.1⟩)) = true := by decide
 have h1 := List.all_eq_true.1 this e h
 simp only [Bool.and_eq_true, decide_eq_true_eq] at h1
 exact h1
theorem zBM {k : Int} (h : zhe k = false) : mget kT k = none := by
 cases hg : mget kT k with
 | none => rfl
 | some x =>
  have mem : ∀ {m : List (Int × zk)} {x : zk}, mget m k = some x → (k, x) ∈ m := fun {m x} hg => by
   induction m with
   | nil => cases hg
   | cons p m ih =>
    rw [mget] at hg
    split at hg
    ·rename_i e; cases hg; rw [e]; exact List.mem_cons_self
    ·exact List.mem_cons_of_mem _ (ih hg)
  have h1 := (zBL (mem hg)).1
  simp only at h1
  rw [h] at h1
  cases h1
theorem zAH (k : Int) : zlG k = some (if zhe k then (zyz k, 0) else (0, 2)) := by
 unfold zlG
 rw [zwp, sb]
 cases h : zhe k with
 | true => rw [zCz h]; rfl
 | false => rw [zBM h]; rfl
theorem zxF (k : Int) : zjw k = some (kNum k) := by
 unfold zjw
 rw [zAH, sb]
 cases h : zhe k with
 | true =>
  rcases zrz h with rfl | rfl | rfl | rfl | rfl | rfl | rfl | rfl | rfl | rfl | rfl | rfl | rfl | rfl | rfl | rfl | rfl <;> rfl
 | false =>
  have h1 := of_decide_eq_false h
  have : kNum k = false := decide_eq_false (by omega)
  rw [this]
  rfl
theorem zBO : kT.map Prod.fst = [1, 2, 3, 4, 5, 6, 7, 8, 9, 10, 11, 12, 13, 14, 15, 16, 17] := rfl
theorem zBN : zny = some [1, 2, 3, 4, 5, 6, 7, 8, 9, 10, 11, 12, 13, 14, 15, 16, 17] := by
 have e : zwn kT = some [1, 2, 3, 4, 5, 6, 7, 8, 9, 10, 11, 12, 13, 14, 15, 16, 17] := by
  unfold zwn
  rw [if_pos ⟨by decide, by decide⟩, zBO, List.mergeSort_of_pairwise (by decide)]
 unfold zny
 rw [zwp, sb, e, sb]
end Go.Proofs.YtglkepeofhonlaaGreatDoor
namespace Go.Proofs.YtglkepeofhonlaaGreatDoor
open Go
set_option linter.unusedVariables false
def lt7 (c : UInt8) : Bool := decide (97 ≤ c.toNat ∧ c.toNat ≤ 122 ∨ 65 ≤ c.toNat ∧ c.toNat ≤ 90 ∨ c.toNat = 95)
def dg7 (c : UInt8) : Bool := decide (48 ≤ c.toNat ∧ c.toNat ≤ 57)
theorem zsr (c : UInt8) : zgt (c.toNat : Int) = some (dg7 c) := by
 unfold zgt dg7
 congr 1
 rw [Bool.eq_iff_iff]
 simp
 omega
theorem zwe (c : UInt8) : zgO (c.toNat : Int) = some (lt7 c) := by
 unfold zgO lt7
 congr 1
 by_cases h1 : (c.toNat : Int) ≥ 97 <;> by_cases h2 : (c.toNat : Int) ≥ 65 <;> simp only [h1, h2, decide_true, decide_false, if_true, if_false, Bool.false_eq_true] <;> rw [Bool.eq_iff_iff] <;> simp <;> omega
theorem zwg (s : List UInt8) (hs : s.length ≤ 1152921504606846976) : ∀ (l : List UInt8) (i : Nat), s.drop i = l → zfg s i = some (if (l.all fun c => lt7 c || dg7 c) = true then .inl () else .inr ()) := by
 intro l
 induction l with
 | nil =>
  intro i hd
  have := zaU hd
  refine zjA ?_
  unfold zbZ
  rw [itF (by simp; omega)]
  rfl
 | cons c l ih =>
  intro i hd
  obtain ⟨hi, hc, hd'⟩ := zav hd
  have hb : zbZ s i = if (lt7 c || dg7 c) = true then some (.inl ((i + 1 : Nat) : Int)) else some (.inr (.inr ())) := by
   unfold zbZ
   rw [itT (by simp; omega), zE rfl hi, sb, hc, zwe, sb, sb, zsr, zy (by omega)]
   cases lt7 c <;> cases dg7 c <;> rfl
  rw [List.all_cons]
  cases hk : (lt7 c || dg7 c) with
  | false =>
   rw [hk] at hb
   rw [zjA hb]
   rfl
  | true =>
   rw [hk] at hb
   rw [znU hb, ih _ hd', Bool.true_and]
theorem zyK : ∀ (l : List UInt8) (i : Nat), 0 < i → nmA i l = l.all fun c => lt7 c || dg7 c
 | [], _, _ => rfl
 | c :: l, i, h => by
  rw [nmA, zyK l (i + 1) (by omega), List.all_cons]
  congr 1
  unfold nmc lt7 dg7
  rw [Bool.eq_iff_iff]
  simp
  omega
theorem ztZ {s : List UInt8} (hs : s.length ≤ 1152921504606846976) : zgV s = some (zbB s) := by
 unfold zgV zbB
 have hl := zwg s hs s 0 rfl
 have hl' : zfg s 0 = _ := hl
 cases s with
 | nil => rfl
 | cons c l =>
  rw [itF (by simp)]
  by_cases h60 : ((c :: l).length : Int) > 60
  ·rw [itT (by simpa using h60), sb, itT rfl]
   have : decide (1 ≤ (c :: l).length ∧ (c :: l).length ≤ 60) = false := by simp only [decide_eq_false_iff_not]; omega
   rw [this, Bool.and_false]
  ·have hd : decide (1 ≤ (c :: l).length ∧ (c :: l).length ≤ 60) = true := by simp only [decide_eq_true_eq]; refine ⟨by simp, by omega⟩
   have hc : idx (c :: l) 0 = some c := by simp [idx]
   rw [itF (by simpa using h60), hc, sb, zsr, sb, sb, hd, Bool.and_true, hl', sb]
   have e : nmA 0 (c :: l) = (lt7 c && l.all fun c => lt7 c || dg7 c) := by
    rw [nmA, zyK l 1 (by omega)]
    congr 1
    unfold nmc lt7
    rw [Bool.eq_iff_iff]
    simp
    omega
   have hx : lt7 c = true → dg7 c = false := by
    unfold lt7 dg7
    simp only [decide_eq_true_eq, decide_eq_false_iff_not]
    omega
   rw [e, List.all_cons]
   cases h1 : lt7 c <;> cases h2 : dg7 c <;> first | (rw [hx h1] at h2; cases h2; done) | skip
   ·rfl
   ·rfl
   ·cases l.all fun c => lt7 c || dg7 c <;> rfl
theorem zAm {l : List Int} (hl : l.length ≤ 1152921504606846976) (v : Int) : zdD l v = some (ziS (fun x => v == x) l) := by
 unfold zdD
 have h := zil (fun x => v == x) l (fun i => zcb l v i) (zgv (by unfold zaq; rw [itF (by simp)])) (fun i hi => by
  by_cases hp : (v == l[i]) = true
  ·rw [if_pos hp]; exact zgv (by unfold zaq; rw [itT (by simp; omega), zE rfl hi, sb, itT hp])
  ·rw [if_neg hp]; exact zjd (by unfold zaq; rw [itT (by simp; omega), zE rfl hi, sb, itF (by simpa using hp), zy (by omega)]; rfl)) l.length 0 (by omega) (fun j _ h => by omega)
 have h' : zcb l v 0 = _ := h
 rw [h', sb]
 unfold ziS
 cases l.findIdx? (fun x => v == x) <;> rfl
theorem zty {α : Type} (p : α → Bool) (l : List α) : decide (ziS p l ≥ 0) = l.any p := by
 cases h : l.findIdx? p with
 | none =>
  rw [zim h]
  rw [List.findIdx?_eq_none_iff] at h
  symm
  rw [List.any_eq_false.2 fun x hx => by simpa using h x hx]
  rfl
 | some i =>
  rw [zin h]
  rw [List.findIdx?_eq_some_iff_getElem] at h
  obtain ⟨hi, hp, _⟩ := h
  symm
  rw [List.any_eq_true.2 ⟨l[i], List.getElem_mem hi, hp⟩]
  simp
theorem zvM {l : List Int} (hl : l.length ≤ 1152921504606846976) (v : Int) : zcI l v = some (l.any fun x => v == x) := by
 unfold zcI
 rw [zAm hl, sb, zty]
def K17 : List Int := [1, 2, 3, 4, 5, 6, 7, 8, 9, 10, 11, 12, 13, 14, 15, 16, 17]
theorem zzd (k : Int) : (K17.any fun x => k == x) = zhe k := by
 unfold zhe K17
 rw [Bool.eq_iff_iff]
 simp
 omega
def hasN (m : List (ze × Bool)) (i : Int) (n : Str) : Bool := (mget m (⟨i, n⟩ : ze)).getD false
def hasU (m : List (zf × Bool)) (i : Int) (n : Int) : Bool := (mget m (⟨i, n⟩ : zf)).getD false
theorem zlF (m : List (ze × Bool)) (i j : Int) (n k : Str) : hasN (mput m ⟨i, n⟩ true) j k = (decide (j = i ∧ k = n) || hasN m j k) := by
 unfold hasN
 rw [zgT]
 by_cases h : j = i ∧ k = n
 ·obtain ⟨rfl, rfl⟩ := h; simp
 ·rw [if_neg (fun e => h (by injection e with e1 e2; exact ⟨e1, e2⟩))]; simp [h]
theorem zvY (m : List (zf × Bool)) (i j : Int) (n k : Int) : hasU (mput m ⟨i, n⟩ true) j k = (decide (j = i ∧ k = n) || hasU m j k) := by
 unfold hasU
 rw [zgT]
 by_cases h : j = i ∧ k = n
 ·obtain ⟨rfl, rfl⟩ := h; simp
 ·rw [if_neg (fun e => h (by injection e with e1 e2; exact ⟨e1, e2⟩))]; simp [h]
theorem zwh (n : Int) : zgP n = some (decide ¬ (n < 1 ∨ n > 536870911 ∨ (19000 ≤ n ∧ n < 20000))) := by
 unfold zgP
 congr 1
 rw [Bool.eq_iff_iff]
 simp
 omega
theorem zxK (f : Fld) : zhh f = some (f.Repeated && kNum f.Kind) := by
 unfold zhh
 rw [zxF]
 cases f.Repeated <;> rfl
theorem zAJ (n : Int) (K : List Int) (nm : List (ze × Bool)) (nu : List (zf × Bool)) (f : Fld) : zfw ⟨n, K, nm, nu⟩ f = some (decide ¬ (f.Kind = 17 ∧ (f.Of < 0 ∨ f.Of ≥ n) ∨ f.Kind ≠ 17 ∧ f.Of ≠ 0)) := by
 unfold zfw
 by_cases h : f.Kind = 17
 ·rw [itT (by simpa using h)]
  congr 1
  rw [Bool.eq_iff_iff]
  simp [h]
 ·rw [itF (by simpa using h)]
  congr 1
  rw [Bool.eq_iff_iff]
  simp [h]
theorem zAh {n i : Int} {nm : List (ze × Bool)} {nu : List (zf × Bool)} {prev : List Fld} {f : Fld} (hf : f.Name.length ≤ 1152921504606846976) (hN : hasN nm i f.Name = prev.any fun g => g.Name == f.Name) (hU : hasU nu i f.Number = prev.any fun g => g.Number == f.Number) :
  zfv ⟨n, K17, nm, nu⟩ i f = some (zdh n prev f, if zdh n prev f = 0 then (mput nm ⟨i, f.Name⟩ true, mput nu ⟨i, f.Number⟩ true) else (nm, nu)) := by
 unfold zfv
 rw [ztZ hf, sb]
 have e1 : (mget nm (⟨i, f.Name⟩ : ze)).getD false = hasN nm i f.Name := rfl
 have e2 : (mget nu (⟨i, f.Number⟩ : zf)).getD false = hasU nu i f.Number := rfl
 simp only [e1, e2, hN, hU]
 have hz : ∀ (k : Int) (x y : List (ze × Bool) × List (zf × Bool)), k ≠ 0 → (if k = 0 then x else y) = y := fun k x y h => if_neg h
 by_cases h1 : zbB f.Name = false
 ·have hF : zdh n prev f = 5 := by unfold zdh; rw [if_pos h1]
  rw [hF, hz 5 _ _ (by decide), itT (by rw [h1]; rfl)]
 rw [itF (show (!zbB f.Name) = false by simpa using h1)]
 by_cases h2 : (prev.any fun g => g.Name == f.Name) = true
 ·have hF : zdh n prev f = 6 := by unfold zdh; rw [if_neg h1, if_pos h2]
  rw [hF, hz 6 _ _ (by decide), itT h2]
 have h2' : (prev.any fun g => g.Name == f.Name) = false := eq_false_of_ne_true h2
 rw [itF h2', zwh, sb]
 by_cases h3 : f.Number < 1 ∨ f.Number > 536870911 ∨ (19000 ≤ f.Number ∧ f.Number < 20000)
 ·have hF : zdh n prev f = 7 := by unfold zdh; rw [if_neg h1, if_neg h2, if_pos h3]
  rw [hF, hz 7 _ _ (by decide), itT (by rw [decide_eq_false (fun h => h h3)]; rfl)]
 rw [itF (by rw [decide_eq_true h3]; rfl)]
 by_cases h4 : (prev.any fun g => g.Number == f.Number) = true
 ·have hF : zdh n prev f = 8 := by unfold zdh; rw [if_neg h1, if_neg h2, if_neg h3, if_pos h4]
  rw [hF, hz 8 _ _ (by decide), itT h4]
 have h4' : (prev.any fun g => g.Number == f.Number) = false := eq_false_of_ne_true h4
 rw [itF h4', zvM (by decide), sb, zzd]
 by_cases h5 : zhe f.Kind = false
 ·have hF : zdh n prev f = 9 := by unfold zdh; rw [if_neg h1, if_neg h2, if_neg h3, if_neg h4, if_pos h5]
  rw [hF, hz 9 _ _ (by decide), itT (by rw [h5]; rfl)]
 rw [itF (show (!zhe f.Kind) = false by simpa using h5), zxK]
 have hg : (if f.Packed = true then (some (f.Repeated && kNum f.Kind) >>= fun rv4 => some (!rv4)) else some false) = some (decide (f.Packed = true ∧ ¬ (f.Repeated = true ∧ kNum f.Kind = true))) := by
  cases f.Packed <;> cases f.Repeated <;> cases kNum f.Kind <;> rfl
 rw [hg, sb]
 by_cases h6 : f.Packed = true ∧ ¬ (f.Repeated = true ∧ kNum f.Kind = true)
 ·have hF : zdh n prev f = 10 := by unfold zdh; rw [if_neg h1, if_neg h2, if_neg h3, if_neg h4, if_neg h5, if_pos h6]
  rw [hF, hz 10 _ _ (by decide), itT (decide_eq_true h6)]
 rw [itF (decide_eq_false h6), zAJ, sb]
 by_cases h7 : f.Kind = 17 ∧ (f.Of < 0 ∨ f.Of ≥ n) ∨ f.Kind ≠ 17 ∧ f.Of ≠ 0
 ·have hF : zdh n prev f = 11 := by unfold zdh; rw [if_neg h1, if_neg h2, if_neg h3, if_neg h4, if_neg h5, if_neg h6, if_pos h7]
  rw [hF, hz 11 _ _ (by decide), itT (by rw [decide_eq_false (fun h => h h7)]; rfl)]
 have hF : zdh n prev f = 0 := by unfold zdh; rw [if_neg h1, if_neg h2, if_neg h3, if_neg h4, if_neg h5, if_neg h6, if_neg h7]
 rw [hF, if_pos rfl, itF (by rw [decide_eq_true h7]; rfl)]
theorem zxL {n : Int} {nm : List (ze × Bool)} {nu : List (zf × Bool)} {prev : List Mes} {m : Mes} (hm : m.Name.length ≤ 1152921504606846976) (hN : hasN nm (-1) m.Name = prev.any fun g => g.Name == m.Name) :
  zeJ ⟨n, K17, nm, nu⟩ m = some (if zbB m.Name = false then (2, nm, nu) else if (prev.any fun g => g.Name == m.Name) = true then (3, nm, nu) else if 200 < m.Fields.length then (4, nm, nu) else (0, mput nm ⟨-1, m.Name⟩ true, nu)) := by
 unfold zeJ
 rw [ztZ hm, sb]
 have e1 : (mget nm (⟨(-1), m.Name⟩ : ze)).getD false = hasN nm (-1) m.Name := rfl
 simp only [e1, hN]
 by_cases h1 : zbB m.Name = false
 ·rw [if_pos h1, itT (show (!zbB m.Name) = true by rw [h1]; rfl)]
 rw [if_neg h1, itF (show (!zbB m.Name) = false by simpa using h1)]
 by_cases h2 : (prev.any fun g => g.Name == m.Name) = true
 ·rw [if_pos h2, itT h2]
 have h2' : (prev.any fun g => g.Name == m.Name) = false := eq_false_of_ne_true h2
 rw [if_neg h2, itF h2']
 by_cases h3 : 200 < m.Fields.length
 ·rw [if_pos h3, itT (show decide ((m.Fields.length : Int) > 200) = true by simp; omega)]
 rw [if_neg h3, itF (show decide ((m.Fields.length : Int) > 200) = false by simp; omega)]
structure Met (nm : List (ze × Bool)) (nu : List (zf × Bool)) (i : Nat) (prev : List Mes) (p : List Fld) : Prop where
 mes : ∀ n, hasN nm (-1) n = prev.any fun g => g.Name == n
 nam : ∀ n, hasN nm i n = p.any fun g => g.Name == n
 num : ∀ n, hasU nu i n = p.any fun g => g.Number == n
 later : ∀ (j : Nat) n, i < j → hasN nm j n = false
 laterU : ∀ (j : Nat) n, i < j → hasU nu j n = false
theorem Met.step {nm : List (ze × Bool)} {nu : List (zf × Bool)} {i : Nat} {prev : List Mes} {p : List Fld} (h : Met nm nu i prev p) (f : Fld) : Met (mput nm ⟨i, f.Name⟩ true) (mput nu ⟨i, f.Number⟩ true) i prev (p ++ [f]) := by
 refine ⟨fun n => ?_, fun n => ?_, fun n => ?_, fun j n hj => ?_, fun j n hj => ?_⟩
 ·rw [zlF, h.mes, decide_eq_false (by omega), Bool.false_or]
 ·rw [zlF, h.nam, List.any_append, Bool.or_comm]
  congr 1
  simp only [List.any_cons, List.any_nil, Bool.or_false]
  rw [Bool.eq_iff_iff]; simp; exact eq_comm
 ·rw [zvY, h.num, List.any_append, Bool.or_comm]
  congr 1
  simp only [List.any_cons, List.any_nil, Bool.or_false]
  rw [Bool.eq_iff_iff]; simp; exact eq_comm
 ·rw [zlF, h.later j n hj, decide_eq_false (by omega)]; rfl
 ·rw [zvY, h.laterU j n hj, decide_eq_false (by omega)]; rfl
theorem zAc {s : List Mes} {i : Nat} {prev : List Mes} {m : Mes} (hb : m.Fields.length ≤ 140737488351232) (hn : ∀ f ∈ m.Fields, f.Name.length ≤ 140737488351232) :
  ∀ (l : List Fld) (k : Nat) (nm : List (ze × Bool)) (nu : List (zf × Bool)), m.Fields.drop k = l → k ≤ m.Fields.length → Met nm nu i prev (m.Fields.take k) →
   (∃ j w, msgF s.length (m.Fields.take k) l = some (j, w) ∧ zec K17 s i m k nm nu = some (.inr ((j : Int), w))) ∨
   (msgF s.length (m.Fields.take k) l = none ∧ ∃ nm' nu', zec K17 s i m k nm nu = some (.inl (nm', nu')) ∧ Met nm' nu' i prev m.Fields) := by
 intro l
 induction l with
 | nil =>
  intro k nm nu hd hk hM
  have := zaU hd
  have hkl : k = m.Fields.length := by omega
  subst hkl
  refine .inr ⟨rfl, nm, nu, zjV ?_, by simpa using hM⟩
  unfold zbW
  rw [itF (by simp)]
 | cons f l ih =>
  intro k nm nu hd hk hM
  obtain ⟨hi, hc, hd'⟩ := zav hd
  have hf := hn f (by rw [← hc]; exact List.getElem_mem hi)
  have hfld := zAh (n := (s.length : Int)) (i := (i : Int)) (nm := nm) (nu := nu) (prev := m.Fields.take k) (f := f) (by omega) (hM.nam _) (hM.num _)
  have htk : m.Fields.take (k + 1) = m.Fields.take k ++ [f] := by rw [List.take_succ_eq_append_getElem hi, hc]
  have hlen : (m.Fields.take k).length = k := by simp; omega
  obtain ⟨bd, _⟩ := zsi (s.length : Int) (m.Fields.take k) f
  rw [msgF]
  by_cases h0 : zdh s.length (m.Fields.take k) f = 0
  ·rw [if_neg (by omega)]
   rw [h0, if_pos rfl] at hfld
   have hstep : zbW K17 s i m k nm nu = some (.inl (((k + 1 : Nat) : Int), mput nm ⟨i, f.Name⟩ true, mput nu ⟨i, f.Number⟩ true)) := by
    unfold zbW
    rw [itT (by simp; omega), zE rfl hi, sb, hc, hfld, sb]
    dsimp only
    rw [itF (show ((0 : Int) != 0) = false from rfl), zy (by omega)]
    rfl
   rw [zoC hstep, ← htk]
   exact ih (k + 1) _ _ hd' (by omega) (by rw [htk]; exact hM.step f)
  ·rw [if_pos (by omega)]
   rw [if_neg h0] at hfld
   refine .inl ⟨k, _, by rw [hlen], zjV ?_⟩
   unfold zbW
   rw [itT (by simp; omega), zE rfl hi, sb, hc, hfld, sb]
   dsimp only
   rw [itT (show (zdh (s.length : Int) (m.Fields.take k) f != 0) = true by simpa using h0)]
theorem zAb {s : List Mes} (hw : WS s) : ∀ (l : List Mes) (i : Nat) (nm : List (ze × Bool)) (nu : List (zf × Bool)), s.drop i = l → i ≤ s.length → Met nm nu i (s.take i) [] →
  zfN K17 s i nm nu = some (match chkF s.length (s.take i) l with | some (j, k, w) => .inr ((j : Int), k, w) | none => .inl ()) := by
 intro l
 induction l with
 | nil =>
  intro i nm nu hd hi hM
  have := zaU hd
  refine zeT ?_
  unfold zbs
  rw [itF (by simp; omega)]
  rfl
 | cons m l ih =>
  intro i nm nu hd hi hM
  obtain ⟨hil, hc, hd'⟩ := zav hd
  obtain ⟨w1, w2⟩ := hw
  obtain ⟨m1, m2, m3⟩ := w2 m (by rw [← hc]; exact List.getElem_mem hil)
  have hmes := zxL (n := (s.length : Int)) (nm := nm) (nu := nu) (prev := s.take i) (m := m) (by omega) (hM.mes _)
  have htk : s.take (i + 1) = s.take i ++ [m] := by rw [List.take_succ_eq_append_getElem hil, hc]
  have hlen : (s.take i).length = i := by simp; omega
  rw [chkF]
  by_cases h1 : zbB m.Name = false
  ·rw [if_pos h1] at hmes ⊢
   refine zeT ?_
   unfold zbs
   rw [itT (by simp; omega), zE rfl hil, sb, hc, hmes, sb]
   dsimp only
   rw [itT (show ((2 : Int) != 0) = true from rfl), hlen]
  rw [if_neg h1] at hmes ⊢
  by_cases h2 : ((s.take i).any fun g => g.Name == m.Name) = true
  ·rw [if_pos h2] at hmes ⊢
   refine zeT ?_
   unfold zbs
   rw [itT (by simp; omega), zE rfl hil, sb, hc, hmes, sb]
   dsimp only
   rw [itT (show ((3 : Int) != 0) = true from rfl), hlen]
  rw [if_neg h2] at hmes ⊢
  by_cases h3 : 200 < m.Fields.length
  ·rw [if_pos h3] at hmes ⊢
   refine zeT ?_
   unfold zbs
   rw [itT (by simp; omega), zE rfl hil, sb, hc, hmes, sb]
   dsimp only
   rw [itT (show ((4 : Int) != 0) = true from rfl), hlen]
  rw [if_neg h3] at hmes ⊢
  have hM0 : Met (mput nm ⟨-1, m.Name⟩ true) nu i (s.take i ++ [m]) (m.Fields.take 0) := by
   refine ⟨fun n => ?_, fun n => ?_, fun n => ?_, fun j n hj => ?_, fun j n hj => hM.laterU j n hj⟩
   ·rw [zlF, hM.mes, List.any_append, Bool.or_comm]
    congr 1
    simp only [List.any_cons, List.any_nil, Bool.or_false]
    rw [Bool.eq_iff_iff]; simp; exact eq_comm
   ·rw [zlF, hM.nam, decide_eq_false (by omega)]; rfl
   ·rw [hM.num]; rfl
   ·rw [zlF, hM.later j n hj, decide_eq_false (by omega)]; rfl
  have hl2 := zAc (s := s) (i := i) m2 m3 m.Fields 0 _ nu rfl (by omega) hM0
  simp only [List.take_zero] at hl2
  rcases hl2 with ⟨j, w, g1, g2⟩ | ⟨g1, nm', nu', g2, g3⟩
  ·rw [g1]
   refine zeT ?_
   unfold zbs
   have g2' : zec K17 s i m 0 (mput nm ⟨-1, m.Name⟩ true) nu = _ := g2
   rw [itT (by simp; omega), zE rfl hil, sb, hc, hmes, sb]
   dsimp only
   rw [itF (show ((0 : Int) != 0) = false from rfl), g2', sb]
   simp only [hlen]
  ·rw [g1]
   have hstep : zbs K17 s i nm nu = some (.inl (((i + 1 : Nat) : Int), nm', nu')) := by
    unfold zbs
    have g2' : zec K17 s i m 0 (mput nm ⟨-1, m.Name⟩ true) nu = _ := g2
    rw [itT (by simp; omega), zE rfl hil, sb, hc, hmes, sb]
    dsimp only
    rw [itF (show ((0 : Int) != 0) = false from rfl), g2', sb]
    dsimp only
    rw [zy (by omega)]
    rfl
   rw [zoB hstep]
   simp only []
   rw [← htk]
   refine ih (i + 1) nm' nu' hd' (by omega) ⟨fun n => ?_, fun n => ?_, fun n => ?_, fun j n hj => g3.later j n (by omega), fun j n hj => g3.laterU j n (by omega)⟩
   ·rw [htk]; exact g3.mes n
   ·rw [g3.later (i + 1) n (by omega)]; rfl
   ·rw [g3.laterU (i + 1) n (by omega)]; rfl
theorem zAa {s : List Mes} (hw : WS s) : ziL s = some (⟨(ziD s).1, (ziD s).2.1, (ziD s).2.2⟩, if (ziD s).2.2 = 0 then 0 else 9) := by
 unfold ziL ziD
 by_cases h : s.length = 0 ∨ 100 < s.length
 ·rw [itT (by simp; omega), if_pos h]
  rfl
 ·rw [itF (by simp; omega), if_neg h, zBN, sb]
  have hl := zAb hw s 0 [] [] rfl (by omega) ⟨fun n => rfl, fun n => rfl, fun n => rfl, fun j n _ => rfl, fun j n _ => rfl⟩
  simp only [List.take_zero] at hl
  have hl' : zfN [1, 2, 3, 4, 5, 6, 7, 8, 9, 10, 11, 12, 13, 14, 15, 16, 17] s 0 [] [] = _ := hl
  rw [hl', sb]
  cases hc : chkF s.length [] s with
  | none => rfl
  | some q =>
   obtain ⟨i, k, w⟩ := q
   have := zyj _ _ _ _ _ _ hc
   simp only
   rw [if_neg (by omega)]
theorem zwL {s : List Mes} (hw : WS s) : zhv s = some (zjN s) := by
 unfold zhv zjN
 rw [zAa hw, sb]
 by_cases h : (ziD s).2.2 = 0 <;> simp [h]
end Go.Proofs.YtglkepeofhonlaaGreatDoor
namespace Go.Proofs.YtglkepeofhonlaaGreatDoor
open Go
set_option linter.unusedVariables false
def go12 {σ ρ χ : Type} (kb : σ → χ → Option (σ ⊕ ρ)) : List χ → σ → Option (σ ⊕ ρ)
 | [], s => some (.inl s)
 | p :: ps, s => match kb s p with
  | some (.inl s') => go12 kb ps s'
  | some (.inr r) => some (.inr r)
  | none => none
theorem zsZ {σ ρ χ : Type} {kb : σ → χ → Option (σ ⊕ ρ)} {s s' : σ} {x : χ} (h : kb s x = some (.inl s')) : rnd kb (.inl s) x = some (true, .inl s') := by simp only [rnd, h]
theorem zta {σ ρ χ : Type} {kb : σ → χ → Option (σ ⊕ ρ)} {s : σ} {r : ρ} {x : χ} (h : kb s x = some (.inr r)) : rnd kb (.inl s) x = some (false, .inr r) := by simp only [rnd, h]
theorem zzM {σ ρ : Type} {kb : σ → List UInt8 → Option (σ ⊕ ρ)} {v : List (List UInt8)} (hv : v.length ≤ 1152921504606846976) : ∀ (l : List (List UInt8)) (i : Nat) (s : σ) (o : σ ⊕ ρ), v.drop i = l → go12 kb l s = some o →
  zaV (rnd kb) v (i : Int) (.inl s) = some (match o with | .inl s' => .inl (.inl s') | .inr r => .inr (.inr r)) := by
 intro l
 induction l with
 | nil =>
  intro i s o hd h
  cases h
  have := zaU hd
  refine zex ?_
  unfold zS
  rw [itF (by simp; omega)]
 | cons x l ih =>
  intro i s o hd h
  obtain ⟨hk, hx, hd'⟩ := zav hd
  rw [go12] at h
  cases hb : kb s x with
  | none => rw [hb] at h; cases h
  | some q =>
   rw [hb] at h
   cases q with
   | inl s' =>
    refine (zgZ (v2' := ((i + 1 : Nat) : Int)) (sg2' := .inl s') ?_).trans (ih (i + 1) s' o hd' h)
    unfold zS
    rw [itT (by simp; omega), zE rfl hk, sb, hx, zsZ hb, sb, itF (c := !true) rfl, zy (by omega)]
    push_cast; rfl
   | inr r =>
    cases h
    refine zex ?_
    unfold zS
    rw [itT (by simp; omega), zE rfl hk, sb, hx, zta hb, sb, itT (c := !false) rfl]
theorem zCR {σ ρ : Type} {kb : σ → List UInt8 → Option (σ ⊕ ρ)} {v : List (List UInt8)} (hv : v.length ≤ 1152921504606846976) {s : σ} {o : σ ⊕ ρ} (h : go12 kb v s = some o) : zaQ v (rnd kb) (.inl s) = some o := by
 have h1 := zzM hv v 0 s o rfl h
 have h2 : zaV (rnd kb) v 0 (.inl s) = _ := h1
 unfold zaQ
 rw [h2, sb]
 cases o <;> rfl
theorem zvZ : ∀ f : List UInt8, (idxB f 46 = -1 ∧ ∀ c ∈ f, c ≠ 46) ∨ ∃ x y, f = x ++ 46 :: y ∧ (∀ c ∈ x, c ≠ 46) ∧ idxB f 46 = (x.length : Int)
 | [] => .inl ⟨rfl, by simp⟩
 | c :: f => by
  by_cases hc : c = 46
  ·subst hc
   exact .inr ⟨[], f, rfl, by simp, by simp [idxB]⟩
  ·rcases zvZ f with ⟨h1, h2⟩ | ⟨x, y, rfl, h2, h3⟩
   ·refine .inl ⟨by simp [idxB, hc, h1], fun d hd => ?_⟩
    rcases List.mem_cons.1 hd with rfl | hd
    ·exact hc
    ·exact h2 d hd
   ·refine .inr ⟨c :: x, y, rfl, fun d hd => ?_, ?_⟩
    ·rcases List.mem_cons.1 hd with rfl | hd
     ·exact hc
     ·exact h2 d hd
    ·have : ((x.length : Int) == -1) = false := by simp <;> omega
     simp [idxB, hc, h3, this]
theorem zrJ (f : List UInt8) : zhT f [46] = some (idxB f 46) := by
 unfold zhT zdN
 by_cases h : ([46] : List UInt8) = f
 ·subst h; rfl
 ·rw [itF (by simp [h]), itT (by rfl), show idx ([46] : List UInt8) 0 = some 46 from rfl, sb]
  unfold zcP
  rfl
theorem zxX {σ ρ : Type} {kb : σ → List UInt8 → Option (σ ⊕ ρ)} : ∀ (n : Nat) (f : List UInt8) (s : σ) (o : σ ⊕ ρ), f.length ≤ n → f.length ≤ 1152921504606846976 → go12 kb (zcT f) s = some o →
  ∃ q, zek (rnd kb) [46] 0 f (.inl s) = some q ∧ (match q with | .inl u => (rnd kb u.2 u.1 >>= fun y => some y.2) | .inr u => some u) = some o := by
 intro n
 induction n with
 | zero =>
  intro f s o hn _ h
  have : f = [] := List.eq_nil_of_length_eq_zero (by omega)
  subst this
  refine ⟨.inl ([], .inl s), zfJ ?_, ?_⟩
  ·unfold zaL
   rw [zrJ, sb, itT (by rfl)]
  ·show (rnd kb (.inl s) [] >>= fun y => some y.2) = some o
   rw [zcT, go12] at h
   cases hb : kb s [] with
   | none => rw [hb] at h; cases h
   | some q =>
    rw [hb] at h
    cases q with
    | inl s' => cases h; rw [zsZ hb]; rfl
    | inr r => cases h; rw [zta hb]; rfl
 | succ n ih =>
  intro f s o hn hl h
  rcases zvZ f with ⟨h1, h2⟩ | ⟨x, y, rfl, h2, h3⟩
  ·rw [zuv h2, go12] at h
   refine ⟨.inl (f, .inl s), zfJ ?_, ?_⟩
   ·unfold zaL
    rw [zrJ, sb, h1, itT (by rfl)]
   ·show (rnd kb (.inl s) f >>= fun y => some y.2) = some o
    cases hb : kb s f with
    | none => rw [hb] at h; cases h
    | some q =>
     rw [hb] at h
     cases q with
     | inl s' => cases h; rw [zsZ hb]; rfl
     | inr r => cases h; rw [zta hb]; rfl
  ·rw [ztk h2, go12] at h
   have hlen : (x ++ 46 :: y).length = x.length + (y.length + 1) := by simp
   have c1 : cut (x ++ 46 :: y) 0 (IntKind.i64.wrap ((x.length : Int) + 0)) = some x := by
    rw [zy (by omega), zsg (i := 0) (a := 0) (b := x.length) rfl (by omega) (Nat.zero_le _) (by omega)]
    simp
   have c2 : cut (x ++ 46 :: y) (IntKind.i64.wrap ((x.length : Int) + (([46] : List UInt8).length : Int))) ((x ++ 46 :: y).length : Int) = some y := by
    have e : (x.length : Int) + (([46] : List UInt8).length : Int) = ((x.length + 1 : Nat) : Int) := by simp
    rw [e, zy (by omega), zsg (a := x.length + 1) (b := (x ++ 46 :: y).length) rfl rfl (by omega) (Nat.le_refl _)]
    have e2 : x ++ 46 :: y = (x ++ [46]) ++ y := by simp
    have e3 : (x ++ 46 :: y).drop (x.length + 1) = y := by rw [e2, List.drop_left' (by simp)]
    rw [e3, List.take_of_length_le (by omega)]
   cases hb : kb s x with
   | none => rw [hb] at h; cases h
   | some q =>
    rw [hb] at h
    cases q with
    | inl s' =>
     obtain ⟨q, hq, hq2⟩ := ih y s' o (by omega) (by omega) h
     refine ⟨q, (zkO (f2' := y) (sg5' := .inl s') ?_).trans hq, hq2⟩
     unfold zaL
     rw [zrJ, sb, h3, itF (by simp), c1, sb, zsZ hb, sb, itF (c := !true) rfl, c2, sb]
    | inr r =>
     cases h
     refine ⟨.inr (.inr r), zfJ ?_, rfl⟩
     unfold zaL
     rw [zrJ, sb, h3, itF (by simp), c1, sb, zta hb, sb, itT (c := !false) rfl]
theorem zvn {σ ρ : Type} {kb : σ → List UInt8 → Option (σ ⊕ ρ)} {p : List UInt8} (hp : p.length ≤ 1152921504606846976) {s : σ} {o : σ ⊕ ρ} (h : go12 kb (zcT p) s = some o) : zdq [46] p 0 (rnd kb) (.inl s) = some o := by
 obtain ⟨q, h1, h2⟩ := zxX p.length p s o (Nat.le_refl _) hp h
 unfold zdq
 rw [itF (by rfl), h1, sb]
 cases q with
 | inl u => exact h2
 | inr u => exact h2
theorem zxG (x y : List UInt8) : (decide (x ≤ y) || decide (y ≤ x)) = true := by
 simp only [Bool.or_eq_true, decide_eq_true_eq]
 exact List.le_total x y
theorem zxH (x y z : List UInt8) (h : decide (x ≤ y) = true) (k : decide (y ≤ z) = true) : decide (x ≤ z) = true := by
 simp only [decide_eq_true_eq] at h k ⊢
 exact List.le_trans h k
theorem ztj (l : List (List UInt8)) : (zhS l).Perm l := List.mergeSort_perm l _
theorem zqu (l : List (List UInt8)) : (zhS l).Pairwise (fun x y => x ≤ y) := by
 have := List.pairwise_mergeSort (le := fun x y : List UInt8 => decide (x ≤ y)) (fun x y z => zxH x y z) (fun x y => zxG x y) l
 exact this.imp fun h => by simpa using h
theorem zlx : ∀ (l : List (List UInt8)) (p : List UInt8), (p :: l).Pairwise (fun x y => x ≤ y) → ∀ x, x ∈ zig (some p) l ↔ x ∈ l ∧ x ≠ p
 | [], p, _, x => by simp [zig]
 | y :: l, p, h, x => by
  obtain ⟨h1, h2⟩ := List.pairwise_cons.1 h
  obtain ⟨h3, h4⟩ := List.pairwise_cons.1 h2
  have hpy := h1 y List.mem_cons_self
  rw [zig]
  by_cases e : p = y
  ·subst e
   rw [if_pos rfl, zlx l p h2 x]
   constructor
   ·rintro ⟨a, b⟩; exact ⟨List.mem_cons_of_mem _ a, b⟩
   ·rintro ⟨a, b⟩
    rcases List.mem_cons.1 a with rfl | a
    ·exact absurd rfl b
    ·exact ⟨a, b⟩
  ·rw [if_neg (by simpa using e), List.mem_cons, zlx l y h2 x]
   constructor
   ·rintro (rfl | ⟨a, b⟩)
    ·exact ⟨List.mem_cons_self, fun e2 => e e2.symm⟩
    ·refine ⟨List.mem_cons_of_mem _ a, fun e2 => ?_⟩
     subst e2
     exact e (List.le_antisymm hpy (h3 x a))
   ·rintro ⟨a, b⟩
    rcases List.mem_cons.1 a with rfl | a
    ·exact .inl rfl
    ·by_cases e2 : x = y
     ·exact .inl e2
     ·exact .inr ⟨a, e2⟩
theorem znj : ∀ (l : List (List UInt8)) (p : List UInt8), (p :: l).Pairwise (fun x y => x ≤ y) → (zig (some p) l).Nodup
 | [], p, _ => by simp [zig]
 | y :: l, p, h => by
  obtain ⟨h1, h2⟩ := List.pairwise_cons.1 h
  rw [zig]
  split
  ·exact znj l y h2
  ·refine List.nodup_cons.2 ⟨fun hm => ?_, znj l y h2⟩
   exact ((zlx l y h2 y).1 hm).2 rfl
theorem zyV {l : List (List UInt8)} (h : l.Pairwise (fun x y => x ≤ y)) (x : List UInt8) : x ∈ zcv l ↔ x ∈ l := by
 cases l with
 | nil => simp [zcv, zig]
 | cons y l =>
  rw [zcv, zig, if_neg (by simp), List.mem_cons, zlx l y h x, List.mem_cons]
  constructor
  ·rintro (a | ⟨a, _⟩)
   ·exact .inl a
   ·exact .inr a
  ·rintro (a | a)
   ·exact .inl a
   ·by_cases e : x = y
    ·exact .inl e
    ·exact .inr ⟨a, e⟩
theorem zvL {l : List (List UInt8)} (h : l.Pairwise (fun x y => x ≤ y)) : (zcv l).Nodup := by
 cases l with
 | nil => simp [zcv, zig]
 | cons y l =>
  rw [zcv, zig, if_neg (by simp)]
  exact List.nodup_cons.2 ⟨fun hm => ((zlx l y h y).1 hm).2 rfl, znj l y h⟩
theorem zvK : ∀ (l : List (List UInt8)) (p : Option (List UInt8)), (zig p l).length ≤ l.length
 | [], _ => Nat.le_refl _
 | x :: l, p => by
  have := zvK l (some x)
  rw [zig]
  split <;> simp <;> omega
def zph (l : List (List UInt8)) : List (List UInt8) := zcv (zhS l)
theorem zqd (l : List (List UInt8)) (x : List UInt8) : x ∈ zph l ↔ x ∈ l := (zyV (zqu l) x).trans (ztj l).mem_iff
theorem zxO (l : List (List UInt8)) : (zph l).Nodup := zvL (zqu l)
theorem zwz (l : List (List UInt8)) : (zph l).length ≤ l.length := by
 have h1 := zvK (zhS l) none
 have h2 := (ztj l).length_eq
 unfold zph zcv
 omega
theorem zAT (l : List (List UInt8)) : (zph l).length = 0 ↔ l.length = 0 := by
 constructor
 ·intro h
  cases l with
  | nil => rfl
  | cons x l =>
   have := (zqd (x :: l) x).2 List.mem_cons_self
   rw [List.eq_nil_of_length_eq_zero h] at this
   cases this
 ·intro h
  have := zwz l
  omega
def zfF (x : List UInt8) : Mes := ⟨x, []⟩
theorem zCi (n : Int) : ∀ (l : List (List UInt8)) (prev : List Mes), l.Nodup → (∀ x ∈ l, (prev.any fun g => g.Name == x) = false) →
  (chkF n prev (l.map zfF) = none ∧ l.all zbB = true) ∨ ∃ i, chkF n prev (l.map zfF) = some (i, -1, 2) ∧ l.all zbB = false
 | [], prev, _, _ => .inl ⟨rfl, rfl⟩
 | x :: l, prev, hn, hp => by
  obtain ⟨n1, n2⟩ := List.nodup_cons.1 hn
  rw [List.map_cons, chkF, List.all_cons]
  cases hx : zbB x with
  | false => exact .inr ⟨_, by rw [if_pos (show zbB (zfF x).Name = false from hx)], rfl⟩
  | true =>
   rw [if_neg (show ¬ zbB (zfF x).Name = false by simp [zfF, hx]), if_neg (by rw [show (zfF x).Name = x from rfl, hp x List.mem_cons_self]; simp), if_neg (by simp [zfF])]
   have hm : msgF n [] (zfF x).Fields = none := rfl
   rw [hm, Bool.true_and]
   refine zCi n l (prev ++ [zfF x]) n2 fun y hy => ?_
   rw [List.any_append, hp y (List.mem_cons_of_mem _ hy)]
   have : y ≠ x := fun e => n1 (e ▸ hy)
   simp [zfF]
   exact fun e => this e.symm
theorem zBZ {l : List (List UInt8)} (hn : l.Nodup) (hl : l.length ≤ 100) : zjN (l.map zfF) = (l.all zbB && decide (1 ≤ l.length)) := by
 unfold zjN ziD
 by_cases h0 : l.length = 0
 ·rw [if_pos (.inl (by simpa using h0))]
  simp [h0]
 ·rw [if_neg (by rw [List.length_map]; omega)]
  rcases zCi ((l.map zfF).length : Int) l [] hn (fun x _ => rfl) with ⟨h1, h2⟩ | ⟨i, h1, h2⟩
  ·rw [h1, h2]; simp; omega
  ·rw [h1, h2]; rfl
theorem zxN {l : List (List UInt8)} (hl : (zcv l).length ≤ 1048576) : ∀ (t : List (List UInt8)) (i : Nat), (zcv l).drop i = t → zff l (((zcv l).take i).map zfF ++ List.replicate t.length (⟨[], []⟩ : Mes)) (i : Int) = some ((zcv l).map zfF) := by
 intro t
 induction t with
 | nil =>
  intro i hd
  have := zaU hd
  refine znO ?_
  unfold zct
  rw [itF (by simp; omega), List.take_of_length_le this]
  simp
 | cons x t ih =>
  intro i hd
  obtain ⟨hk, hx, hd'⟩ := zav hd
  have hlen : (((zcv l).take i).map zfF).length = i := by simp; omega
  refine (znN (sv' := ((zcv l).take (i + 1)).map zfF ++ List.replicate t.length (⟨[], []⟩ : Mes)) (v2' := ((i + 1 : Nat) : Int)) ?_).trans (ih (i + 1) hd')
  unfold zct
  have h1 : idx (((zcv l).take i).map zfF ++ List.replicate (x :: t).length (⟨[], []⟩ : Mes)) (i : Int) = some (⟨[], []⟩ : Mes) := by
   rw [zE rfl (by rw [List.length_append, hlen]; simp)]
   rw [List.getElem_append_right (by omega)]
   simp
  rw [itT (by simp; omega), zE rfl hk, sb, hx, h1, sb, zy (by omega)]
  have h2 : (((zcv l).take i).map zfF ++ List.replicate (x :: t).length (⟨[], []⟩ : Mes)).set (Int.toNat (i : Int)) (⟨x, []⟩ : Mes) = ((zcv l).take (i + 1)).map zfF ++ List.replicate t.length (⟨[], []⟩ : Mes) := by
   rw [Int.toNat_natCast, List.set_append_right _ _ (by omega), hlen, Nat.sub_self, List.length_cons, List.replicate_succ, List.set_cons_zero, List.take_succ_eq_append_getElem hk, hx, List.map_append, List.append_assoc]
   rfl
  rw [h2]; push_cast; rfl
theorem zvy : ∀ (l acc : List (List UInt8)), acc.length + l.length ≤ 1048576 → go12 (fun s x => zz s x) l acc = some (.inl (acc ++ l))
 | [], acc, _ => by simp [go12]
 | x :: l, acc, h => by
  simp only [List.length_cons] at h
  have hb : zz acc x = some (.inl (acc ++ [x])) := by
   unfold zz
   rw [zeG (by simp; omega), sb]
  rw [go12, hb]
  simp only
  rw [zvy l (acc ++ [x]) (by simp; omega), List.append_assoc]
  rfl
theorem zBi {l : List (List UInt8)} (hl : l.length ≤ 1048576) : zag l = some (zhS l) := by
 unfold zag zax zad zeS zyO
 rw [zCR (by omega) (zvy l [] (by simpa using hl)), sb]
 simp only [List.nil_append]
 rw [sb, sb, if_pos (by omega), sb]
theorem zrh {l : List (List UInt8)} (hl : l.length ≤ 100) (hx : ∀ x ∈ l, x.length ≤ 140737488351232) : zgU l = some (l.all zbB && decide (1 ≤ l.length)) := by
 have hle := zwz l
 have hs : (zcv (zhS l)).length ≤ l.length := hle
 unfold zgU zcQ
 rw [sb, zBi (by omega), sb, zpf (a := (zcv (zhS l)).length) rfl (Int.le_refl _) (by omega), sb]
 have h1 := zxN (l := zhS l) (by omega) (zcv (zhS l)) 0 rfl
 have h2 : zff (zhS l) (List.replicate (zcv (zhS l)).length (⟨[], []⟩ : Mes)) 0 = some ((zcv (zhS l)).map zfF) := by simpa using h1
 rw [h2, sb, zwL ⟨by simp; omega, fun m hm => ?_⟩, sb]
 ·show some (zjN ((zph l).map zfF)) = _
  rw [zBZ (zxO l) (by omega)]
  congr 1
  have h3 : (zcv (zhS l)).all zbB = l.all zbB := by
   rw [Bool.eq_iff_iff, List.all_eq_true, List.all_eq_true]
   exact ⟨fun h x hx => h x ((zqd l x).2 hx), fun h x hx => h x ((zqd l x).1 hx)⟩
  have h4 := zAT l
  rw [show (zph l).all zbB = l.all zbB from h3]
  congr 1
  have h5 : (zcv (zhS l)).length = 0 ↔ l.length = 0 := h4
  rw [Bool.eq_iff_iff]
  simp only [decide_eq_true_eq]
  omega
 ·obtain ⟨x, hxm, rfl⟩ := List.mem_map.1 hm
  exact ⟨hx x ((zqd l x).1 hxm), by simp [zfF], fun f hf => by cases hf⟩
theorem ztl : ∀ (l acc : List (List UInt8)), acc.length ≤ 65 → ∃ j, go12 (fun s x => zeC s x) l acc = some (if acc.length + l.length ≤ 65 then .inl (acc ++ l) else .inr j)
 | [], acc, h => ⟨[], by rw [go12, if_pos (by simpa using h)]; simp⟩
 | x :: l, acc, h => by
  by_cases h65 : acc.length = 65
  ·refine ⟨acc, ?_⟩
   have hb : zeC acc x = some (.inr acc) := by
    unfold zeC
    rw [itT (by simp [h65])]
   rw [go12, hb, if_neg (by simp; omega)]
  ·have hb : zeC acc x = some (.inl (acc ++ [x])) := by
    unfold zeC
    rw [itF (by simp; omega), zeG (by simp; omega), sb]
   obtain ⟨j, hj⟩ := ztl l (acc ++ [x]) (by simp; omega)
   refine ⟨j, ?_⟩
   rw [go12, hb]
   simp only
   rw [hj]
   have e : (acc ++ [x]).length + l.length = acc.length + (x :: l).length := by simp; omega
   rw [e, List.append_assoc]
   rfl
theorem zzy {p : List UInt8} (hp : p.length ≤ 140737488351232) : zku p = some (if (zgj p).2 then ((zgj p).1, 0) else ([], 12)) := by
 unfold zku zhx zhy
 rw [sb, sb]
 obtain ⟨j, hj⟩ := ztl (zcT p) [] (by simp)
 rw [zvn (by omega) hj, sb]
 have hne : 1 ≤ (zcT p).length := by
  have := zqv p
  cases h : zcT p with
  | nil => exact absurd h this
  | cons x l => simp
 by_cases h65 : (zcT p).length ≤ 65
 ·rw [if_pos (by simpa using h65)]
  simp only [List.nil_append]
  rw [zrh (by omega) (fun x hx => by have := zzF p x hx; omega), sb]
  unfold zgj
  cases ha : (zcT p).all zbB
  ·rfl
  ·simp only [Bool.true_and, hne, h65, decide_true, if_true] <;> rfl
 ·rw [if_neg (by simpa using h65)]
  unfold zgj
  rw [if_neg (by simp [h65])]
theorem zyv : ∀ l : List (List UInt8), ([46] : List UInt8).intercalate l = zgA l
 | [] => rfl
 | [x] => by simp [List.intercalate, zgA]
 | x :: y :: l => by
  have := zyv (y :: l)
  rw [zgA, ← this]
  simp [List.intercalate, List.intersperse]
theorem zrn : ∀ (l : List (List UInt8)) (m : Nat), (∀ x ∈ l, x.length ≤ m) → (zgA l).length ≤ l.length * (m + 1)
 | [], m, _ => by simp [zgA]
 | [x], m, h => by have := h x List.mem_cons_self; simp [zgA]; omega
 | x :: y :: l, m, h => by
  have h1 := h x List.mem_cons_self
  have h2 := zrn (y :: l) m (fun z hz => h z (List.mem_cons_of_mem _ hz))
  rw [zgA]
  simp only [List.length_append, List.length_cons, Nat.add_mul] at h2 ⊢
  omega
theorem zAY {l : List (List UInt8)} (hl : l.length * 16 ≤ 140737488351232) (hx : ∀ x ∈ l, x.length ≤ 140737488351232) : zlM l = some (if zkc l then (zgA l, 0) else ([], 12)) := by
 unfold zlM
 by_cases h65 : l.length ≤ 65
 ·rw [itF (by simp; omega), zrh (by omega) hx, sb, sb]
  have hn : zkc l = (l.all zbB && decide (1 ≤ l.length)) := by
   unfold zkc
   congr 1
   simp [h65]
  rw [← hn]
  cases h : zkc l with
  | false => rfl
  | true =>
   rw [itF (c := !true) rfl, if_pos rfl]
   have hs : ∀ x ∈ l, x.length ≤ 60 := fun x hx => by
    unfold zkc at h
    simp only [Bool.and_eq_true, List.all_eq_true] at h
    have h1 := h.1 x hx
    unfold zbB at h1
    simp only [Bool.and_eq_true, decide_eq_true_eq] at h1
    exact h1.2.2
   have hj := zrn l 60 hs
   have : l.length * 61 ≤ 65 * 61 := Nat.mul_le_mul_right _ h65
   unfold strings_Join zyy
   rw [zyv, if_pos ⟨by omega, by omega⟩, sb]
 ·rw [itT (by simp; omega), sb, itT (c := true) rfl]
  have : zkc l = false := by
   unfold zkc
   simp [h65]
  rw [this]; rfl
end Go.Proofs.YtglkepeofhonlaaGreatDoor
namespace Go.Proofs.YtglkepeofhonlaaGreatDoor
open Go
set_option linter.unusedVariables false
theorem zBB (x y : Int) : zgl x y = some (if x < y then -1 else if y < x then 1 else 0) := by
 unfold zgl zha
 rw [sb, sb, itF (by simp), itF (by simp)]
 by_cases h : x < y
 ·rw [itT (by simpa using h), if_pos h]
 ·rw [itF (by simpa using h), if_neg h]
  by_cases h2 : y < x
  ·rw [itT (by simpa using h2), if_pos h2]
  ·rw [itF (by simpa using h2), if_neg h2]
theorem zxp {a b : zm} (ha : a.length ≤ 1152921504606846976) : zcS a b = some (lexI a b) := by
 have key : ∀ (d i : Nat), i + d = a.length → i ≤ b.length → ∃ r, zbO a b i = some r ∧ (match r with | .inl _ => (if (a.length : Int) < (b.length : Int) then -1 else 0) | .inr x => x) = lexI (a.drop i) (b.drop i) := by
  intro d
  induction d with
  | zero =>
   intro i hi hib
   refine ⟨.inl (), zcD ?_, ?_⟩
   ·unfold zZ
    rw [itF (by simp; omega)]
   ·rw [List.drop_eq_nil_of_le (show a.length ≤ i by omega)]
    cases hb : b.drop i with
    | nil =>
     have := congrArg List.length hb
     simp at this
     rw [lexI]; simp only; rw [if_neg (by omega)]
    | cons y l =>
     have := congrArg List.length hb
     simp at this
     rw [lexI]; simp only; rw [if_pos (by omega)]
  | succ d ih =>
   intro i hi hib
   have hia : i < a.length := by omega
   by_cases hlt : i < b.length
   ·have hb : zZ a b i = if (if a[i] < b[i] then (-1 : Int) else if b[i] < a[i] then 1 else 0) = 0 then some (.inl ((i + 1 : Nat) : Int)) else some (.inr (.inr (if a[i] < b[i] then (-1 : Int) else if b[i] < a[i] then 1 else 0))) := by
     unfold zZ
     rw [itT (by simp; omega), zE rfl hia, sb, itF (by simp; omega), zE rfl hlt, sb, zBB, sb, zy (by omega)]
     by_cases h0 : (if a[i] < b[i] then (-1 : Int) else if b[i] < a[i] then 1 else 0) = 0
     ·rw [itF (by simp [h0]), if_pos h0]; push_cast; rfl
     ·rw [itT (by simpa using h0), if_neg h0]
    rw [List.drop_eq_getElem_cons hia, List.drop_eq_getElem_cons hlt, lexI]
    by_cases h1 : a[i] < b[i]
    ·rw [if_pos h1] at hb ⊢
     rw [if_neg (by decide)] at hb
     exact ⟨_, zcD hb, rfl⟩
    ·by_cases h2 : b[i] < a[i]
     ·rw [if_neg h1, if_pos h2] at hb ⊢
      rw [if_neg (by decide)] at hb
      exact ⟨_, zcD hb, rfl⟩
     ·rw [if_neg h1, if_neg h2] at hb ⊢
      rw [if_pos rfl] at hb
      obtain ⟨r, k1, k2⟩ := ih (i + 1) (by omega) (by omega)
      exact ⟨r, by rw [ziN hb]; exact k1, k2⟩
   ·refine ⟨.inr 1, zcD ?_, ?_⟩
    ·unfold zZ
     rw [itT (by simp; omega), zE rfl hia, sb, itT (by simp; omega)]
    ·rw [List.drop_eq_getElem_cons hia, List.drop_eq_nil_of_le (show b.length ≤ i by omega)]; rfl
 obtain ⟨r, h1, h2⟩ := key a.length 0 (by omega) (by omega)
 have h1' : zbO a b 0 = some r := h1
 rw [List.drop_zero, List.drop_zero] at h2
 unfold zcS
 rw [h1', sb]
 cases r with
 | inl _ =>
  simp only at h2 ⊢
  by_cases hl : (a.length : Int) < (b.length : Int)
  ·rw [if_pos hl] at h2; rw [itT (by simpa using hl), h2]
  ·rw [if_neg hl] at h2; rw [itF (by simpa using hl), h2]
 | inr x => simp only at h2 ⊢; rw [h2]
theorem zyX {a b : zm} (ha : a.length ≤ 1152921504606846976) : zdB a b = some (decide (a = b)) := by
 unfold zdB
 by_cases hl : a.length = b.length
 ·rw [itF (by simp [hl])]
  have key : ∀ (d i : Nat), i + d = a.length → zca a b i = some (if a.drop i = b.drop i then .inl () else .inr ()) := by
   intro d
   induction d with
   | zero =>
    intro i hi
    rw [List.drop_eq_nil_of_le (show a.length ≤ i by omega), List.drop_eq_nil_of_le (show b.length ≤ i by omega), if_pos rfl]
    refine zgu ?_
    unfold zaj
    rw [itF (by simp; omega)]
   | succ d ih =>
    intro i hi
    have hia : i < a.length := by omega
    have hib : i < b.length := by omega
    rw [List.drop_eq_getElem_cons hia, List.drop_eq_getElem_cons hib]
    by_cases he : a[i] = b[i]
    ·have hb : zaj a b i = some (.inl ((i + 1 : Nat) : Int)) := by
      unfold zaj
      rw [itT (by simp; omega), zE rfl hia, sb, zE rfl hib, sb, itF (by simp [he]), zy (by omega)]
      push_cast; rfl
     rw [zjc hb, ih (i + 1) (by omega)]
     by_cases h : a.drop (i + 1) = b.drop (i + 1)
     ·rw [if_pos h, if_pos (by rw [he, h])]
     ·rw [if_neg h, if_neg (fun e => h (by injection e))]
    ·rw [if_neg (fun e => he (by injection e))]
     refine zgu ?_
     unfold zaj
     rw [itT (by simp; omega), zE rfl hia, sb, zE rfl hib, sb, itT (by simp [he])]
  have h := key a.length 0 (by omega)
  have h' : zca a b 0 = _ := h
  rw [h', sb, List.drop_zero, List.drop_zero]
  by_cases he : a = b
  ·rw [if_pos he]; simp [he]
  ·rw [if_neg he]; simp [he]
 ·rw [itT (by simp; omega)]
  have : a ≠ b := fun e => hl (by rw [e])
  simp [this]
theorem zyF {way other : zm} (h : way.length ≤ 1152921504606846976) : zkf way other = some (!other.isEmpty && begB way other) := by
 unfold zkf
 cases other with
 | nil => rw [itF (by simp), sb]; rfl
 | cons y l =>
  rw [itT (by simp <;> omega)]
  by_cases hl : (y :: l).length ≤ way.length
  ·rw [itT (by simp at hl ⊢; omega), znm rfl hl, sb, zyX (by rw [List.length_take]; omega), sb, sb]
   congr 1
   rw [List.isEmpty_cons, Bool.not_false, Bool.true_and, Bool.eq_iff_iff, ziC, decide_eq_true_eq, List.prefix_iff_eq_take]
   exact ⟨fun h => h.symm, fun h => h.symm⟩
  ·rw [itF (by simp at hl ⊢; omega), sb]
   congr 1
   rw [List.isEmpty_cons, Bool.not_false, Bool.true_and]
   symm
   rw [← Bool.not_eq_true, ziC]
   exact fun hp => hl hp.length_le
theorem zyT {a : zm} (h : a.length ≤ 17592186043904) : zdA a = some a := by
 unfold zdA
 have h1 : (app 8 ([] : zm) a >>= fun v => some v) = some a := by rw [zeG (by simp; omega), sb, List.nil_append]
 cases a with
 | nil => exact zvw rfl h1
 | cons => exact h1
theorem zyU {a : List zm} (h : a.length ≤ 5864062014634) : zcC a = some a := by
 unfold zcC
 have h1 : (app 24 ([] : List zm) a >>= fun v => some v) = some a := by rw [zeG (by simp; omega), sb, List.nil_append]
 cases a with
 | nil => exact zvw rfl h1
 | cons => exact h1
theorem zqs {α : Type} (l : List α) (m : Nat) (d x : α) : (l ++ List.replicate (m + 1) d).set l.length x = (l ++ [x]) ++ List.replicate m d := by
 rw [List.set_append_right _ _ (Nat.le_refl _), Nat.sub_self, List.replicate_succ, List.set_cons_zero, List.append_assoc]; rfl
theorem zvN {ways : List zm} (hw : WW ways) : ∀ (t : List zm) (k : Nat), ways.drop k = t → k ≤ ways.length → zgn ways (ways.take k ++ List.replicate (ways.length - k) []) k = some ways := by
 have hl := hw.1
 intro t
 induction t with
 | nil =>
  intro k hd hk
  have := zaU hd
  obtain rfl : k = ways.length := by omega
  rw [List.take_length, Nat.sub_self, List.replicate_zero, List.append_nil]
  refine zpa ?_
  unfold zdj
  rw [itF (by simp)]
 | cons x t ih =>
  intro k hd hk
  obtain ⟨hlt, hx, hd'⟩ := zav hd
  have hln : (ways.take k).length = k := by rw [List.length_take]; omega
  have hxl := hw.2 x (hx ▸ List.getElem_mem hlt)
  refine (zoZ (l' := ways.take (k + 1) ++ List.replicate (ways.length - (k + 1)) []) (v2' := ((k + 1 : Nat) : Int)) ?_).trans (ih (k + 1) hd' (by omega))
  unfold zdj
  rw [itT (by simp; omega), zE rfl hlt, sb, hx, zyT hxl, sb, zE rfl (show k < _ by rw [List.length_append, List.length_replicate, hln]; omega), sb, zy (by omega), Int.toNat_natCast]
  have e := zqs (ways.take k) (ways.length - (k + 1)) ([] : zm) x
  rw [hln, show ways.length - (k + 1) + 1 = ways.length - k by omega] at e
  rw [e, List.take_succ_eq_append_getElem hlt, hx]
  push_cast; rfl
theorem ztO {ways : List zm} (hw : WW ways) : zis ways = some ways := by
 have hl := hw.1
 unfold zis
 rw [zpf (a := ways.length) rfl (Int.le_refl _) (by omega), sb]
 have h := zvN hw ways 0 rfl (Nat.zero_le _)
 rw [List.take_zero, List.nil_append, Nat.sub_zero] at h
 have h' : zgn ways (List.replicate ways.length []) 0 = _ := h
 rw [h', sb]
theorem zwf {ways : List zm} (hw : WW ways) : ∀ (t : List zm) (k : Nat) (last : zm), ways.drop k = t → last.length ≤ 17592186043904 → zgp ways last k = some (if ziR last t = true then .inl () else .inr ()) := by
 have hl := hw.1
 intro t
 induction t with
 | nil =>
  intro k last hd _
  have := zaU hd
  rw [ziR, if_pos rfl]
  refine zkr ?_
  unfold zcH
  rw [itF (by simp; omega)]
 | cons x t ih =>
  intro k last hd hll
  obtain ⟨hlt, hx, hd'⟩ := zav hd
  have hxl := hw.2 x (hx ▸ List.getElem_mem hlt)
  have hb : zcH ways last k = if zuw last x then some (.inr (.inr ())) else some (.inl (x, ((k + 1 : Nat) : Int))) := by
   unfold zcH
   rw [itT (by simp; omega), zE rfl hlt, sb, hx, zxp (by omega), sb, zy (by omega)]
   unfold zuw
   by_cases h0 : 0 ≤ lexI last x
   ·rw [itT (by simpa using h0), sb, itT rfl, decide_eq_true h0]; rfl
   ·rw [itF (by simpa using h0), zyF (by omega), sb, sb, decide_eq_false h0, Bool.false_or]
    cases (!last.isEmpty && begB x last) with
    | true => rfl
    | false => rw [itF rfl]; push_cast; rfl
  rw [ziR]
  cases hs : zuw last x with
  | true =>
   rw [hs] at hb
   rw [if_neg (by simp)]
   exact zkr hb
  | false =>
   rw [hs] at hb
   rw [Bool.not_false, Bool.true_and, zpb hb]
   exact ih (k + 1) x hd' hxl
theorem ztY {ways : List zm} (hw : WW ways) : zit ways = some (decide (ofW ways = ways)) := by
 have h := zwf hw ways 0 [] rfl (by simp)
 have h' : zgp ways [] 0 = _ := h
 unfold zit
 rw [h', sb]
 by_cases hc : ziR [] ways = true
 ·rw [if_pos hc]; simp only; rw [decide_eq_true (ztL.1 hc)]
 ·rw [if_neg hc]; simp only; rw [decide_eq_false (fun e => hc (ztL.2 e))]
theorem zyb {σ ρ : Type} {kb : σ → zm → Option (σ ⊕ ρ)} {v : List zm} (hv : v.length ≤ 1152921504606846976) : ∀ (l : List zm) (i : Nat) (s : σ) (o : σ ⊕ ρ), v.drop i = l → go12 kb l s = some o →
  zbh (rnd kb) v (i : Int) (.inl s) = some (match o with | .inl s' => .inl (.inl s') | .inr r => .inr (.inr r)) := by
 intro l
 induction l with
 | nil =>
  intro i s o hd h
  cases h
  have := zaU hd
  refine zeP ?_
  unfold zT
  rw [itF (by simp; omega)]
 | cons x l ih =>
  intro i s o hd h
  obtain ⟨hk, hx, hd'⟩ := zav hd
  rw [go12] at h
  cases hb : kb s x with
  | none => rw [hb] at h; cases h
  | some q =>
   rw [hb] at h
   cases q with
   | inl s' =>
    refine (zhw (v2' := ((i + 1 : Nat) : Int)) (sg2' := .inl s') ?_).trans (ih (i + 1) s' o hd' h)
    unfold zT
    rw [itT (by simp; omega), zE rfl hk, sb, hx, zsZ hb, sb, itF (c := !true) rfl, zy (by omega)]
    push_cast; rfl
   | inr r =>
    cases h
    refine zeP ?_
    unfold zT
    rw [itT (by simp; omega), zE rfl hk, sb, hx, zta hb, sb, itT (c := !false) rfl]
theorem zDn {σ ρ : Type} {kb : σ → zm → Option (σ ⊕ ρ)} {v : List zm} (hv : v.length ≤ 1152921504606846976) {s : σ} {o : σ ⊕ ρ} (h : go12 kb v s = some o) : zbe v (rnd kb) (.inl s) = some o := by
 have h1 := zyb hv v 0 s o rfl h
 have h2 : zbh (rnd kb) v 0 (.inl s) = _ := h1
 unfold zbe
 rw [h2, sb]
 cases o <;> rfl
theorem ztI : ∀ (l acc : List zm), acc.length + l.length ≤ 5864062014634 → go12 (fun s x => zB s x) l acc = some (.inl (acc ++ l))
 | [], acc, _ => by simp [go12]
 | x :: l, acc, h => by
  simp only [List.length_cons] at h
  have hb : zB acc x = some (.inl (acc ++ [x])) := by
   unfold zB
   rw [zeG (by simp; omega), sb]
  rw [go12, hb]
  simp only
  rw [ztI l (acc ++ [x]) (by simp; omega), List.append_assoc]
  rfl
theorem zxW {l : List zm} (hw : WW l) : zG l = some (zlb l) := by
 have hl := hw.1
 unfold zG zaG zal zbg zvm
 rw [zDn (by omega) (ztI l [] (by simpa using hl)), sb]
 simp only [List.nil_append]
 rw [sb, sb, if_pos ⟨by omega, List.all_eq_true.2 fun x hx => by have := hw.2 x hx; simp; omega⟩, sb]
def sumW (l : List zm) : Nat := (l.map List.length).sum
theorem zrd (x : zm) (l : List zm) : sumW (x :: l) = x.length + sumW l := by unfold sumW; simp
theorem zzH {a b : List zm} (h : a.Perm b) : sumW a = sumW b := (h.map List.length).sum_nat
theorem ztP {t : zmE} {A : List zm} {P : List (zm × Int)} (h : zmG t A P) {way : zm} (hl : way.length ≤ 1152921504606846976) : zeQ t way = some (hasB A way) := by
 have key : ∀ (d k : Nat) (i : Int), k + d = way.length → (way.take k, i) ∈ P → ∃ q, zev t way i k = some q ∧ (match q with | .inl _ => false | .inr b => b) = hasB A way := by
  intro d
  induction d with
  | zero =>
   intro k i hk hp
   refine ⟨.inl (), zgF ?_, ?_⟩
   ·unfold zbd
    rw [itF (by simp; omega)]
   ·rw [List.take_of_length_le (by omega)] at hp
    rw [zBo h hp]
  | succ d ih =>
   intro k i hk hp
   have hlt : k < way.length := by omega
   have hq : way.take k ++ [way[k]] = way.take (k + 1) := (List.take_succ_eq_append_getElem hlt).symm
   have hpre : way.take k ++ [way[k]] <+: way := by rw [hq]; exact List.take_prefix _ _
   by_cases hA : way.take k ++ [way[k]] ∈ A
   ·have hg := h.1.leaf _ hp way[k] hA
    simp only at hg
    refine ⟨.inr true, zgF ?_, (zzJ hpre (fun e => absurd (List.append_eq_nil_iff.1 e).2 (by simp)) hA).symm⟩
    unfold zbd
    rw [itT (by simp; omega), zE rfl hlt, sb, hg, itF (by rfl), itT (by rfl)]
   ·by_cases hP : ∃ j, (way.take k ++ [way[k]], j) ∈ P
    ·obtain ⟨j, hj⟩ := hP
     have hg := h.1.node _ hp way[k] _ hj rfl
     have hid := h.1.ids _ hj
     simp only at hg hid
     have hb : zbd t way i k = some (.inl (j, ((k + 1 : Nat) : Int))) := by
      unfold zbd
      rw [itT (by simp; omega), zE rfl hlt, sb, hg, itF (by rfl), itF (by simp <;> omega), zy (by omega)]
      push_cast; rfl
     rw [zmt hb]
     exact ih (k + 1) j (by omega) (by rw [← hq]; exact hj)
    ·have hno : ∀ q ∈ P, q.1 ≠ way.take k ++ [way[k]] := fun q hq e => hP ⟨q.2, by rw [← e]; exact hq⟩
     have hg := h.1.none _ hp way[k] hA hno
     simp only at hg
     refine ⟨.inr false, zgF ?_, (zzK h hp hpre hA hno).symm⟩
     unfold zbd
     rw [itT (by simp; omega), zE rfl hlt, sb, hg, itT (by rfl)]
 obtain ⟨q, h1, h2⟩ := key way.length 0 0 (by omega) (by rw [List.take_zero]; exact h.1.root)
 have h1' : zev t way 0 0 = some q := h1
 unfold zeQ
 rw [h1', sb, ← h2]
 cases q <;> rfl
theorem zzR {t : zmE} {A : List zm} {P : List (zm × Int)} (h : zmG t A P) {way : zm} (hn : way ≠ []) (hf : ∀ a ∈ A, ¬ way <+: a) (hb : ∀ a ∈ A, ¬ a <+: way) (hl : t.length + way.length ≤ 4611686018427387904) :
  ∃ t' P', zht t way = some t' ∧ zmG t' (A ++ [way]) P' ∧ t'.length ≤ t.length + way.length := by
 have key : ∀ (d k : Nat) (t1 : zmE) (P1 : List (zm × Int)) (i f f2 : Int), k + d = way.length → Trie t1 A P1 → (way.take k, i) ∈ P1 → t1.length ≤ t.length + k →
   (∀ r ∈ P1, r.1 = [] ∨ (∃ a ∈ A, r.1 <+: a ∧ r.1 ≠ a) ∨ r.1 <+: way) → (k = 0 ∨ ∃ (p : zm) (j n : Int), (p, j) ∈ P1 ∧ p ++ [n] = way.take k ∧ f = j ∧ f2 = n) →
   ∃ t2 P2 p j n i2, zfM way t1 i k f f2 = some (t2, j, n) ∧ Trie t2 A P2 ∧ (p, j) ∈ P2 ∧ p ++ [n] = way ∧ (way, i2) ∈ P2 ∧ t2.length ≤ t.length + way.length ∧ ∀ r ∈ P2, r.1 = [] ∨ (∃ a ∈ A, r.1 <+: a ∧ r.1 ≠ a) ∨ r.1 <+: way := by
  intro d
  induction d with
  | zero =>
   intro k t1 P1 i f f2 hk ht hp hlen hx hlast
   obtain rfl : k = way.length := by omega
   rw [List.take_length] at hp hlast
   rcases hlast with h0 | ⟨p, j, n, h1, h2, rfl, rfl⟩
   ·exact absurd (List.eq_nil_of_length_eq_zero h0) hn
   ·refine ⟨t1, P1, p, f, f2, i, zoz ?_, ht, h1, h2, hp, hlen, hx⟩
    unfold zbN
    rw [itF (by simp)]
  | succ d ih =>
   intro k t1 P1 i f f2 hk ht hp hlen hx hlast
   have hlt : k < way.length := by omega
   have hq : way.take k ++ [way[k]] = way.take (k + 1) := (List.take_succ_eq_append_getElem hlt).symm
   have hpre : way.take k ++ [way[k]] <+: way := by rw [hq]; exact List.take_prefix _ _
   have hA : way.take k ++ [way[k]] ∉ A := fun ha => hb _ ha hpre
   by_cases hP : ∃ j, (way.take k ++ [way[k]], j) ∈ P1
   ·obtain ⟨j, hj⟩ := hP
    have hg := ht.node _ hp way[k] _ hj rfl
    simp only at hg
    have hbd : zbN way t1 i k f f2 = some (.inl (t1, j, ((k + 1 : Nat) : Int), i, way[k])) := by
     unfold zbN
     rw [itT (by simp; omega), zE rfl hlt, sb, hg, itF (by rfl), zy (by omega)]
     push_cast; rfl
    rw [zjU hbd]
    exact ih (k + 1) t1 P1 j i way[k] (by omega) ht (by rw [← hq]; exact hj) (by omega) hx (.inr ⟨way.take k, i, way[k], hp, hq, rfl, rfl⟩)
   ·have hno : ∀ q ∈ P1, q.1 ≠ way.take k ++ [way[k]] := fun q hq' e => hP ⟨q.2, by rw [← e]; exact hq'⟩
    have hg := ht.none _ hp way[k] hA hno
    simp only at hg
    have hw1 : IntKind.i64.wrap ((t1.length : Int) + 1) = ((t1.length + 1 : Nat) : Int) := by rw [zy (by omega)]; push_cast; rfl
    have hbd : zbN way t1 i k f f2 = some (.inl (mput t1 ⟨i, way[k]⟩ ((t1.length + 1 : Nat) : Int), ((t1.length + 1 : Nat) : Int), ((k + 1 : Nat) : Int), i, way[k])) := by
     unfold zbN
     rw [itT (by simp; omega), zE rfl hlt, sb, hg, itT (by rfl), hw1, zgT, if_pos rfl, zy (by omega)]
     push_cast; rfl
    rw [zjU hbd]
    refine ih (k + 1) _ _ _ i way[k] (by omega) (zBp ht hp hA hno) (List.mem_append_right _ (by rw [← hq]; exact List.mem_cons_self)) (by rw [zwx hg]; omega) (fun r hr => ?_) (.inr ⟨way.take k, i, way[k], List.mem_append_left _ hp, hq, rfl, rfl⟩)
    rcases List.mem_append.1 hr with hr | hr
    ·exact hx r hr
    ·simp only [List.mem_singleton] at hr
     rw [hr]; exact .inr (.inr hpre)
 obtain ⟨t2, P2, p, j, n, i2, h1, h2, h3, h4, h5, h6, h7⟩ := key way.length 0 t P 0 0 0 (by omega) h.1 (by rw [List.take_zero]; exact h.1.root) (by omega)
  (fun r hr => by rcases h.2 r hr with h0 | h0; exact .inl h0; exact .inr (.inl h0)) (.inl rfl)
 have h1' : zfM way t 0 0 0 0 = some (t2, j, n) := h1
 subst h4
 obtain ⟨e, ht⟩ := zzI h2 h3 h5 hf hb h7
 refine ⟨mput t2 ⟨j, n⟩ (-1), _, ?_, ht, by rw [e]; exact h6⟩
 unfold zht
 rw [h1', sb]
theorem zzu {l : List zm} (hl : l.length ≤ 5864062014634) (hx : ∀ w ∈ l, w.length ≤ 17592186043904) (hs : l.Pairwise fun a b => lexI a b ≤ 0) : ∀ (r : List zm) (k : Nat) (acc : List zm) (t : zmE) (P : List (zm × Int)), l.drop k = r → k ≤ l.length → Fo (l.take k) acc → acc.length ≤ k → zmG t acc P →
  t.length + sumW r ≤ 4611686018427387904 → ziV l acc t k = some (ofW l) := by
 intro r
 induction r with
 | nil =>
  intro k acc t P hd hk hfo hal ht hsum
  have := zaU hd
  obtain rfl : k = l.length := by omega
  rw [List.take_length] at hfo
  refine zsE ?_
  unfold zfu
  rw [itF (by simp), zCw hfo]
 | cons x r ih =>
  intro k acc t P hd hk hfo hal ht hsum
  obtain ⟨hlt, hxk, hd'⟩ := zav hd
  have hxm : x ∈ l := hxk ▸ List.getElem_mem hlt
  have hxl := hx x hxm
  rw [zrd] at hsum
  have hbe : ∀ a ∈ l.take k, lexI a x ≤ 0 := fun a ha => by
   obtain ⟨i, hi, rfl⟩ := List.getElem_of_mem ha
   rw [List.getElem_take, ← hxk]
   rw [List.length_take] at hi
   exact List.pairwise_iff_getElem.1 hs i k (by omega) hlt (by omega)
  have htk : l.take (k + 1) = l.take k ++ [x] := by rw [List.take_succ_eq_append_getElem hlt, hxk]
  have hstep := zBH hfo hbe
  rw [← htk] at hstep
  have hg : (if (decide ((x.length : Int) > 0)) = true then (zeQ t x >>= fun rv5 => some (!rv5)) else some false) = some (!x.isEmpty && !hasB acc x) := by
   cases x with
   | nil => rfl
   | cons y x' => rw [itT (by simp <;> omega), ztP ht (by omega), sb]; rfl
  unfold addL at hstep
  cases hc : (!x.isEmpty && !hasB acc x) with
  | true =>
   rw [hc, if_pos rfl] at hstep
   have hc' := hc
   simp only [Bool.and_eq_true, Bool.not_eq_true', List.isEmpty_eq_false_iff] at hc'
   have hb : ∀ a ∈ acc, ¬ a <+: x := fun a ha hp => by
    have := zbQ.2 ⟨a, ha, hfo.mask.full a ha, hp⟩
    rw [hc'.2] at this; cases this
   obtain ⟨t', P', h1, h2, h3⟩ := zzR ht hc'.1 (zyr hfo hbe hc'.2) hb (by omega)
   refine (znE (l' := acc ++ [x]) (t' := t') (v' := ((k + 1 : Nat) : Int)) ?_).trans (ih (k + 1) _ t' P' hd' (by omega) hstep (by simp; omega) h2 (by omega))
   unfold zfu
   rw [itT (by simp; omega), zE rfl hlt, sb, hxk, hg, sb, hc, itT rfl, h1, sb, zeG (by simp; omega), sb, zy (by omega)]
   push_cast; rfl
  | false =>
   rw [hc, if_neg (by simp)] at hstep
   refine (znE (l' := acc) (t' := t) (v' := ((k + 1 : Nat) : Int)) ?_).trans (ih (k + 1) _ t P hd' (by omega) hstep (by omega) ht (by omega))
   unfold zfu
   rw [itT (by simp; omega), zE rfl hlt, sb, hxk, hg, sb, hc, itF rfl, zy (by omega)]
   push_cast; rfl
def SW (w : List zm) : Prop := WW w ∧ sumW w ≤ 4611686018427387904
theorem zlr {w : List zm} (hw : SW w) : zgE w = some ⟨ofW w⟩ := by
 obtain ⟨hw, hsum⟩ := hw
 unfold zgE
 rw [ztY hw, sb]
 by_cases hm : ofW w = w
 ·rw [decide_eq_true hm, itT rfl, ztO hw, sb, hm]
 ·have hp := zpu w
  have hlen := hp.length_eq
  have hl := hw.1
  have h := zzu (l := zlb w) (by omega) (fun x hx => hw.2 x (hp.mem_iff.1 hx)) (zwP w) (zlb w) 0 [] [] _ rfl (Nat.zero_le _) zCv (Nat.zero_le _) zwV (by rw [zzH hp]; simpa using hsum)
  have h' : ziV (zlb w) [] [] 0 = _ := h
  rw [decide_eq_false hm, itF rfl]
  unfold zdo
  rw [sb, zxW hw, sb, h', sb, zAQ hp, ztO (znh hw), sb]
end Go.Proofs.YtglkepeofhonlaaGreatDoor
namespace Go.Proofs.YtglkepeofhonlaaGreatDoor
open Go
set_option linter.unusedVariables false
theorem zvE {m : Mes} (hm : m.Fields.length ≤ 140737488351232) (n : Int) : zgN m n = some (match m.Fields.findIdx? (fun f => f.Number == n) with | some i => ((i : Int), true) | none => (0, false)) := by
 unfold zgN zcE zas
 have h := zil (fun f : Fld => f.Number == n) m.Fields (fun i => zP m.Fields n i) (zbI (by unfold zq; rw [itF (by simp)])) (fun i hi => by
  by_cases hp : (m.Fields[i].Number == n) = true
  ·rw [if_pos hp]; exact zbI (by unfold zq zfW; rw [itT (by simp; omega), zE rfl hi, sb, sb, itT hp])
  ·rw [if_neg hp]; exact zdC (by unfold zq zfW; rw [itT (by simp; omega), zE rfl hi, sb, sb, itF (eq_false_of_ne_true hp), zy (by omega)]; rfl)) m.Fields.length 0 (by omega) (fun j _ h => by omega)
 have h' : zP m.Fields n 0 = _ := h
 rw [h', sb]
 cases m.Fields.findIdx? (fun f : Fld => f.Number == n) with
 | none => rfl
 | some i => simp [sb]; omega
theorem zyS {m : Mes} (hm : m.Fields.length ≤ 140737488351232) (n : Str) : zhP m n = some (match m.Fields.findIdx? (fun f => f.Name == n) with | some i => ((i : Int), true) | none => (0, false)) := by
 unfold zhP zcY zaz
 have h := zil (fun f : Fld => f.Name == n) m.Fields (fun i => zQ m.Fields n i) (zbM (by unfold zt; rw [itF (by simp)])) (fun i hi => by
  by_cases hp : (m.Fields[i].Name == n) = true
  ·rw [if_pos hp]; exact zbM (by unfold zt zgM; rw [itT (by simp; omega), zE rfl hi, sb, sb, itT hp])
  ·rw [if_neg hp]; exact zdF (by unfold zt zgM; rw [itT (by simp; omega), zE rfl hi, sb, sb, itF (eq_false_of_ne_true hp), zy (by omega)]; rfl)) m.Fields.length 0 (by omega) (fun j _ h => by omega)
 have h' : zQ m.Fields n 0 = _ := h
 rw [h', sb]
 cases m.Fields.findIdx? (fun f : Fld => f.Name == n) with
 | none => rfl
 | some i => simp [sb]; omega
end Go.Proofs.YtglkepeofhonlaaGreatDoor
namespace Go.Proofs.YtglkepeofhonlaaGreatDoor
open Go
set_option linter.unusedVariables false
theorem zvx {α : Type} (p : α → Bool) : ∀ l : List α, l.any p = (l.findIdx? p).isSome := fun l => by
 cases h : l.findIdx? p with
 | none =>
  rw [List.findIdx?_eq_none_iff] at h
  rw [Option.isSome_none, List.any_eq_false]
  intro x hx
  simp [h x hx]
 | some i =>
  rw [List.findIdx?_eq_some_iff_getElem] at h
  obtain ⟨hi, hp, _⟩ := h
  rw [Option.isSome_some, List.any_eq_true]
  exact ⟨_, List.getElem_mem hi, hp⟩
theorem zuB (x : zm) (n : Int) : zfU x n = some (x == [n]) := by
 unfold zfU
 match x with
 | [] => rfl
 | [y] =>
  rw [itT (by rfl), show idx [y] 0 = some y from rfl, sb, sb]
  congr 1
  simp
 | y :: z :: l =>
  rw [itF (by simp <;> omega), sb]
  congr 1
  simp
theorem zrg (m : List zm) (n : Int) : zie (ofW m) n = zie m n := by
 refine zrG ?_
 unfold zie
 simp only [List.any_eq_true, beq_iff_eq, exists_eq_right]
 rw [zgG]
 refine ⟨fun h => h.1, fun h => ⟨h, by simp, fun v hv hn hp => ?_⟩⟩
 have := hp.length_le
 exact zsX hp (by
  cases v with
  | nil => exact absurd rfl hn
  | cons => simp)
theorem zum {m : List zm} (n : Int) (hw : WW m) : zfK ⟨m⟩ n = some (zie (ofW m) n) := by
 have hl := hw.1
 unfold zfK zaH zaP
 have h := zil (fun v : zm => v == [n]) m (fun i => zV m n i) (zce (by unfold zu; rw [itF (by simp)])) (fun i hi => by
  by_cases hp : (m[i] == [n]) = true
  ·rw [if_pos hp]; exact zce (by unfold zu; rw [itT (by simp; omega), zE rfl hi, sb, zuB, sb, itT hp])
  ·rw [if_neg hp]; exact zeE (by unfold zu; rw [itT (by simp; omega), zE rfl hi, sb, zuB, sb, itF (eq_false_of_ne_true hp), zy (by omega)]; rfl)) m.length 0 (by omega) (fun j _ h => by omega)
 have h' : zV m n 0 = _ := h
 rw [h', sb, zrg]
 unfold zie
 rw [zvx]
 cases m.findIdx? (fun v : zm => v == [n]) with
 | none => rfl
 | some i => simp [sb]
theorem zkb {m : List zm} {way : zm} (hw : WW m) (hl : way.length ≤ 17592186044416) : zeI ⟨m⟩ way = some (hasB m way) := by
 have hm := hw.1
 have hlie : ∀ o : zm, zkq o way = some (!o.isEmpty && begB way o) := fun o => by unfold zkq; rw [zyF (by omega), sb]
 unfold zeI zbf zbt
 have h := zil (fun v : zm => !v.isEmpty && begB way v) m (fun i => zak m way i) (zcK (by unfold zA; rw [itF (by simp)])) (fun i hi => by
  by_cases hp : (!m[i].isEmpty && begB way m[i]) = true
  ·rw [if_pos hp]; exact zcK (by unfold zA; rw [itT (by simp; omega), zE rfl hi, sb, hlie, sb, itT hp])
  ·rw [if_neg hp]; exact zfx (by unfold zA; rw [itT (by simp; omega), zE rfl hi, sb, hlie, sb, itF (eq_false_of_ne_true hp), zy (by omega)]; rfl)) m.length 0 (by omega) (fun j _ h => by omega)
 have h' : zak m way 0 = _ := h
 rw [h', sb]
 unfold hasB
 rw [zvx]
 cases m.findIdx? (fun v : zm => !v.isEmpty && begB way v) with
 | none => rfl
 | some i => simp [sb]
theorem zCd {l : List zm} {a b : Nat} (h : l.length ≤ a) (k : ∀ w ∈ l, w.length ≤ b) : sumW l ≤ a * b := by
 have key : ∀ l : List zm, (∀ w ∈ l, w.length ≤ b) → sumW l ≤ l.length * b := by
  intro l
  induction l with
  | nil => intro _; simp [sumW]
  | cons x l ih =>
   intro k
   have := ih fun w hw => k w (List.mem_cons_of_mem _ hw)
   have := k x List.mem_cons_self
   rw [zrd, List.length_cons, Nat.succ_mul]
   omega
 exact Nat.le_trans (key l k) (Nat.mul_le_mul_right _ h)
def UW (w : List zm) : Prop := w.length ≤ 4194304 ∧ ∀ x ∈ w, x.length ≤ 4194304
theorem UW.ww {w : List zm} (h : UW w) : WW w := ⟨by have := h.1; omega, fun x hx => by have := h.2 x hx; omega⟩
theorem UW.sw {w : List zm} (h : UW w) : SW w := ⟨h.ww, Nat.le_trans (zCd h.1 h.2) (by decide)⟩
theorem UW.of {w : List zm} (h : UW w) : UW (ofW w) := ⟨Nat.le_trans (zjj w) h.1, fun x hx => h.2 x (zgG.1 hx).1⟩
theorem zsq {m : List zm} {n : Int} (h : zie m n = false) (v : zm) : hasB (zeY m n) v = hasB m (n :: v) := by
 refine zrG ?_
 rw [zbQ, zbQ]
 unfold zeY
 constructor
 ·rintro ⟨u, hu, hn, hp⟩
  obtain ⟨w, hw, hr⟩ := List.mem_filterMap.1 hu
  unfold zgd at hr
  split at hr
  ·split at hr
   ·rename_i e
    cases hr
    subst e
    exact ⟨_, hw, by simp, List.cons_prefix_cons.2 ⟨rfl, hp⟩⟩
   ·cases hr
  ·cases hr
 ·rintro ⟨w, hw, hn, hp⟩
  match w, hw, hn, hp with
  | [x], hw, _, hp1 =>
   have e := (List.cons_prefix_cons.1 hp1).1
   subst e
   exfalso
   rw [← Bool.not_eq_true] at h
   exact h (List.any_eq_true.2 ⟨[x], hw, by simp⟩)
  | x :: y :: t, hw, _, hp1 =>
   obtain ⟨e, hp2⟩ := List.cons_prefix_cons.1 hp1
   subst e
   exact ⟨y :: t, List.mem_filterMap.2 ⟨_, hw, by simp [zgd]⟩, by simp, hp2⟩
theorem znR {n : Int} {w u : zm} (h : zgd n w = some u) : u ≠ [] ∧ w = n :: u := by
 unfold zgd at h
 split at h
 ·split at h
  ·rename_i e; cases h; subst e; exact ⟨by simp, rfl⟩
  ·cases h
 ·cases h
theorem zww {m : List zm} (h : zjQ m) (n : Int) : zjQ (zeY m n) := by
 have mem : ∀ u, u ∈ zeY m n → u ≠ [] ∧ n :: u ∈ m := fun u hu => by
  obtain ⟨w, hw, hr⟩ := List.mem_filterMap.1 hu
  obtain ⟨h1, rfl⟩ := znR hr
  exact ⟨h1, hw⟩
 refine ⟨?_, fun u hu => (mem u hu).1, fun u hu v hv hp => ?_⟩
 ·unfold zeY
  refine List.Pairwise.filterMap (zgd n) (fun a b hab u hu v hv => ?_) h.sorted
  obtain ⟨_, rfl⟩ := znR hu
  obtain ⟨_, rfl⟩ := znR hv
  rw [zbG, if_pos rfl] at hab
  exact hab
 ·have := h.anti _ (mem u hu).2 _ (mem v hv).2 (List.cons_prefix_cons.2 ⟨rfl, hp⟩)
  injection this
theorem zwY {m : List zm} (h : zjQ m) {n : Int} (hw : zie m n = true) : zeY m n = [] := by
 obtain ⟨w, hwm, he⟩ := List.any_eq_true.1 hw
 have he : w = [n] := by simpa using he
 subst he
 unfold zeY
 rw [List.filterMap_eq_nil_iff]
 intro v hv
 unfold zgd
 split
 ·split
  ·rename_i e
   subst e
   have := h.anti _ hwm _ hv (List.cons_prefix_cons.2 ⟨rfl, List.nil_prefix⟩)
   cases this
  ·rfl
 ·rfl
theorem zwX {m : List zm} {n : Int} (h : zie m n = false) : ofW (zeY m n) = zeY (ofW m) n := by
 have hM := zww (zlK m) n
 rw [← hM.of]
 refine zkt fun v => ?_
 rw [zsq h, zsq (by rw [zrg]; exact h), zjh]
theorem zvr {m : List zm} (hw : WW m) (n : Int) : ∀ (t : List zm) (i : Nat) (out : List zm), m.drop i = t → out.length ≤ i → zeu ⟨m⟩ n out i = some (out ++ zeY t n) := by
 have hm := hw.1
 intro t
 induction t with
 | nil =>
  intro i out hd ho
  have := zaU hd
  refine (zmq (oo_ := out) ?_).trans ?_
  ·unfold zbH
   simp only
   rw [itF (by simp; omega)]
  ·simp [zeY]
 | cons x t ih =>
  intro i out hd ho
  obtain ⟨hi, hx, hd'⟩ := zav hd
  have hb : zbH ⟨m⟩ n out i = some (.inl ((match zgd n x with | some v => out ++ [v] | none => out), ((i + 1 : Nat) : Int))) := by
   unfold zbH
   simp only
   rw [itT (by simp; omega), zE rfl hi, sb, hx]
   match x with
   | [] => rw [itF (by simp), sb, itF rfl, zy (by omega)]; rfl
   | [y] => rw [itF (by simp), sb, itF rfl, zy (by omega)]; rfl
   | y :: z :: l =>
    have hr : zgd n (y :: z :: l) = if y = n then some (z :: l) else none := rfl
    have hcut : cut (y :: z :: l) 1 ((y :: z :: l).length : Int) = some (z :: l) := znl (xs := y :: z :: l) (a := 1) rfl rfl (by simp)
    rw [itT (by simp <;> omega), show idx (y :: z :: l) 0 = some y from rfl, sb, sb, hr]
    by_cases h : y = n
    ·rw [itT (by simpa using h), hcut, sb, zeG (by simp; omega), sb, zy (by omega), if_pos h]; rfl
    ·rw [itF (by simpa using h), zy (by omega), if_neg h]; rfl
  rw [zmp hb]
  unfold zeY at ih ⊢
  cases hr : zgd n x with
  | none => rw [List.filterMap_cons, hr]; exact ih (i + 1) out hd' (by omega)
  | some v => rw [List.filterMap_cons, hr]; simp only; rw [ih (i + 1) (out ++ [v]) hd' (by simp; omega), List.append_assoc]; rfl
theorem UW.under {w : List zm} (h : UW w) (n : Int) : UW (zeY w n) := ⟨Nat.le_trans (List.length_filterMap_le _ _) h.1, fun v hv => by
 obtain ⟨u, hu, he⟩ := List.mem_filterMap.1 hv
 have := h.2 u hu
 unfold zgd at he
 split at he
 ·split at he
  ·cases he; simp at this ⊢; omega
  ·cases he
 ·cases he⟩
theorem zzs {m : List zm} (n : Int) (hw : UW m) : zgJ ⟨m⟩ n = some (⟨zeY (ofW m) n⟩, decide (0 < (zeY (ofW m) n).length)) := by
 unfold zgJ
 rw [zum n hw.ww, sb]
 cases h : zie (ofW m) n with
 | true =>
  rw [itT rfl, zwY (zlK m) h]
  rfl
 | false =>
  rw [zrg] at h
  have hl := zvr hw.ww n m 0 [] rfl (Nat.le_refl _)
  have hl' : zeu ⟨m⟩ n [] 0 = _ := hl
  rw [itF rfl, hl', sb, List.nil_append, zlr (hw.under n).sw, sb, zwX h]
  congr 2
  have key : zeY m n = [] ↔ zeY (ofW m) n = [] := by
   rw [← zwX h]
   constructor
   ·intro e; rw [e]; rfl
   ·intro e
    cases hc : zeY m n with
    | nil => rfl
    | cons u l =>
     have hu : u ∈ zeY m n := by rw [hc]; exact List.mem_cons_self
     have hn : u ≠ [] := by
      obtain ⟨w, _, hr⟩ := List.mem_filterMap.1 hu
      unfold zgd at hr
      split at hr
      ·split at hr
       ·cases hr; simp
       ·cases hr
      ·cases hr
     have := zod hu hn
     rw [← zjh, e] at this
     cases this
  refine decide_eq_decide.2 ?_
  rw [← List.length_eq_zero_iff, ← List.length_eq_zero_iff] at key
  omega
theorem zAl {n : Nat} (h : n ≤ 5864062014634) : zcJ (n : Int) = some [] := by
 unfold zcJ
 have e : IntKind.i64.wrap ((n : Int) - IntKind.i64.wrap (0 - 0)) = n := by rw [zy (x := 0 - 0) (by omega), zy (by omega)]; omega
 rw [itF (by simp), e]
 by_cases h0 : (n : Int) > 0
 ·rw [itT (by simpa using h0), zpf (a := n) rfl (Int.le_refl _) (by omega), sb]
  have e0 : cut (List.replicate n ([] : zm)) 0 0 = some [] := znm (b := 0) rfl (Nat.zero_le _)
  rw [e0, sb]
 ·rw [itF (by simpa using h0)]
theorem zse {a b : List zm} (h : a.length + b.length ≤ 5864062014634) : zbP [a, b] = some (a ++ b) := by
 have b0 : ∀ s : Nat, s + a.length ≤ 5864062014634 → zM [a, b] s 0 = some (.inl (((s + a.length : Nat) : Int), 1)) := fun s hs => by
  unfold zM
  rw [itT (by simp), show idx [a, b] 0 = some a from rfl, sb]
  rw [zy (by omega), itF (by simp; omega), zy (by omega)]
  push_cast; rfl
 have b1 : ∀ s : Nat, s + b.length ≤ 5864062014634 → zM [a, b] s 1 = some (.inl (((s + b.length : Nat) : Int), 2)) := fun s hs => by
  unfold zM
  rw [itT (by simp), show idx [a, b] 1 = some b from rfl, sb]
  rw [zy (by omega), itF (by simp; omega), zy (by omega)]
  push_cast; rfl
 have l1 : zbT [a, b] 0 0 = some ((a.length + b.length : Nat) : Int) := by
  have e0 := b0 0 (by omega)
  rw [Nat.zero_add] at e0
  rw [zfb (show zM [a, b] 0 0 = _ from e0), zfb (b1 a.length (by omega))]
  refine zhQ ?_
  unfold zM
  rw [itF (by rfl)]
 have l2 : zbU [a, b] [] 0 = some (a ++ b) := by
  rw [zfc (newslice' := a) (v2' := 1) (by
   unfold zX
   rw [itT (by simp), show idx [a, b] 0 = some a from rfl, sb]
   rw [zeG (by simp; omega), sb, List.nil_append]; rfl), zfc (newslice' := a ++ b) (v2' := 2) (by
   unfold zX
   rw [itT (by simp), show idx [a, b] 1 = some b from rfl, sb]
   rw [zeG (by omega), sb]; rfl)]
  refine zhR ?_
  unfold zX
  rw [itF (by rfl)]
 unfold zbP
 rw [l1, sb, zAl h, sb, l2, sb]
theorem zqN {a b : List zm} (h : SW (a ++ b)) : zhf ⟨a⟩ ⟨b⟩ = some ⟨ofW (a ++ b)⟩ := by
 unfold zhf
 simp only
 rw [zse (by have := h.1.1; rw [List.length_append] at this; exact this), sb, zlr h, sb]
theorem zkQ {t : zmE} {A : List zm} {P : List (zm × Int)} (h : zmG t A P) {w : zm} (hl : w.length ≤ 1152921504606846976) : zgo w t = some (!hasB A w) := by
 unfold zgo
 rw [ztP h hl, sb]
theorem zyW {t : zmE} {A : List zm} {P : List (zm × Int)} (h : zmG t A P) {m : List zm} (hw : WW m) : zau m t = some (m.filter (hasB A)) := by
 have hm := hw.1
 have hxl : ∀ w ∈ m, w.length ≤ 1152921504606846976 := fun w hm => by have := hw.2 w hm; omega
 have hfind : zay m t = some (ziS (fun w => !hasB A w) m) := by
  unfold zay
  have h := zil (fun w : zm => !hasB A w) m (fun i => zaa m t i) (zcm (by unfold zx; rw [itF (by simp)])) (fun i hi => by
   have hx := hxl _ (List.getElem_mem hi)
   by_cases hp : (!hasB A m[i]) = true
   ·rw [if_pos hp]; exact zcm (by unfold zx; rw [itT (by simp; omega), zE rfl hi, sb, zkQ h hx, sb, itT hp])
   ·rw [if_neg hp]; exact zeR (by unfold zx; rw [itT (by simp; omega), zE rfl hi, sb, zkQ h hx, sb, itF (eq_false_of_ne_true hp), zy (by omega)]; rfl)) m.length 0 (by omega) (fun j _ h => by omega)
  have h' : zaa m t 0 = _ := h
  rw [h', sb]
  unfold ziS
  cases m.findIdx? (fun w : zm => !hasB A w) <;> rfl
 have loop : ∀ (r : List zm) (j : Nat) (xs : List zm) (i : Nat), m.drop j = r → j ≤ m.length → xs.length = m.length → xs.drop j = r → xs.take i = (m.take j).filter (hasB A) → i ≤ j →
   ∃ ys k, zap t xs i j = some (ys, ((k : Nat) : Int)) ∧ ys.length = m.length ∧ k ≤ m.length ∧ ys.take k = m.filter (hasB A) := by
  intro r
  induction r with
  | nil =>
   intro j xs i hd hj hl hxd hx hij
   have := zaU hd
   obtain rfl : j = m.length := by omega
   refine ⟨xs, i, zeM ?_, hl, hij, by rw [hx, List.take_length]⟩
   unfold zw
   rw [itF (by simp; omega)]
  | cons x r ih =>
   intro j xs i hd hj hl hxd hx hij
   obtain ⟨hlt, hxj, hd'⟩ := zav hd
   obtain ⟨hlt2, hxj2, hxd'⟩ := zav hxd
   have hxx := hxl x (hxj ▸ List.getElem_mem hlt)
   have htk : m.take (j + 1) = m.take j ++ [x] := by rw [List.take_succ_eq_append_getElem hlt, hxj]
   cases hc : hasB A x with
   | true =>
    have hil : i < xs.length := by omega
    refine Exists.imp (fun ys => Exists.imp fun k => And.imp_left fun hh => (zck (sv2' := xs.set i x) (i' := ((i + 1 : Nat) : Int)) (j' := ((j + 1 : Nat) : Int)) ?_).trans hh) (ih (j + 1) (xs.set i x) (i + 1) hd' (by omega) (by simpa using hl) (by rw [List.drop_set_of_lt (by omega)]; exact hxd') ?_ (by omega))
    ·unfold zw
     rw [itT (by simp; omega), zE rfl hlt2, sb, hxj2, zkQ h hxx, sb, hc, itT (by rfl), zE rfl hil, sb, zy (by omega), zy (by omega), Int.toNat_natCast]
     push_cast; rfl
    ·rw [htk, List.filter_append, ← hx, List.filter_cons, if_pos hc, List.filter_nil, List.take_succ_eq_append_getElem (by simpa using hil), List.take_set_of_le (Nat.le_refl _), List.getElem_set_self]
   | false =>
    refine Exists.imp (fun ys => Exists.imp fun k => And.imp_left fun hh => (zck (sv2' := xs) (i' := (i : Int)) (j' := ((j + 1 : Nat) : Int)) ?_).trans hh) (ih (j + 1) xs i hd' (by omega) hl hxd' ?_ (by omega))
    ·unfold zw
     rw [itT (by simp; omega), zE rfl hlt2, sb, hxj2, zkQ h hxx, sb, hc, itF (by rfl), zy (by omega)]
     push_cast; rfl
    ·rw [htk, List.filter_append, ← hx, List.filter_cons, if_neg (by simp [hc]), List.filter_nil, List.append_nil]
 unfold zau
 rw [hfind, sb]
 cases hf : m.findIdx? (fun w => !hasB A w) with
 | none =>
  rw [zim hf, itT (by rfl)]
  congr 1
  symm
  rw [List.filter_eq_self]
  intro w hwm
  rw [List.findIdx?_eq_none_iff] at hf
  simpa using hf w hwm
 | some i =>
  rw [zin hf, itF (by simp <;> omega)]
  rw [List.findIdx?_eq_some_iff_getElem] at hf
  obtain ⟨hi, hpi, hbe⟩ := hf
  have hpi : hasB A m[i] = false := by simpa using hpi
  have htk : (m.take (i + 1)).filter (hasB A) = m.take i := by
   rw [List.take_succ_eq_append_getElem hi, List.filter_append, List.filter_cons, if_neg (by simp [hpi]), List.filter_nil, List.append_nil, List.filter_eq_self]
   intro w hwm
   obtain ⟨q, hq, rfl⟩ := List.getElem_of_mem hwm
   rw [List.length_take] at hq
   rw [List.getElem_take]
   have := hbe q (by omega)
   simpa using this
  obtain ⟨ys, k, h1, h2, h3, h4⟩ := loop (m.drop (i + 1)) (i + 1) m i rfl (by omega) rfl rfl htk.symm (by omega)
  have hw1 : IntKind.i64.wrap ((i : Int) + 1) = ((i + 1 : Nat) : Int) := by rw [zy (by omega)]; push_cast; rfl
  rw [hw1, h1, sb]
  simp only
  rw [znl (a := k) rfl rfl (by omega), sb, Int.toNat_natCast, znm (b := k) rfl (by simp; omega), sb, List.take_append_of_le_length (by simp; omega), List.take_take, Nat.min_self, h4]
theorem zuK {o : List zm} (ho : zjQ o) (hl : o.length ≤ 5864062014634) : ∀ (r : List zm) (k : Nat) (t : zmE) (P : List (zm × Int)), o.drop k = r → k ≤ o.length → zmG t (o.take k) P → t.length + sumW r ≤ 4611686018427387904 →
  ∃ t' P', zfL ⟨o⟩ k t = some t' ∧ zmG t' o P' := by
 intro r
 induction r with
 | nil =>
  intro k t P hd hk ht _
  have := zaU hd
  obtain rfl : k = o.length := by omega
  rw [List.take_length] at ht
  refine ⟨t, P, zoy ?_, ht⟩
  unfold zcN
  simp only
  rw [itF (by simp)]
 | cons x r ih =>
  intro k t P hd hk ht hs
  obtain ⟨hlt, hx, hd'⟩ := zav hd
  rw [zrd] at hs
  have hxm : x ∈ o := hx ▸ List.getElem_mem hlt
  have hne : ∀ a ∈ o.take k, a ∈ o ∧ a ≠ x := fun a ha => by
   refine ⟨List.mem_of_mem_take ha, fun e => ?_⟩
   obtain ⟨i, hi, rfl⟩ := List.getElem_of_mem ha
   rw [List.length_take] at hi
   rw [List.getElem_take] at e
   have := List.pairwise_iff_getElem.1 ho.sorted i k (by omega) hlt (by omega)
   rw [e, hx, zhl] at this
   cases this
  obtain ⟨t', P', h1, h2, h3⟩ := zzR ht (ho.full x hxm) (fun a ha hp => (hne a ha).2 (ho.anti x hxm a (hne a ha).1 hp).symm) (fun a ha hp => (hne a ha).2 (ho.anti a (hne a ha).1 x hxm hp)) (by omega)
  obtain ⟨t2, P2, k1, k2⟩ := ih (k + 1) t' P' hd' (by omega) (by rw [List.take_succ_eq_append_getElem hlt, hx]; exact h2) (by omega)
  refine ⟨t2, P2, (zox (v' := ((k + 1 : Nat) : Int)) (f' := t') ?_).trans k1, k2⟩
  unfold zcN
  simp only
  rw [itT (by simp; omega), zE rfl hlt, sb, hx, h1, sb, zy (by omega)]
  push_cast; rfl
theorem zsf {m o : List zm} (hm : WW m) (ho : zjQ o) (hs : SW o) : zhr ⟨m⟩ ⟨o⟩ = some (m.filter (hasB o)) := by
 obtain ⟨t, P, h1, h2⟩ := zuK ho hs.1.1 o 0 [] _ rfl (Nat.zero_le _) zwV (by simpa using hs.2)
 have h1' : zfL ⟨o⟩ 0 [] = some t := h1
 unfold zhr
 rw [h1', sb]
 simp only
 rw [zyU hm.1, sb, zyW h2 hm, sb]
theorem UW.filter {w : List zm} (h : UW w) (p : zm → Bool) : UW (w.filter p) := ⟨Nat.le_trans (List.length_filter_le _ _) h.1, fun x hx => h.2 x (List.mem_filter.1 hx).1⟩
theorem zsH {a b : List zm} (ha : UW a) (hb : UW b) (hl : a.length + b.length ≤ 4194304) : zir ⟨a⟩ ⟨b⟩ = some ⟨zoL a b⟩ := by
 have la := zjj a
 have lb := zjj b
 have f1 := List.length_filter_le (hasB (ofW b)) (ofW a)
 have f2 := List.length_filter_le (hasB (ofW a)) (ofW b)
 have hU : UW (znH (ofW a) (ofW b)) := ⟨by unfold znH; rw [List.length_append]; omega, fun x hx => by
  rcases List.mem_append.1 hx with h | h
  ·exact (ha.of.filter _).2 x h
  ·exact (hb.of.filter _).2 x h⟩
 unfold zir
 simp only
 rw [zlr ha.sw, sb, zlr hb.sw, sb, zsf ha.of.ww (zlK b) hb.of.sw, sb, zsf hb.of.ww (zlK a) ha.of.sw, sb, zse (by omega), sb]
 have e : (ofW a).filter (hasB (ofW b)) ++ (ofW b).filter (hasB (ofW a)) = znH (ofW a) (ofW b) := rfl
 rw [e, zlr hU.sw, sb]
 congr 2
 exact zuZ a b
def flds {χ : Type} (fi : Mes → χ → Int) (s : List Mes) : Fld → List χ → Option (List Fld)
 | _, [] => some []
 | f, x :: l => if f.Kind ≠ 17 ∨ f.Repeated = true then none else if fi (zaN s f.Of) x < 0 then none
  else (flds fi s (zeZ (zaN s f.Of) (fi (zaN s f.Of) x)) l).map (zeZ (zaN s f.Of) (fi (zaN s f.Of) x) :: ·)
theorem zsm {χ : Type} {fi : Mes → χ → Int} {s : List Mes} : ∀ {l : List χ} {f : Fld} {r : List Fld}, flds fi s f l = some r → r.length = l.length
 | [], _, _, h => by cases h; rfl
 | x :: l, f, r, h => by
  rw [flds] at h
  split at h
  ·cases h
  ·split at h
   ·cases h
   ·rw [Option.map_eq_some_iff] at h
    obtain ⟨r', h1, rfl⟩ := h
    rw [List.length_cons, zsm h1]; rfl
theorem zuy {s : List Mes} : ∀ {l : List (List UInt8)} {f : Fld}, l ≠ [] → f.Kind = 17 → f.Repeated = false → wayS s l f.Of = (flds nmdI s f l).map fun r => r.map (·.Number)
 | [], _, h, _, _ => absurd rfl h
 | [nm], f, _, h1, h2 => by
  rw [wayS, flds, if_neg (show ¬ (f.Kind ≠ 17 ∨ f.Repeated = true) by rw [h1, h2]; simp)]
  by_cases h : nmdI (zaN s f.Of) nm < 0
  ·rw [if_pos h, if_pos h]; rfl
  ·rw [if_neg h, if_neg h, flds]; rfl
 | nm :: y :: l, f, _, h1, h2 => by
  rw [wayS, flds, if_neg (show ¬ (f.Kind ≠ 17 ∨ f.Repeated = true) by rw [h1, h2]; simp)]
  by_cases h : nmdI (zaN s f.Of) nm < 0
  ·rw [if_pos h, if_pos h]; rfl
  ·rw [if_neg h, if_neg h]
   by_cases hg : (zeZ (zaN s f.Of) (nmdI (zaN s f.Of) nm)).Repeated = true ∨ (zeZ (zaN s f.Of) (nmdI (zaN s f.Of) nm)).Kind ≠ 17
   ·rw [if_pos hg, flds, if_pos (hg.elim .inr .inl)]; rfl
   ·have hk : (zeZ (zaN s f.Of) (nmdI (zaN s f.Of) nm)).Kind = 17 := by
     by_cases hk : (zeZ (zaN s f.Of) (nmdI (zaN s f.Of) nm)).Kind = 17
     ·exact hk
     ·exact absurd (.inr hk) hg
    have hr : (zeZ (zaN s f.Of) (nmdI (zaN s f.Of) nm)).Repeated = false := by
     cases hr : (zeZ (zaN s f.Of) (nmdI (zaN s f.Of) nm)).Repeated with
     | false => rfl
     | true => exact absurd (.inl hr) hg
    rw [if_neg hg, zuy (by simp) hk hr]
    cases flds nmdI s (zeZ (zaN s f.Of) (nmdI (zaN s f.Of) nm)) (y :: l) <;> rfl
theorem zrr {s : List Mes} : ∀ {l : zm} {f : Fld}, f.Kind = 17 → f.Repeated = false → zgr s l f.Of = (flds fldI s f l).map fun r => r.map (·.Name)
 | [], _, _, _ => rfl
 | [n], f, h1, h2 => by
  rw [zgr, flds, if_neg (show ¬ (f.Kind ≠ 17 ∨ f.Repeated = true) by rw [h1, h2]; simp)]
  by_cases h : fldI (zaN s f.Of) n < 0
  ·rw [if_pos h, if_pos h]; rfl
  ·rw [if_neg h, if_neg h, flds]; rfl
 | n :: y :: l, f, h1, h2 => by
  rw [zgr, flds, if_neg (show ¬ (f.Kind ≠ 17 ∨ f.Repeated = true) by rw [h1, h2]; simp)]
  by_cases h : fldI (zaN s f.Of) n < 0
  ·rw [if_pos h, if_pos h]; rfl
  ·rw [if_neg h, if_neg h]
   by_cases hg : (zeZ (zaN s f.Of) (fldI (zaN s f.Of) n)).Repeated = true ∨ (zeZ (zaN s f.Of) (fldI (zaN s f.Of) n)).Kind ≠ 17
   ·rw [if_pos hg, flds, if_pos (hg.elim .inr .inl)]; rfl
   ·have hk : (zeZ (zaN s f.Of) (fldI (zaN s f.Of) n)).Kind = 17 := by
     by_cases hk : (zeZ (zaN s f.Of) (fldI (zaN s f.Of) n)).Kind = 17
     ·exact hk
     ·exact absurd (.inr hk) hg
    have hr : (zeZ (zaN s f.Of) (fldI (zaN s f.Of) n)).Repeated = false := by
     cases hr : (zeZ (zaN s f.Of) (fldI (zaN s f.Of) n)).Repeated with
     | false => rfl
     | true => exact absurd (.inl hr) hg
    rw [if_neg hg, zrr hk hr]
    cases flds fldI s (zeZ (zaN s f.Of) (fldI (zaN s f.Of) n)) (y :: l) <;> rfl
theorem zuN {s : List Mes} (hr : ziA s) {steps : List (List UInt8)} (hl : steps.length ≤ 1048576) : ∀ (t : List (List UInt8)) (k : Nat) (acc : List Fld) (f : Fld), steps.drop k = t → acc.length ≤ k → (f.Kind = 17 → 0 ≤ f.Of ∧ f.Of < s.length) →
  zaM steps s acc k f.Name f.Number f.Kind f.Repeated f.Packed f.Of = some (match flds nmdI s f t with | some r => .inl (acc ++ r) | none => .inr ()) := by
 intro t
 induction t with
 | nil =>
  intro k acc f hd ha hf
  have := zaU hd
  rw [flds]
  simp only [List.append_nil]
  refine zcl ?_
  unfold zF
  rw [itF (by simp; omega)]
 | cons x t ih =>
  intro k acc f hd ha hf
  obtain ⟨hlt, hx, hd'⟩ := zav hd
  rw [flds]
  by_cases hc : f.Kind ≠ 17 ∨ f.Repeated = true
  ·rw [if_pos hc]
   refine zcl ?_
   unfold zF
   rw [itT (by simp; omega), zE rfl hlt, sb, itT (by simpa using hc)]
  ·rw [if_neg hc]
   have hk : f.Kind = 17 := by
    by_cases hk : f.Kind = 17
    ·exact hk
    ·exact absurd (.inl hk) hc
   have hcr : f.Repeated = false := by
    cases hr' : f.Repeated with
    | false => rfl
    | true => exact absurd (.inr hr') hc
   obtain ⟨o1, o2⟩ := hf hk
   obtain ⟨q, hq⟩ : ∃ q : Nat, f.Of = q := ⟨f.Of.toNat, by omega⟩
   have hql : q < s.length := by omega
   have hmem : s[q] ∈ s := List.getElem_mem hql
   have hfew := hr.few _ hmem
   rw [hq, zjz hql]
   have hby := zyS (m := s[q]) (by omega) x
   unfold nmdI
   cases hi : s[q].Fields.findIdx? (fun g => g.Name == x) with
   | none =>
    rw [hi] at hby
    rw [zim hi, if_pos (show (-1 : Int) < 0 by decide)]
    refine zcl ?_
    unfold zF
    rw [itT (by simp; omega), zE rfl hlt, sb, itF (by simp [hk, hcr]), zE rfl hql, sb, hx, hby, sb, itT (by rfl)]
   | some i =>
    rw [hi] at hby
    have hil : i < s[q].Fields.length := by
     rw [List.findIdx?_eq_some_iff_getElem] at hi; exact hi.1
    have hfo := hr.fld _ hmem _ (List.getElem_mem hil)
    rw [zin hi, if_neg (by omega), zjs hil]
    have hb : zF steps s acc k f.Name f.Number f.Kind f.Repeated f.Packed q = some (.inl (acc ++ [s[q].Fields[i]], ((k + 1 : Nat) : Int), s[q].Fields[i].Name, s[q].Fields[i].Number, s[q].Fields[i].Kind, s[q].Fields[i].Repeated, s[q].Fields[i].Packed, s[q].Fields[i].Of)) := by
     unfold zF
     rw [itT (by simp; omega), zE rfl hlt, sb, itF (by simp [hk, hcr]), zE rfl hql, sb, hx, hby, sb, itF (by rfl), zE rfl hil, sb, zeG (by simp; omega), sb, zy (by omega)]
     push_cast; rfl
    rw [zgK hb, ih (k + 1) _ _ hd' (by simp; omega) hfo.sub]
    show _ = some (match (flds nmdI s s[q].Fields[i] t).map (s[q].Fields[i] :: ·) with | some r => Sum.inl (acc ++ r) | none => Sum.inr ())
    cases flds nmdI s s[q].Fields[i] t <;> simp
theorem zuM {s : List Mes} (hr : ziA s) {steps : zm} (hl : steps.length ≤ 1048576) : ∀ (t : zm) (k : Nat) (acc : List Fld) (f : Fld), steps.drop k = t → acc.length ≤ k → (f.Kind = 17 → 0 ≤ f.Of ∧ f.Of < s.length) →
  zaR steps s acc k f.Name f.Number f.Kind f.Repeated f.Packed f.Of = some (match flds fldI s f t with | some r => .inl (acc ++ r) | none => .inr ()) := by
 intro t
 induction t with
 | nil =>
  intro k acc f hd ha hf
  have := zaU hd
  rw [flds]
  simp only [List.append_nil]
  refine zcy ?_
  unfold zH
  rw [itF (by simp; omega)]
 | cons x t ih =>
  intro k acc f hd ha hf
  obtain ⟨hlt, hx, hd'⟩ := zav hd
  rw [flds]
  by_cases hc : f.Kind ≠ 17 ∨ f.Repeated = true
  ·rw [if_pos hc]
   refine zcy ?_
   unfold zH
   rw [itT (by simp; omega), zE rfl hlt, sb, itT (by simpa using hc)]
  ·rw [if_neg hc]
   have hk : f.Kind = 17 := by
    by_cases hk : f.Kind = 17
    ·exact hk
    ·exact absurd (.inl hk) hc
   have hcr : f.Repeated = false := by
    cases hr' : f.Repeated with
    | false => rfl
    | true => exact absurd (.inr hr') hc
   obtain ⟨o1, o2⟩ := hf hk
   obtain ⟨q, hq⟩ : ∃ q : Nat, f.Of = q := ⟨f.Of.toNat, by omega⟩
   have hql : q < s.length := by omega
   have hmem : s[q] ∈ s := List.getElem_mem hql
   have hfew := hr.few _ hmem
   rw [hq, zjz hql]
   have hby := zvE (m := s[q]) (by omega) x
   unfold fldI
   cases hi : s[q].Fields.findIdx? (fun g => g.Number == x) with
   | none =>
    rw [hi] at hby
    rw [zim hi, if_pos (show (-1 : Int) < 0 by decide)]
    refine zcy ?_
    unfold zH
    rw [itT (by simp; omega), zE rfl hlt, sb, itF (by simp [hk, hcr]), zE rfl hql, sb, hx, hby, sb, itT (by rfl)]
   | some i =>
    rw [hi] at hby
    have hil : i < s[q].Fields.length := by
     rw [List.findIdx?_eq_some_iff_getElem] at hi; exact hi.1
    have hfo := hr.fld _ hmem _ (List.getElem_mem hil)
    rw [zin hi, if_neg (by omega), zjs hil]
    have hb : zH steps s acc k f.Name f.Number f.Kind f.Repeated f.Packed q = some (.inl (acc ++ [s[q].Fields[i]], ((k + 1 : Nat) : Int), s[q].Fields[i].Name, s[q].Fields[i].Number, s[q].Fields[i].Kind, s[q].Fields[i].Repeated, s[q].Fields[i].Packed, s[q].Fields[i].Of)) := by
     unfold zH
     rw [itT (by simp; omega), zE rfl hlt, sb, itF (by simp [hk, hcr]), zE rfl hql, sb, hx, hby, sb, itF (by rfl), zE rfl hil, sb, zeG (by simp; omega), sb, zy (by omega)]
     push_cast; rfl
    rw [zgX hb, ih (k + 1) _ _ hd' (by simp; omega) hfo.sub]
    show _ = some (match (flds fldI s s[q].Fields[i] t).map (s[q].Fields[i] :: ·) with | some r => Sum.inl (acc ++ r) | none => Sum.inr ())
    cases flds fldI s s[q].Fields[i] t <;> simp
theorem zyc {r : List Fld × Bool} (hl : r.1.length ≤ 1048576) : ∀ (t : List Fld) (k : Nat), r.1.drop k = t → k ≤ r.1.length → zgS r ((r.1.take k).map (·.Number) ++ List.replicate (r.1.length - k) 0) k = some (r.1.map (·.Number)) := by
 intro t
 induction t with
 | nil =>
  intro k hd hk
  have := zaU hd
  obtain rfl : k = r.1.length := by omega
  rw [List.take_length, Nat.sub_self, List.replicate_zero, List.append_nil]
  refine zpZ ?_
  unfold zdG
  rw [itF (by simp)]
 | cons x t ih =>
  intro k hd hk
  obtain ⟨hlt, hx, hd'⟩ := zav hd
  have hln : ((r.1.take k).map (·.Number)).length = k := by rw [List.length_map, List.length_take]; omega
  refine (zpY (way' := (r.1.take (k + 1)).map (·.Number) ++ List.replicate (r.1.length - (k + 1)) 0) (v2' := ((k + 1 : Nat) : Int)) ?_).trans (ih (k + 1) hd' (by omega))
  unfold zdG
  rw [itT (by simp; omega), zE rfl hlt, sb, hx, zE rfl (show k < _ by rw [List.length_append, List.length_replicate, hln]; omega), sb, zy (by omega), Int.toNat_natCast]
  have e := zqs ((r.1.take k).map (·.Number)) (r.1.length - (k + 1)) (0 : Int) x.Number
  rw [hln, show r.1.length - (k + 1) + 1 = r.1.length - k by omega] at e
  rw [e, List.take_succ_eq_append_getElem hlt, hx, List.map_append]
  push_cast; rfl
theorem zwE {r : List Fld × Bool} (hl : r.1.length ≤ 1048576) : ∀ (t : List Fld) (k : Nat), r.1.drop k = t → k ≤ r.1.length → zgq r ((r.1.take k).map (·.Name) ++ List.replicate (r.1.length - k) []) k = some (r.1.map (·.Name)) := by
 intro t
 induction t with
 | nil =>
  intro k hd hk
  have := zaU hd
  obtain rfl : k = r.1.length := by omega
  rw [List.take_length, Nat.sub_self, List.replicate_zero, List.append_nil]
  refine zpd ?_
  unfold zdk
  rw [itF (by simp)]
 | cons x t ih =>
  intro k hd hk
  obtain ⟨hlt, hx, hd'⟩ := zav hd
  have hln : ((r.1.take k).map (·.Name)).length = k := by rw [List.length_map, List.length_take]; omega
  refine (zpc (names' := (r.1.take (k + 1)).map (·.Name) ++ List.replicate (r.1.length - (k + 1)) []) (v2' := ((k + 1 : Nat) : Int)) ?_).trans (ih (k + 1) hd' (by omega))
  unfold zdk
  rw [itT (by simp; omega), zE rfl hlt, sb, hx, zE rfl (show k < _ by rw [List.length_append, List.length_replicate, hln]; omega), sb, zy (by omega), Int.toNat_natCast]
  have e := zqs ((r.1.take k).map (·.Name)) (r.1.length - (k + 1)) ([] : List UInt8) x.Name
  rw [hln, show r.1.length - (k + 1) + 1 = r.1.length - k by omega] at e
  rw [e, List.take_succ_eq_append_getElem hlt, hx, List.map_append]
  push_cast; rfl
theorem zsD {s : List Mes} (hw : WS s) (root : Int) : ziX s root = some (zbX s root) := by
 unfold ziX zbX
 rw [zwL hw, sb]
 cases hr : zjN s with
 | false => rfl
 | true =>
  rw [itF (by rfl), if_neg (show ¬ (true = false) by simp)]
  by_cases h : root < 0 ∨ root ≥ s.length
  ·rw [if_pos h, itT (by simpa using h)]
  ·rw [if_neg h, itF (by rw [← Bool.not_eq_true]; simpa using h)]
theorem zxb {s : List Mes} (hr : ziA s) {k : Nat} (hk : k < s.length) {p : List UInt8} (hp : p.length ≤ 140737488351232) :
  zhZ s k p = some (if (zgj p).2 = false then (([] : zm), (10 : Int)) else match wayS s (zgj p).1 k with | some w => (w, 0) | none => ([], 10)) := by
 unfold zhZ
 rw [zzy hp, sb]
 cases h3 : (zgj p).2 with
 | false => rfl
 | true =>
  obtain ⟨h4, h5, h6, _⟩ := zmD h3
  rw [if_pos rfl, if_neg (by simp), h4]
  simp only
  rw [if_neg (show ¬ (true = false) by simp)]
  have h := zuN hr (steps := zcT p) (by omega) (zcT p) 0 [] ⟨[], 0, 17, false, false, (k : Int)⟩ rfl (Nat.le_refl _) (fun _ => ⟨by simp, by simp only; omega⟩)
  have h' : zaM (zcT p) s [] 0 [] 0 17 false false k = _ := h
  have hwf := zuy (s := s) (f := ⟨[], 0, 17, false, false, (k : Int)⟩) h6 rfl rfl
  simp only at hwf
  unfold zcj
  rw [h', sb, hwf]
  cases hf : flds nmdI s ⟨[], 0, 17, false, false, (k : Int)⟩ (zcT p) with
  | none => simp only [sb]; rw [itT (by rfl)]; rfl
  | some r =>
   have hrl := zsm hf
   simp only [sb, List.nil_append]
   rw [itF (by rfl), zpf (a := r.length) rfl (Int.le_refl _) (by omega), sb]
   have hlp := zyc (r := (r, true)) (by simp only; omega) r 0 rfl (Nat.zero_le _)
   simp only [List.take_zero, List.map_nil, List.nil_append, Nat.sub_zero] at hlp
   have hlp' : zgS (r, true) (List.replicate r.length 0) 0 = _ := hlp
   rw [hlp', sb]
   rfl
theorem zrq {s : List Mes} (root : Int) {p : List UInt8} (hw : WS s) (hp : p.length ≤ 140737488351232) : zhq s root p = some (zbo s root p) := by
 unfold zhq zbo
 rw [zsD hw, sb]
 by_cases h : zbX s root = 0
 ·obtain ⟨hr, h1, h2⟩ := zif h
  obtain ⟨k, rfl⟩ : ∃ k : Nat, root = k := ⟨root.toNat, by omega⟩
  rw [itF (by simpa using h), if_neg (show ¬ (zbX s k ≠ 0) from fun hh => hh h), zxb hr (by omega) hp, sb] <;> rfl
 ·rw [itT (by simpa using h), if_pos h]
theorem zwv {s : List Mes} (hw : WS s) {root : Int} (h : zbX s root = 0) {paths : List (List UInt8)} (hl : paths.length ≤ 200) (hp : ∀ p ∈ paths, p.length ≤ 140737488351232) : ∀ (t : List (List UInt8)) (k : Nat) (us : List zm), paths.drop k = t → k ≤ paths.length → us.length = k →
  zhp paths root s (us ++ List.replicate (paths.length - k) []) k = some (match zgY s root t with | .inl ws => .inl (us ++ ws) | .inr c => .inr c) := by
 obtain ⟨hr, h1, h2⟩ := zif h
 obtain ⟨q, rfl⟩ : ∃ k : Nat, root = k := ⟨root.toNat, by omega⟩
 intro t
 induction t with
 | nil =>
  intro k us hd hk hu
  have := zaU hd
  obtain rfl : k = paths.length := by omega
  rw [Nat.sub_self, List.replicate_zero, List.append_nil, zgY]
  simp only [List.append_nil]
  refine zlL ?_
  unfold zdn
  rw [itF (by simp)]
 | cons x t ih =>
  intro k us hd hk hu
  obtain ⟨hlt, hx, hd'⟩ := zav hd
  have hxl := hp x (hx ▸ List.getElem_mem hlt)
  have hres : zhZ s q x = some (zbo s q x) := by
   rw [zxb hr (by omega) hxl]
   unfold zbo
   rw [if_neg (show ¬ (zbX s q ≠ 0) from fun hh => hh h)] <;> rfl
  rw [zgY]
  by_cases hc : (zbo s q x).2 ≠ 0
  ·rw [if_pos hc]
   refine zlL ?_
   unfold zdn
   rw [itT (by simp; omega), zE rfl hlt, sb, hx, hres, sb, itT (by simpa using hc)]
  ·rw [if_neg hc]
   have e := zqs us (paths.length - (k + 1)) ([] : zm) (zbo s q x).1
   rw [hu, show paths.length - (k + 1) + 1 = paths.length - k by omega] at e
   have hb : zdn paths q s (us ++ List.replicate (paths.length - k) []) k = some (.inl ((us ++ [(zbo s q x).1]) ++ List.replicate (paths.length - (k + 1)) [], ((k + 1 : Nat) : Int))) := by
    unfold zdn
    rw [itT (by simp; omega), zE rfl hlt, sb, hx, hres, sb, itF (by simpa using hc), zE rfl (show k < _ by rw [List.length_append, List.length_replicate]; omega), sb, zy (by omega), Int.toNat_natCast, e]
    push_cast; rfl
   rw [zqK hb, ih (k + 1) _ hd' (by omega) (by simp; omega)]
   cases zgY s q t <;> simp
theorem zqb {s : List Mes} (root : Int) {paths : List (List UInt8)} (hw : WS s) (hp : ∀ p ∈ paths, p.length ≤ 140737488351232) : zho s root paths = some (⟨(zeO s root paths).1⟩, (zeO s root paths).2) := by
 unfold zho zeO
 rw [zsD hw, sb]
 by_cases h : zbX s root = 0
 ·rw [itF (by simpa using h), if_neg (show ¬ (zbX s root ≠ 0) from fun hh => hh h)]
  by_cases hl : 200 < paths.length
  ·rw [itT (by simp; omega), if_pos hl]
  ·have hlp := zwv hw h (by omega) hp paths 0 [] rfl (Nat.zero_le _) rfl
   rw [List.nil_append, Nat.sub_zero] at hlp
   have hlp' : zhp paths root s (List.replicate paths.length []) 0 = _ := hlp
   rw [itF (by simp; omega), if_neg hl, zpf (a := paths.length) rfl (Int.le_refl _) (by omega), sb, hlp', sb]
   cases hwr : zgY s root paths with
   | inl ws =>
    obtain ⟨g1, g2⟩ := zlW s root paths ws hwr
    have hU : UW ws := ⟨by omega, fun w hm => by have := g2 w hm; omega⟩
    simp only [List.nil_append]
    rw [zlr hU.sw, sb]
   | inr c => rfl
 ·rw [itT (by simpa using h), if_pos h]
theorem zzw {s : List Mes} (hr : ziA s) {k : Nat} (hk : k < s.length) {way : zm} (hl : way.length ≤ 1048576) : zjy s k way = some (if (zfa s k way).2 = true then ((zfa s k way).1, 0) else ([], 10)) := by
 have h := zuM hr hl way 0 [] ⟨[], 0, 17, false, false, (k : Int)⟩ rfl (Nat.le_refl _) (fun _ => ⟨by simp, by simp only; omega⟩)
 have h' : zaR way s [] 0 [] 0 17 false false k = _ := h
 have hnf := zrr (s := s) (l := way) (f := ⟨[], 0, 17, false, false, (k : Int)⟩) rfl rfl
 simp only at hnf
 unfold zjy zco zfa
 rw [h', sb]
 cases hf : flds fldI s ⟨[], 0, 17, false, false, (k : Int)⟩ way with
 | none =>
  rw [hf] at hnf
  rw [hnf]
  simp only [sb, Option.map_none]
  rw [itT (by rfl), if_neg (by simp)]
 | some r =>
  rw [hf] at hnf
  obtain ⟨g1, g2⟩ := zqO hr way k _ hk hnf
  rw [hnf]
  have hrl := zsm hf
  simp only [sb, List.nil_append, Option.map_some]
  rw [itF (by rfl), zpf (a := r.length) rfl (Int.le_refl _) (by omega), sb]
  have hlp := zwE (r := (r, true)) (by simp only; omega) r 0 rfl (Nat.zero_le _)
  simp only [List.take_zero, List.map_nil, List.nil_append, Nat.sub_zero] at hlp
  have hlp' : zgq (r, true) (List.replicate r.length []) 0 = _ := hlp
  rw [hlp', sb, zAY (by rw [List.length_map]; omega) (fun x hx => by have := (zsJ (g2 x hx)).2; omega), sb]
  have hn : zkc (r.map (·.Name)) = decide (1 ≤ (r.map (·.Name)).length ∧ (r.map (·.Name)).length ≤ 65) := by
   unfold zkc
   rw [List.all_eq_true.2 g2, Bool.true_and]
  rw [hn]
  generalize decide (1 ≤ (r.map (·.Name)).length ∧ (r.map (·.Name)).length ≤ 65) = b
  cases b <;> rfl
theorem zxR {s : List Mes} (hr : ziA s) {q : Nat} (hq : q < s.length) {ways : List zm} (hw : WW ways) (hl : ∀ w ∈ ways, w.length ≤ 1048576) : ∀ (t : List zm) (k : Nat) (us : List (List UInt8)), ways.drop k = t → k ≤ ways.length → us.length = k →
  zgR ⟨ways⟩ q s (us ++ List.replicate (ways.length - k) []) k = some (if (t.all fun w => (zfa s q w).2) = true then .inl (us ++ t.map fun w => (zfa s q w).1) else .inr 10) := by
 have hwl := hw.1
 intro t
 induction t with
 | nil =>
  intro k us hd hk hu
  have := zaU hd
  obtain rfl : k = ways.length := by omega
  rw [Nat.sub_self, List.replicate_zero, List.append_nil, List.all_nil, if_pos rfl, List.map_nil, List.append_nil]
  refine zkW ?_
  unfold zcM
  simp only
  rw [itF (by simp)]
 | cons x t ih =>
  intro k us hd hk hu
  obtain ⟨hlt, hx, hd'⟩ := zav hd
  have hxl := hl x (hx ▸ List.getElem_mem hlt)
  have hp := zzw hr hq hxl
  rw [List.all_cons]
  cases hc : (zfa s q x).2 with
  | false =>
   rw [hc, if_neg (by simp)] at hp
   rw [Bool.false_and, if_neg (by simp)]
   refine zkW ?_
   unfold zcM
   simp only
   rw [itT (by simp; omega), zE rfl hlt, sb, hx, hp, sb, itT (by rfl)]
  | true =>
   rw [hc, if_pos rfl] at hp
   have e := zqs us (ways.length - (k + 1)) ([] : List UInt8) (zfa s q x).1
   rw [hu, show ways.length - (k + 1) + 1 = ways.length - k by omega] at e
   have hb : zcM ⟨ways⟩ q s (us ++ List.replicate (ways.length - k) []) k = some (.inl ((us ++ [(zfa s q x).1]) ++ List.replicate (ways.length - (k + 1)) [], ((k + 1 : Nat) : Int))) := by
    unfold zcM
    simp only
    rw [itT (by simp; omega), zE rfl hlt, sb, hx, hp, sb, itF (by rfl), zE rfl (show k < _ by rw [List.length_append, List.length_replicate]; omega), sb, zy (by omega), Int.toNat_natCast, e]
    push_cast; rfl
   rw [zpW hb, ih (k + 1) _ hd' (by omega) (by simp; omega), Bool.true_and, List.map_cons, List.append_assoc]
   rfl
theorem zul {s : List Mes} (root : Int) {ways : List zm} (hw : WS s) (hW : WW ways) (hl : ∀ w ∈ ways, w.length ≤ 1048576) : ziW s root ⟨ways⟩ = some (zsV s root ways) := by
 unfold ziW zsV
 rw [zsD hw, sb]
 by_cases h : zbX s root = 0
 ·obtain ⟨hr, h1, h2⟩ := zif h
  obtain ⟨q, rfl⟩ : ∃ k : Nat, root = k := ⟨root.toNat, by omega⟩
  have hlen := hW.1
  rw [itF (by simpa using h), if_neg (show ¬ (zbX s q ≠ 0) from fun hh => hh h)]
  simp only
  rw [ztY hW, sb]
  by_cases hm : ofW ways = ways
  ·have hlp := zxR hr (q := q) (by omega) hW hl ways 0 [] rfl (Nat.zero_le _) rfl
   rw [List.nil_append, Nat.sub_zero] at hlp
   have hlp' : zgR ⟨ways⟩ q s (List.replicate ways.length []) 0 = _ := hlp
   rw [decide_eq_true hm, itF (by rfl), zpf (a := ways.length) rfl (Int.le_refl _) (by omega), sb, hlp', sb]
   by_cases ha : (ways.all fun w => (zfa s q w).2) = true
   ·rw [if_pos ha, if_pos ⟨hm, ha⟩]; rfl
   ·rw [if_neg ha, if_neg (fun hh => ha hh.2)]
  ·rw [decide_eq_false hm, itT (by rfl), if_neg (fun hh => hm hh.1)]
 ·rw [itT (by simpa using h), if_pos h]
def zpE : List Mes := [⟨[109], [⟨[97], 7, 17, false, false, 0⟩, ⟨[98], 2, 1, false, false, 0⟩, ⟨[99], 3, 1, false, false, 0⟩]⟩]
theorem zon : zcF = some true := by
 have hW : WS zpE := by
  refine ⟨by decide, fun m hm => ?_⟩
  simp only [zpE, List.mem_cons, List.not_mem_nil, or_false] at hm
  subst hm
  refine ⟨by decide, by decide, fun f hf => ?_⟩
  simp only [List.mem_cons, List.not_mem_nil, or_false] at hf
  rcases hf with rfl | rfl | rfl <;> decide
 have hm := zqb (s := zpE) 0 (paths := [[97, 46, 98], [97], [97, 46, 99]]) hW (fun p hp => by
  simp only [List.mem_cons, List.not_mem_nil, or_false] at hp
  rcases hp with rfl | rfl | rfl <;> decide)
 have he : zeO zpE 0 [[97, 46, 98], [97], [97, 46, 99]] = ([[7]], 0) := by decide
 unfold zcF
 rw [show zho ([(⟨[109], ([(⟨[97], 7, 17, false, false, 0⟩ : zb), (⟨[98], 2, 1, false, false, 0⟩ : zb), (⟨[99], 3, 1, false, false, 0⟩ : zb)] : (List zb))⟩ : zc)] : (List zc)) 0 ([[97, 46, 98], [97], [97, 46, 99]] : (List Str)) = some (⟨[[7]]⟩, 0) by rw [he] at hm; exact hm, sb]
 simp only
 rw [itT (show (IntKind.i64.wrap (0 : Int) == 0) = true by decide), itT (by rfl), show idx ([[7]] : List zm) 0 = some [7] from rfl, sb, zkw (by simp), sb, sb]
 rfl
end Go.Proofs.YtglkepeofhonlaaGreatDoor
