/-
  What the plain functions are. No condition.
-/
import Derived.Test.YtmghlnfhcdjbnaaGreatDoorS1
import Derived.Test.YtmghlnfhcdjbnaaGreatDoorK2
import Derived.Laws.Bits64b
import Derived.IntWalk
import Derived.RowKit
namespace Go.Proofs.YtmghlnfhcdjbnaaGreatDoor
open Go
set_option linter.unusedVariables false
def zcW (k : Int) : Bool := decide (1 ≤ k ∧ k ≤ 17)
def kNum (k : Int) : Bool := decide (1 ≤ k ∧ k ≤ 14)
def zmD (k : Int) : Int := if 15 ≤ k then 2 else if 12 ≤ k then 1 else if 9 ≤ k then 5 else 0
end Go.Proofs.YtmghlnfhcdjbnaaGreatDoor
namespace Go.Proofs.YtmghlnfhcdjbnaaGreatDoor
open Go
set_option linter.unusedVariables false
abbrev Fld := zn
abbrev Mes := zk
def zgh {α : Type} (p : α → Bool) (l : List α) : Int := match l.findIdx? p with
 | some i => (i : Int)
 | none => -1
theorem zky {α : Type} {p : α → Bool} {l : List α} (h : l.findIdx? p = none) : zgh p l = -1 := by unfold zgh; rw [h]
theorem zkz {α : Type} {p : α → Bool} {l : List α} {i : Nat} (h : l.findIdx? p = some i) : zgh p l = (i : Int) := by unfold zgh; rw [h]
theorem zmT {α : Type} (p : α → Bool) (l : List α) (F : Int → Option (Unit ⊕ Int)) (h0 : F (l.length : Int) = some (.inl ())) (hs : ∀ (i : Nat) (h : i < l.length), F (i : Int) = if p l[i] then some (.inr (i : Int)) else F ((i + 1 : Nat) : Int)) :
  ∀ (d i : Nat), i + d = l.length → (∀ j (h : j < l.length), j < i → p l[j] = false) → F (i : Int) = some (match l.findIdx? p with | some k => .inr (k : Int) | none => .inl ()) := by
 intro d
 induction d with
 | zero =>
  intro i hi hj
  have : i = l.length := by omega
  subst this
  have hn : l.findIdx? p = none := by
   rw [List.findIdx?_eq_none_iff]
   intro x hx
   obtain ⟨j, hj', rfl⟩ := List.getElem_of_mem hx
   exact hj j hj' hj'
  rw [h0, hn]
 | succ d ih =>
  intro i hi hj
  have hil : i < l.length := by omega
  rw [hs i hil]
  by_cases hp : p l[i] = true
  ·have hf : l.findIdx? p = some i := by
    rw [List.findIdx?_eq_some_iff_getElem]
    exact ⟨hil, hp, fun j hji => by simpa using hj j (by omega) hji⟩
   rw [if_pos hp, hf]
  ·rw [if_neg hp]
   refine ih (i + 1) (by omega) fun j h hji => ?_
   by_cases e : j = i
   ·subst e; simpa using hp
   ·exact hj j h (by omega)
def nmc (i : Nat) (c : UInt8) : Bool := decide (65 ≤ c.toNat ∧ c.toNat ≤ 90 ∨ 97 ≤ c.toNat ∧ c.toNat ≤ 122 ∨ c.toNat = 95 ∨ 0 < i ∧ 48 ≤ c.toNat ∧ c.toNat ≤ 57)
def nmA : Nat → List UInt8 → Bool
 | _, [] => true
 | i, c :: l => nmc i c && nmA (i + 1) l
def zV (s : List UInt8) : Bool := nmA 0 s && decide (1 ≤ s.length ∧ s.length ≤ 60)
theorem zck {α : Type} {l t : List α} {x : α} {k : Nat} (h : l.drop k = x :: t) : ∃ hk : k < l.length, l[k] = x ∧ l.drop (k + 1) = t := by
 have hk : k < l.length := by
  rcases Nat.lt_or_ge k l.length with h' | h'
  ·exact h'
  ·rw [List.drop_eq_nil_of_le h'] at h; cases h
 rw [List.drop_eq_getElem_cons hk] at h
 injection h with h1 h2
 exact ⟨hk, h1, h2⟩
theorem zcP {α : Type} {l : List α} {k : Nat} (h : l.drop k = []) : l.length ≤ k := by have := congrArg List.length h; simp at this; omega
theorem znh (s : List UInt8) (hs : s.length ≤ 1152921504606846976) : ∀ (l : List UInt8) (i : Nat), s.drop i = l → zay s i = some (if nmA i l = true then .inl () else .inr ()) := by
 intro l
 induction l with
 | nil =>
  intro i hd
  have := zcP hd
  refine zcD ?_
  unfold zP
  rw [itF (by simp; omega)]; rfl
 | cons c l ih =>
  intro i hd
  obtain ⟨hk, hx, hd'⟩ := zck hd
  have hb : zP s i = if nmc i c = true then some (.inl ((i + 1 : Nat) : Int)) else some (.inr (.inr ())) := by
   unfold zP
   rw [itT (by simp; omega), zba rfl hk, sb, hx, zaB (by omega)]
   have e : (if (decide ((c.toNat : Int) ≥ 65)) then ((decide ((c.toNat : Int) ≤ 90)) || (if (decide ((c.toNat : Int) ≥ 97)) then ((decide ((c.toNat : Int) ≤ 122)) || (((c.toNat : Int) == 95) || ((decide ((i : Int) > 0)) && ((decide ((c.toNat : Int) ≥ 48)) && (decide ((c.toNat : Int) ≤ 57)))))) else (((c.toNat : Int) == 95) || ((decide ((i : Int) > 0)) && ((decide ((c.toNat : Int) ≥ 48)) && (decide ((c.toNat : Int) ≤ 57))))))) else (if (decide ((c.toNat : Int) ≥ 97)) then ((decide ((c.toNat : Int) ≤ 122)) || (((c.toNat : Int) == 95) || ((decide ((i : Int) > 0)) && ((decide ((c.toNat : Int) ≥ 48)) && (decide ((c.toNat : Int) ≤ 57)))))) else (((c.toNat : Int) == 95) || ((decide ((i : Int) > 0)) && ((decide ((c.toNat : Int) ≥ 48)) && (decide ((c.toNat : Int) ≤ 57))))))) = nmc i c := by
    have e95 : ((c.toNat : Int) == 95) = decide (c.toNat = 95) := zpa _ 95
    have a1 : decide ((c.toNat : Int) ≥ 65) = decide (65 ≤ c.toNat) := decide_eq_decide.2 (by omega)
    have a2 : decide ((c.toNat : Int) ≤ 90) = decide (c.toNat ≤ 90) := decide_eq_decide.2 (by omega)
    have a3 : decide ((c.toNat : Int) ≥ 97) = decide (97 ≤ c.toNat) := decide_eq_decide.2 (by omega)
    have a4 : decide ((c.toNat : Int) ≤ 122) = decide (c.toNat ≤ 122) := decide_eq_decide.2 (by omega)
    have a5 : decide ((i : Int) > 0) = decide (0 < i) := decide_eq_decide.2 (by omega)
    have a6 : decide ((c.toNat : Int) ≥ 48) = decide (48 ≤ c.toNat) := decide_eq_decide.2 (by omega)
    have a7 : decide ((c.toNat : Int) ≤ 57) = decide (c.toNat ≤ 57) := decide_eq_decide.2 (by omega)
    rw [e95, a1, a2, a3, a4, a5, a6, a7]
    simp only [nmc, Bool.decide_or, Bool.decide_and]
    generalize decide (65 ≤ c.toNat) = p1
    generalize decide (c.toNat ≤ 90) = p2
    generalize decide (97 ≤ c.toNat) = p3
    generalize decide (c.toNat ≤ 122) = p4
    generalize decide (c.toNat = 95) = p5
    generalize decide (0 < i) = p6
    generalize decide (48 ≤ c.toNat) = p7
    generalize decide (c.toNat ≤ 57) = p8
    cases p1 <;> cases p2 <;> cases p3 <;> cases p4 <;> cases p5 <;> cases p6 <;> cases p7 <;> cases p8 <;> rfl
   rw [e]
   cases nmc i c
   ·rw [itT (by rfl)]; rfl
   ·rw [itF (by rfl)]; push_cast; rfl
  rw [nmA]
  cases hc : nmc i c
  ·rw [hc, if_neg (by simp)] at hb
   rw [zcD hb]; rfl
  ·rw [hc, if_pos rfl] at hb
   rw [zei hb, ih _ hd', Bool.true_and]
theorem ziB {s : List UInt8} (hs : s.length ≤ 1152921504606846976) : zbe s = some (zV s) := by
 unfold zbe zV
 have h := znh s hs s 0 rfl
 have h' : zay s 0 = _ := h
 rw [h', sb]
 cases nmA 0 s
 ·rfl
 ·simp [Bool.decide_and]
  rw [Bool.eq_iff_iff]; simp; omega
def zbf (n : Int) (prev : List Fld) (f : Fld) : Int :=
 if zV f.Name = false then 5 else if prev.any (fun g => g.Name == f.Name) = true then 6
 else if f.Number < 1 ∨ f.Number > 536870911 ∨ (19000 ≤ f.Number ∧ f.Number < 20000) then 7
 else if prev.any (fun g => g.Number == f.Number) = true then 8 else if zcW f.Kind = false then 9
 else if f.Packed = true ∧ ¬ (f.Repeated = true ∧ kNum f.Kind = true) then 10
 else if f.Kind = 17 ∧ (f.Of < 0 ∨ f.Of ≥ n) ∨ f.Kind ≠ 17 ∧ f.Of ≠ 0 then 11 else 0
theorem znD (n : Int) (prev : List Fld) (f : Fld) : 0 ≤ zbf n prev f ∧ zbf n prev f ≤ 11 := by
 unfold zbf
 repeat' split
 all_goals omega
def msgF (n : Int) (prev : List Fld) : List Fld → Option (Nat × Int)
 | [] => none
 | f :: l => if 0 < zbf n prev f then some (prev.length, zbf n prev f) else msgF n (prev ++ [f]) l
def chkF (n : Int) (prev : List Mes) : List Mes → Option (Nat × Int × Int)
 | [] => none
 | m :: l => if zV m.Name = false then some (prev.length, -1, 2) else if prev.any (fun g => g.Name == m.Name) = true then some (prev.length, -1, 3)
  else if 200 < m.Fields.length then some (prev.length, -1, 4) else match msgF n [] m.Fields with
   | some (k, w) => some (prev.length, (k : Int), w)
   | none => chkF n (prev ++ [m]) l
def zfh (s : List Mes) : Int × Int × Int := if s.length = 0 ∨ 100 < s.length then (-1, -1, 1) else match chkF s.length [] s with
 | none => (0, 0, 0)
 | some (i, k, w) => ((i : Int), k, w)
def ziE (s : List Mes) : Bool := decide ((zfh s).2.2 = 0)
def WS (s : List Mes) : Prop := s.length ≤ 140737488351232 ∧ ∀ m ∈ s, m.Name.length ≤ 140737488351232 ∧ m.Fields.length ≤ 140737488351232 ∧ ∀ f ∈ m.Fields, f.Name.length ≤ 140737488351232
theorem zpy : ∀ (n : Int) (l prev : List Fld) (k : Nat) (w : Int), msgF n prev l = some (k, w) → 0 < w := by
 intro n l
 induction l with
 | nil => intro prev k w h; cases h
 | cons f l ih =>
  intro prev k w h
  rw [msgF] at h
  split at h
  ·cases h; assumption
  ·exact ih _ _ _ h
theorem zpb : ∀ (n : Int) (l prev : List Mes) (i : Nat) (k w : Int), chkF n prev l = some (i, k, w) → 0 < w := by
 intro n l
 induction l with
 | nil => intro prev i k w h; cases h
 | cons m l ih =>
  intro prev i k w h
  rw [chkF] at h
  split at h
  ·cases h; omega
  ·split at h
   ·cases h; omega
   ·split at h
    ·cases h; omega
    ·split at h
     ·rename_i k' w' h'; cases h; exact zpy _ _ _ _ _ h'
     ·exact ih _ _ _ _ h
structure zqs (n : Int) (f : Fld) : Prop where
 name : zV f.Name = true
 lo : 1 ≤ f.Number
 hi : f.Number ≤ 536870911
 kind : zcW f.Kind = true
 packed : f.Packed = true → f.Repeated = true ∧ kNum f.Kind = true
 sub : f.Kind = 17 → 0 ≤ f.Of ∧ f.Of < n
 noSub : f.Kind ≠ 17 → f.Of = 0
structure zqF (s : List Mes) : Prop where
 len : 1 ≤ s.length ∧ s.length ≤ 100
 name : ∀ m ∈ s, zV m.Name = true
 names : ∀ (i j : Nat) (a b : Mes), i < j → s[i]? = some a → s[j]? = some b → a.Name ≠ b.Name
 few : ∀ m ∈ s, m.Fields.length ≤ 200
 fld : ∀ m ∈ s, ∀ f ∈ m.Fields, zqs s.length f
 nums : ∀ m ∈ s, ∀ (i j : Nat) (f g : Fld), i < j → m.Fields[i]? = some f → m.Fields[j]? = some g → f.Number ≠ g.Number ∧ f.Name ≠ g.Name
def zpN (m : Mes) (p : Int) : Int := (m.Fields.getD p.toNat ⟨[], 0, 0, false, false, 0⟩).Number
def zpS (κ : Int → Int) (a b : Int) : Prop := κ a < κ b ∨ κ a = κ b ∧ a < b
end Go.Proofs.YtmghlnfhcdjbnaaGreatDoor
namespace Go.Proofs.YtmghlnfhcdjbnaaGreatDoor
open Go
set_option linter.unusedVariables false
def zai : List UInt8 → List (List UInt8)
 | [] => [[]]
 | c :: l => if c = 46 then [] :: zai l else match zai l with
  | [] => [[c]]
  | x :: xs => (c :: x) :: xs
theorem zfA (l : List UInt8) : zai l ≠ [] := by
 cases l with
 | nil => simp [zai]
 | cons c l =>
  rw [zai]
  split
  ·simp
  ·split <;> simp
theorem zfK {x : List UInt8} (h : ∀ c ∈ x, c ≠ 46) : zai x = [x] := by
 induction x with
 | nil => rfl
 | cons c x ih => rw [zai, if_neg (h c List.mem_cons_self), ih fun d hd => h d (List.mem_cons_of_mem _ hd)]
theorem ziM {x : List UInt8} (h : ∀ c ∈ x, c ≠ 46) (y : List UInt8) : zai (x ++ 46 :: y) = x :: zai y := by
 induction x with
 | nil => rw [List.nil_append, zai, if_pos rfl]
 | cons c x ih => rw [List.cons_append, zai, if_neg (h c List.mem_cons_self), ih fun d hd => h d (List.mem_cons_of_mem _ hd)]
theorem zjF (l : List UInt8) : ∀ x ∈ zai l, x.length ≤ l.length := by
 induction l with
 | nil => intro x hx; simp [zai] at hx; subst hx; simp
 | cons c l ih =>
  intro x hx
  rw [zai] at hx
  split at hx
  ·rcases List.mem_cons.1 hx with rfl | hx
   ·simp
   ·have := ih x hx; simp; omega
  ·split at hx
   ·simp at hx; subst hx; simp
   ·rename_i y ys h
    rcases List.mem_cons.1 hx with rfl | hx
    ·have := ih y (by rw [h]; exact List.mem_cons_self); simp; omega
    ·have := ih x (by rw [h]; exact List.mem_cons_of_mem _ hx); simp; omega
def zy (p : List UInt8) : List (List UInt8) × Bool := if (zai p).all zV && decide ((zai p).length ≤ 65) then (zai p, true) else ([], false)
theorem zkh {p : List UInt8} (hp : p.length ≤ 1099511627776) : ∀ (d i from0 : Nat) (out : List (List UInt8)), i + d = p.length → from0 ≤ i → out.length ≤ i → (∀ c ∈ (p.drop from0).take (i - from0), c ≠ 46) →
  zaj p out from0 i = some (if (zai (p.drop from0)).all zV = true then .inl (out ++ zai (p.drop from0)) else .inr ()) := by
 -- the piece that ends here
 have body : ∀ (i from0 : Nat) (out : List (List UInt8)), from0 ≤ i → i ≤ p.length → out.length ≤ i → (i < p.length → ∃ h : i < p.length, p[i] = 46) →
   zD p out from0 i = if zV ((p.drop from0).take (i - from0)) = true then some (.inl (out ++ [(p.drop from0).take (i - from0)], ((i + 1 : Nat) : Int), ((i + 1 : Nat) : Int))) else some (.inr (.inr ())) := by
  intro i from0 out h1 h2 ho h3
  have hc : cut p (from0 : Int) (i : Int) = some ((p.drop from0).take (i - from0)) := zhW rfl rfl h1 h2
  have hg : (if (decide ((i : Int) < (p.length : Int))) = true then (idx p (i : Int) >>= fun c => some ((c.toNat : Int) != 46)) else some false) = some false := by
   by_cases hi : i < p.length
   ·obtain ⟨_, h4⟩ := h3 hi
    rw [itT (by simpa using hi), zba rfl hi, sb, h4]; rfl
   ·rw [itF (by simpa using hi)]
  unfold zD
  rw [itT (by simp; omega), hg, sb, itF (c := false) rfl, hc, sb, ziB (by simp; omega), sb]
  cases zV ((p.drop from0).take (i - from0))
  ·rw [itT (c := !false) rfl]; rfl
  ·rw [itF (c := !true) rfl, sb, zls (by simp; omega), sb, zaB (by omega)]
   push_cast; rfl
 intro d
 induction d with
 | zero =>
  intro i from0 out hi hf ho hx
  have hil : i = p.length := by omega
  subst hil
  have ht : (p.drop from0).take (p.length - from0) = p.drop from0 := List.take_of_length_le (by simp)
  rw [ht] at hx
  have hb := body p.length from0 out hf (Nat.le_refl _) ho (fun h => absurd h (Nat.lt_irrefl _))
  rw [ht] at hb
  rw [zfK hx]
  by_cases hn : zV (p.drop from0) = true
  ·rw [if_pos hn] at hb
   rw [zbz hb]
   have : zaj p (out ++ [p.drop from0]) ((p.length + 1 : Nat) : Int) ((p.length + 1 : Nat) : Int) = some (.inl (out ++ [p.drop from0])) := by
    refine zbA ?_
    unfold zD
    rw [itF (by simp; omega)]
   rw [this, if_pos (by simp [hn])]
  ·rw [if_neg hn] at hb
   rw [zbA hb, if_neg (by simpa using hn)]
 | succ d ih =>
  intro i from0 out hi hf ho hx
  have hil : i < p.length := by omega
  have hdr : (p.drop from0).drop (i - from0) = p[i] :: p.drop (i + 1) := by
   rw [List.drop_drop, show from0 + (i - from0) = i by omega, List.drop_eq_getElem_cons hil]
  have hsp : p.drop from0 = (p.drop from0).take (i - from0) ++ p[i] :: p.drop (i + 1) := by rw [← hdr, List.take_append_drop]
  by_cases hc : p[i] = 46
  ·have hb := body i from0 out hf (by omega) ho (fun h => ⟨h, hc⟩)
   rw [hc] at hsp
   have hsd : zai (p.drop from0) = (p.drop from0).take (i - from0) :: zai (p.drop (i + 1)) := by
    generalize hq : (p.drop from0).take (i - from0) = q at hsp hx ⊢
    rw [hsp, ziM hx]
   rw [hsd]
   by_cases hn : zV ((p.drop from0).take (i - from0)) = true
   ·rw [if_pos hn] at hb
    rw [zbz hb, ih (i + 1) (i + 1) _ (by omega) (Nat.le_refl _) (by simp; omega) (by simp), List.all_cons, hn, Bool.true_and, List.append_assoc, List.singleton_append]
   ·rw [if_neg hn] at hb
    rw [zbA hb, List.all_cons, if_neg (by simp [hn])]
  ·have hb : zD p out from0 i = some (.inl (out, (from0 : Int), ((i + 1 : Nat) : Int))) := by
    unfold zD
    have h46 : (((p[i]).toNat : Int) != 46) = true := by
     have : (p[i]).toNat ≠ 46 := fun h => hc (UInt8.toNat_inj.1 (by rw [h]; rfl))
     simp; omega
    rw [itT (by simp; omega), itT (by simpa using hil), zba rfl hil, sb, sb, h46, itT (c := true) rfl, zaB (by omega)]
    push_cast; rfl
   rw [zbz hb, ih (i + 1) from0 out (by omega) (by omega) (by omega) ?_]
   intro c hcm
   have e : (p.drop from0).take (i + 1 - from0) = (p.drop from0).take (i - from0) ++ [p[i]] := by
    rw [show i + 1 - from0 = (i - from0) + 1 by omega, List.take_add_one, List.getElem?_drop, show from0 + (i - from0) = i by omega, List.getElem?_eq_getElem hil]; rfl
   rw [e] at hcm
   rcases List.mem_append.1 hcm with h | h
   ·exact hx c h
   ·simp at h; subst h; exact hc
theorem ziX {p : List UInt8} (hp : p.length ≤ 1099511627776) : zbr p = some (zy p) := by
 unfold zbr zy
 have h := zkh hp p.length 0 0 [] (by omega) (Nat.le_refl _) (Nat.zero_le _) (by simp)
 have h' : zaj p [] 0 0 = _ := h
 rw [h', sb, List.drop_zero, List.nil_append]
 cases ha : (zai p).all zV
 ·rfl
 ·simp only [if_true, Bool.true_and]
  by_cases hl : (zai p).length ≤ 65
  ·rw [itF (by simp; omega), itT (by simpa using hl)]
  ·rw [itT (by simp; omega), itF (by simpa using hl)]
def zbQ : List (List UInt8) → List UInt8
 | [] => []
 | [x] => x
 | x :: y :: l => x ++ 46 :: zbQ (y :: l)
def zdD (out : List UInt8) (first : Bool) : List (List UInt8) → List UInt8
 | [] => out
 | x :: l => zdD ((if first then out else out ++ [46]) ++ x) false l
theorem zhs : ∀ (l : List (List UInt8)) (out : List UInt8), l ≠ [] → zdD out false l = out ++ 46 :: zbQ l
 | [], _, h => absurd rfl h
 | [x], out, _ => by simp [zdD, zbQ]
 | x :: y :: l, out, _ => by
  rw [zdD, zhs (y :: l) _ (by simp), zbQ]; simp
theorem zkL (l : List (List UInt8)) : zdD [] true l = zbQ l := by
 match l with
 | [] => rfl
 | [x] => simp [zdD, zbQ]
 | x :: y :: l => rw [zdD, zhs (y :: l) _ (by simp), zbQ]; simp
theorem zjo : ∀ (l : List (List UInt8)) (out : List UInt8) (f : Bool), out.length ≤ (zdD out f l).length
 | [], _, _ => Nat.le_refl _
 | x :: l, out, f => by
  refine Nat.le_trans ?_ (zjo l _ false)
  cases f <;> simp <;> omega
theorem zkN {l : List (List UInt8)} (hl : l.length ≤ 1099511627776) : ∀ (t : List (List UInt8)) (i : Nat) (out : List UInt8), l.drop i = t → (zdD out (decide (i = 0)) t).length ≤ 1152921504606846976 →
  zaz l out i = some (zdD out (decide (i = 0)) t) := by
 intro t
 induction t with
 | nil =>
  intro i out hd _
  have := zcP hd
  refine zek ?_
  unfold zT
  rw [itF (by simp; omega)]; rfl
 | cons x t ih =>
  intro i out hd hb
  obtain ⟨hk, hx, hd'⟩ := zck hd
  rw [zdD] at hb ⊢
  have h1 := Nat.le_trans (zjo t ((if decide (i = 0) = true then out else out ++ [46]) ++ x) false) hb
  have hi0 : decide (i + 1 = 0) = false := by simp
  refine (zej (out' := (if decide (i = 0) = true then out else out ++ [46]) ++ x) (i' := ((i + 1 : Nat) : Int)) ?_).trans ?_
  ·unfold zT
   rw [itT (by simp; omega)]
   by_cases h0 : i = 0
   ·subst h0
    simp only [decide_true, if_true] at h1 ⊢
    rw [itF (by rfl), sb, zba rfl hk, sb, hx, zlA (by rw [List.length_append] at h1; omega), sb]
    rw [zaB (by omega)]; push_cast; rfl
   ·simp only [h0, decide_false, Bool.false_eq_true, if_false] at h1 ⊢
    simp only [List.length_append, List.length_cons, List.length_nil] at h1
    rw [itT (by simp; omega), zlA (by simp; omega), sb, sb, zba rfl hk, sb, hx, zlA (by simp; omega), sb, zaB (by omega)]
    push_cast; rfl
  ·have := ih (i + 1) ((if decide (i = 0) = true then out else out ++ [46]) ++ x) hd' (by rw [hi0]; exact hb)
   rw [hi0] at this
   exact this
theorem zgQ {l : List (List UInt8)} (hl : l.length ≤ 1099511627776) (hb : (zbQ l).length ≤ 1152921504606846976) : zaF l = some (zbQ l) := by
 unfold zaF
 rw [← zkL] at hb ⊢
 have h := zkN hl l 0 [] rfl hb
 have h' : zaz l [] 0 = _ := h
 rw [h', sb]
 rfl
def zcI (l : List (List UInt8)) : Bool := l.all zV && decide (1 ≤ l.length ∧ l.length ≤ 65)
theorem ziW {l : List (List UInt8)} (hl : l.length ≤ 1152921504606846976) (hx : ∀ x ∈ l, x.length ≤ 1152921504606846976) : zbq l = some (zcI l) := by
 have key : ∀ (t : List (List UInt8)) (i : Nat), l.drop i = t → zar l i = some (if t.all zV = true then .inl () else .inr ()) := by
  intro t
  induction t with
  | nil =>
   intro i hd
   have := zcP hd
   refine zcy ?_
   unfold zK
   rw [itF (by simp; omega)]; rfl
  | cons x t ih =>
   intro i hd
   obtain ⟨hk, hxe, hd'⟩ := zck hd
   have hb : zK l i = if zV x = true then some (.inl ((i + 1 : Nat) : Int)) else some (.inr (.inr ())) := by
    unfold zK
    rw [itT (by simp; omega), zba rfl hk, sb, hxe, ziB (hx x (by rw [← hxe]; exact List.getElem_mem hk)), sb, zaB (by omega)]
    cases zV x
    ·rfl
    ·push_cast; rfl
   rw [List.all_cons]
   cases hn : zV x
   ·rw [hn, if_neg (by simp)] at hb
    rw [zcy hb]; rfl
   ·rw [hn, if_pos rfl] at hb
    rw [zdY hb, ih _ hd', Bool.true_and]
 have h := key l 0 rfl
 have h' : zar l 0 = _ := h
 unfold zbq zcI
 rw [h', sb]
 cases l.all zV
 ·rfl
 ·simp only [if_true, Bool.true_and, Bool.decide_and]
  congr 1
  rw [Bool.eq_iff_iff]; simp; omega
theorem zkd {a b : List (List UInt8)} (ha : a.length ≤ 1152921504606846976) : zbE a b = some (decide (a = b)) := by
 have key : ∀ (d i : Nat), i + d = a.length → a.length = b.length → (a.take i = b.take i) → ∃ r : Int, zan a b i = some r ∧ (r = a.length ↔ a = b) ∧ r ≤ a.length := by
  intro d
  induction d with
  | zero =>
   intro i hi hl ht
   have hil : i = a.length := by omega
   refine ⟨(i : Int), zcj ?_, ?_, by omega⟩
   ·unfold zH
    rw [itT (by simp; omega), sb, itT (c := true) rfl]
   ·have : a = b := by rw [← List.take_length (l := a), ← List.take_length (l := b), ← hl, ← hil]; exact ht
    simp [this, hil]
  | succ d ih =>
   intro i hi hl ht
   have hia : i < a.length := by omega
   have hib : i < b.length := by omega
   have hb : zH a b i = if a[i] = b[i] then some (.inl ((i + 1 : Nat) : Int)) else some (.inr (i : Int)) := by
    unfold zH
    rw [itF (by simp; omega), itF (by simp; omega), zba rfl hia, sb, zba rfl hib, sb, sb, zaB (by omega)]
    by_cases h : a[i] = b[i]
    ·rw [itF (by simp [h]), if_pos h]; push_cast; rfl
    ·rw [itT (by simp [h]), if_neg h]
   by_cases h : a[i] = b[i]
   ·rw [if_pos h] at hb
    obtain ⟨r, h1, h2⟩ := ih (i + 1) (by omega) hl (by rw [List.take_succ_eq_append_getElem hia, List.take_succ_eq_append_getElem hib, ht, h])
    exact ⟨r, by rw [zdM hb]; exact h1, h2⟩
   ·rw [if_neg h] at hb
    refine ⟨(i : Int), zcj hb, ⟨fun h' => by omega, fun h' => ?_⟩, by omega⟩
    subst h'; exact absurd rfl h
 unfold zbE
 by_cases hl : a.length = b.length
 ·obtain ⟨r, h1, h2, _⟩ := key a.length 0 (by omega) hl rfl
  have h1' : zan a b 0 = some r := h1
  rw [itT (by simp; omega)]
  unfold zbL
  rw [h1', sb, sb, sb]
  congr 1
  rw [Bool.eq_iff_iff]
  simp only [beq_iff_eq, decide_eq_true_eq]
  exact h2
 ·rw [itF (by simp; omega), sb]
  have : a ≠ b := fun e => hl (by rw [e])
  simp [this]
theorem zpx {l : List (List UInt8)} (hl : l.length ≤ 140737488351232) : ∃ b, zbD l = some b := by
 have key : ∀ (d i : Nat) (n : Int), i + d = l.length → ∃ r, zax l n i = some r := by
  intro d
  induction d with
  | zero =>
   intro i n hi
   refine ⟨n, zeh ?_⟩
   unfold zS
   rw [itF (by simp; omega)]
  | succ d ih =>
   intro i n hi
   have hil : i < l.length := by omega
   obtain ⟨r, hr⟩ := ih (i + 1) (IntKind.i64.wrap ((IntKind.i64.wrap (n + ((l[i]).length : Int))) + 1)) (by omega)
   refine ⟨r, (zeg (i' := ((i + 1 : Nat) : Int)) ?_).trans hr⟩
   unfold zS
   rw [itT (by simp; omega), zba rfl hil, sb, zaB (x := (i : Int) + 1) (by omega)]
   push_cast; rfl
 obtain ⟨r, hr⟩ := key l.length 0 0 (by omega)
 have hr' : zax l 0 0 = some r := hr
 exact ⟨_, by unfold zbD; rw [hr', sb]⟩
end Go.Proofs.YtmghlnfhcdjbnaaGreatDoor
namespace Go.Proofs.YtmghlnfhcdjbnaaGreatDoor
open Go
set_option linter.unusedVariables false
def zqg : List Str := [[], [105, 110, 116, 51, 50], [105, 110, 116, 54, 52], [117, 105, 110, 116, 51, 50], [117, 105, 110, 116, 54, 52], [115, 105, 110, 116, 51, 50], [115, 105, 110, 116, 54, 52], [98, 111, 111, 108], [101, 110, 117, 109], [102, 105, 120, 101, 100, 51, 50], [115, 102, 105, 120, 101, 100, 51, 50], [102, 108, 111, 97, 116], [102, 105, 120, 101, 100, 54, 52], [115, 102, 105, 120, 101, 100, 54, 52], [100, 111, 117, 98, 108, 101], [115, 116, 114, 105, 110, 103], [98, 121, 116, 101, 115], [109, 101, 115, 115, 97, 103, 101]]
def znU (k : Int) : Str := (zqg[k.toNat]?).getD []
def kT : List (Int × zf) := [(1, ⟨[105, 110, 116, 51, 50], 0⟩), (2, ⟨[105, 110, 116, 54, 52], 0⟩), (3, ⟨[117, 105, 110, 116, 51, 50], 0⟩), (4, ⟨[117, 105, 110, 116, 54, 52], 0⟩), (5, ⟨[115, 105, 110, 116, 51, 50], 0⟩), (6, ⟨[115, 105, 110, 116, 54, 52], 0⟩), (7, ⟨[98, 111, 111, 108], 0⟩), (8, ⟨[101, 110, 117, 109], 0⟩), (9, ⟨[102, 105, 120, 101, 100, 51, 50], 5⟩), (10, ⟨[115, 102, 105, 120, 101, 100, 51, 50], 5⟩), (11, ⟨[102, 108, 111, 97, 116], 5⟩), (12, ⟨[102, 105, 120, 101, 100, 54, 52], 1⟩), (13, ⟨[115, 102, 105, 120, 101, 100, 54, 52], 1⟩), (14, ⟨[100, 111, 117, 98, 108, 101], 1⟩), (15, ⟨[115, 116, 114, 105, 110, 103], 2⟩), (16, ⟨[98, 121, 116, 101, 115], 2⟩), (17, ⟨[109, 101, 115, 115, 97, 103, 101], 2⟩)]
theorem zkR : zdO = some kT := rfl
theorem zhw {k : Int} (h : zcW k = true) : k = 1 ∨ k = 2 ∨ k = 3 ∨ k = 4 ∨ k = 5 ∨ k = 6 ∨ k = 7 ∨ k = 8 ∨ k = 9 ∨ k = 10 ∨ k = 11 ∨ k = 12 ∨ k = 13 ∨ k = 14 ∨ k = 15 ∨ k = 16 ∨ k = 17 := by
 have := of_decide_eq_true h
 omega
theorem zpW {k : Int} (h : zcW k = true) : mget kT k = some ⟨znU k, zmD k⟩ := by
 rcases zhw h with rfl | rfl | rfl | rfl | rfl | rfl | rfl | rfl | rfl | rfl | rfl | rfl | rfl | rfl | rfl | rfl | rfl <;> rfl
theorem zpk {e : Int × zf} (h : e ∈ kT) : zcW e.1 = true ∧ e.2 = ⟨znU e.1, zmD e.1⟩ := by
 have : kT.all (fun e => zcW e.1 && decide (e.2 = ⟨znU e.1, zmD e.1⟩)) = true := by decide
 have h1 := List.all_eq_true.1 this e h
 simp only [Bool.and_eq_true, decide_eq_true_eq] at h1
 exact h1
theorem zpl {k : Int} (h : zcW k = false) : mget kT k = none := by
 cases hg : mget kT k with
 | none => rfl
 | some x =>
  have mem : ∀ {m : List (Int × zf)} {x : zf}, mget m k = some x → (k, x) ∈ m := fun {m x} hg => by
   induction m with
   | nil => cases hg
   | cons p m ih =>
    rw [mget] at hg
    split at hg
    ·rename_i e; cases hg; rw [e]; exact List.mem_cons_self
    ·exact List.mem_cons_of_mem _ (ih hg)
  have h1 := (zpk (mem hg)).1
  simp only at h1
  rw [h] at h1
  cases h1
theorem zog (k : Int) : zev k = some (if zcW k then (zmD k, 0) else (0, 2)) := by
 unfold zev
 rw [zkR, sb]
 cases h : zcW k with
 | true => rw [zpW h]; rfl
 | false => rw [zpl h]; rfl
theorem zlP (k : Int) : zdu k = some (kNum k) := by
 unfold zdu
 rw [zog, sb]
 cases h : zcW k with
 | true =>
  rcases zhw h with rfl | rfl | rfl | rfl | rfl | rfl | rfl | rfl | rfl | rfl | rfl | rfl | rfl | rfl | rfl | rfl | rfl <;> rfl
 | false =>
  have h1 := of_decide_eq_false h
  have : kNum k = false := decide_eq_false (by omega)
  rw [this]
  rfl
theorem zpo : kT.map Prod.fst = [1, 2, 3, 4, 5, 6, 7, 8, 9, 10, 11, 12, 13, 14, 15, 16, 17] := rfl
theorem zpm : zfr = some [1, 2, 3, 4, 5, 6, 7, 8, 9, 10, 11, 12, 13, 14, 15, 16, 17] := by
 have e : zkP kT = some [1, 2, 3, 4, 5, 6, 7, 8, 9, 10, 11, 12, 13, 14, 15, 16, 17] := by
  unfold zkP
  rw [if_pos ⟨by decide, by decide⟩, zpo, List.mergeSort_of_pairwise (by decide)]
 unfold zfr
 rw [zkR, sb, e, sb]
end Go.Proofs.YtmghlnfhcdjbnaaGreatDoor
namespace Go.Proofs.YtmghlnfhcdjbnaaGreatDoor
open Go
set_option linter.unusedVariables false
def lt7 (c : UInt8) : Bool := decide (97 ≤ c.toNat ∧ c.toNat ≤ 122 ∨ 65 ≤ c.toNat ∧ c.toNat ≤ 90 ∨ c.toNat = 95)
def dg7 (c : UInt8) : Bool := decide (48 ≤ c.toNat ∧ c.toNat ≤ 57)
theorem zie (c : UInt8) : zbS (c.toNat : Int) = some (dg7 c) := by
 unfold zbS dg7
 congr 1
 rw [Bool.eq_iff_iff]
 simp
 omega
theorem zkF (c : UInt8) : zca (c.toNat : Int) = some (lt7 c) := by
 unfold zca lt7
 congr 1
 by_cases h1 : (c.toNat : Int) ≥ 97 <;> by_cases h2 : (c.toNat : Int) ≥ 65 <;> simp only [h1, h2, decide_true, decide_false, if_true, if_false, Bool.false_eq_true] <;> rw [Bool.eq_iff_iff] <;> simp <;> omega
theorem zkG (s : List UInt8) (hs : s.length ≤ 1152921504606846976) : ∀ (l : List UInt8) (i : Nat), s.drop i = l → zbn s i = some (if (l.all fun c => lt7 c || dg7 c) = true then .inl () else .inr ()) := by
 intro l
 induction l with
 | nil =>
  intro i hd
  have := zcP hd
  refine zdx ?_
  unfold zZ
  rw [itF (by simp; omega)]
  rfl
 | cons c l ih =>
  intro i hd
  obtain ⟨hi, hc, hd'⟩ := zck hd
  have hb : zZ s i = if (lt7 c || dg7 c) = true then some (.inl ((i + 1 : Nat) : Int)) else some (.inr (.inr ())) := by
   unfold zZ
   rw [itT (by simp; omega), zba rfl hi, sb, hc, zkF, sb, sb, zie, zaB (by omega)]
   cases lt7 c <;> cases dg7 c <;> rfl
  rw [List.all_cons]
  cases hk : (lt7 c || dg7 c) with
  | false =>
   rw [hk] at hb
   rw [zdx hb]
   rfl
  | true =>
   rw [hk] at hb
   rw [zfz hb, ih _ hd', Bool.true_and]
theorem zmK : ∀ (l : List UInt8) (i : Nat), 0 < i → nmA i l = l.all fun c => lt7 c || dg7 c
 | [], _, _ => rfl
 | c :: l, i, h => by
  rw [nmA, zmK l (i + 1) (by omega), List.all_cons]
  congr 1
  unfold nmc lt7 dg7
  rw [Bool.eq_iff_iff]
  simp
  omega
theorem zjm {s : List UInt8} (hs : s.length ≤ 1152921504606846976) : zce s = some (zV s) := by
 unfold zce zV
 have hl := zkG s hs s 0 rfl
 have hl' : zbn s 0 = _ := hl
 cases s with
 | nil => rfl
 | cons c l =>
  rw [itF (by simp)]
  by_cases h60 : ((c :: l).length : Int) > 60
  ·rw [itT (by simpa using h60), sb, itT rfl]
   have : decide (1 ≤ (c :: l).length ∧ (c :: l).length ≤ 60) = false := by simp only [decide_eq_false_iff_not]; omega
   rw [this, Bool.and_false]
  ·have hd : decide (1 ≤ (c :: l).length ∧ (c :: l).length ≤ 60) = true := by simp only [decide_eq_true_eq]; refine ⟨by simp, by omega⟩
   have hc : idx (c :: l) 0 = some c := by simp [idx]
   rw [itF (by simpa using h60), hc, sb, zie, sb, sb, hd, Bool.and_true, hl', sb]
   have e : nmA 0 (c :: l) = (lt7 c && l.all fun c => lt7 c || dg7 c) := by
    rw [nmA, zmK l 1 (by omega)]
    congr 1
    unfold nmc lt7
    rw [Bool.eq_iff_iff]
    simp
    omega
   have hx : lt7 c = true → dg7 c = false := by
    unfold lt7 dg7
    simp only [decide_eq_true_eq, decide_eq_false_iff_not]
    omega
   rw [e, List.all_cons]
   cases h1 : lt7 c <;> cases h2 : dg7 c <;> first | (rw [hx h1] at h2; cases h2; done) | skip
   ·rfl
   ·rfl
   ·cases l.all fun c => lt7 c || dg7 c <;> rfl
theorem znL {l : List Int} (hl : l.length ≤ 1152921504606846976) (v : Int) : zaA l v = some (zgh (fun x => v == x) l) := by
 unfold zaA
 have h := zmT (fun x => v == x) l (fun i => zaa l v i) (zbT (by unfold zv; rw [itF (by simp)])) (fun i hi => by
  by_cases hp : (v == l[i]) = true
  ·rw [if_pos hp]; exact zbT (by unfold zv; rw [itT (by simp; omega), zba rfl hi, sb, itT hp])
  ·rw [if_neg hp]; exact zdk (by unfold zv; rw [itT (by simp; omega), zba rfl hi, sb, itF (by simpa using hp), zaB (by omega)]; rfl)) l.length 0 (by omega) (fun j _ h => by omega)
 have h' : zaa l v 0 = _ := h
 rw [h', sb]
 unfold zgh
 cases l.findIdx? (fun x => v == x) <;> rfl
theorem ziU {α : Type} (p : α → Bool) (l : List α) : decide (zgh p l ≥ 0) = l.any p := by
 cases h : l.findIdx? p with
 | none =>
  rw [zky h]
  rw [List.findIdx?_eq_none_iff] at h
  symm
  rw [List.any_eq_false.2 fun x hx => by simpa using h x hx]
  rfl
 | some i =>
  rw [zkz h]
  rw [List.findIdx?_eq_some_iff_getElem] at h
  obtain ⟨hi, hp, _⟩ := h
  symm
  rw [List.any_eq_true.2 ⟨l[i], List.getElem_mem hi, hp⟩]
  simp
theorem zku {l : List Int} (hl : l.length ≤ 1152921504606846976) (v : Int) : zam l v = some (l.any fun x => v == x) := by
 unfold zam
 rw [znL hl, sb, ziU]
def K17 : List Int := [1, 2, 3, 4, 5, 6, 7, 8, 9, 10, 11, 12, 13, 14, 15, 16, 17]
theorem zmX (k : Int) : (K17.any fun x => k == x) = zcW k := by
 unfold zcW K17
 rw [Bool.eq_iff_iff]
 simp
 omega
def hasN (m : List (za × Bool)) (i : Int) (n : Str) : Bool := (mget m (⟨i, n⟩ : za)).getD false
def hasU (m : List (zb × Bool)) (i : Int) (n : Int) : Bool := (mget m (⟨i, n⟩ : zb)).getD false
theorem zeu (m : List (za × Bool)) (i j : Int) (n k : Str) : hasN (mput m ⟨i, n⟩ true) j k = (decide (j = i ∧ k = n) || hasN m j k) := by
 unfold hasN
 rw [zjs]
 by_cases h : j = i ∧ k = n
 ·obtain ⟨rfl, rfl⟩ := h; simp
 ·rw [if_neg (fun e => h (by injection e with e1 e2; exact ⟨e1, e2⟩))]; simp [h]
theorem zkC (m : List (zb × Bool)) (i j : Int) (n k : Int) : hasU (mput m ⟨i, n⟩ true) j k = (decide (j = i ∧ k = n) || hasU m j k) := by
 unfold hasU
 rw [zjs]
 by_cases h : j = i ∧ k = n
 ·obtain ⟨rfl, rfl⟩ := h; simp
 ·rw [if_neg (fun e => h (by injection e with e1 e2; exact ⟨e1, e2⟩))]; simp [h]
theorem zkH (n : Int) : zcb n = some (decide ¬ (n < 1 ∨ n > 536870911 ∨ (19000 ≤ n ∧ n < 20000))) := by
 unfold zcb
 congr 1
 rw [Bool.eq_iff_iff]
 simp
 omega
theorem zlZ (f : Fld) : zcq f = some (f.Repeated && kNum f.Kind) := by
 unfold zcq
 rw [zlP]
 cases f.Repeated <;> rfl
theorem zoi (n : Int) (K : List Int) (nm : List (za × Bool)) (nu : List (zb × Bool)) (f : Fld) : zbu ⟨n, K, nm, nu⟩ f = some (decide ¬ (f.Kind = 17 ∧ (f.Of < 0 ∨ f.Of ≥ n) ∨ f.Kind ≠ 17 ∧ f.Of ≠ 0)) := by
 unfold zbu
 by_cases h : f.Kind = 17
 ·rw [itT (by simpa using h)]
  congr 1
  rw [Bool.eq_iff_iff]
  simp [h]
 ·rw [itF (by simpa using h)]
  congr 1
  rw [Bool.eq_iff_iff]
  simp [h]
theorem znE {n i : Int} {nm : List (za × Bool)} {nu : List (zb × Bool)} {prev : List Fld} {f : Fld} (hf : f.Name.length ≤ 1152921504606846976) (hN : hasN nm i f.Name = prev.any fun g => g.Name == f.Name) (hU : hasU nu i f.Number = prev.any fun g => g.Number == f.Number) :
  zbt ⟨n, K17, nm, nu⟩ i f = some (zbf n prev f, if zbf n prev f = 0 then (mput nm ⟨i, f.Name⟩ true, mput nu ⟨i, f.Number⟩ true) else (nm, nu)) := by
 unfold zbt
 rw [zjm hf, sb]
 have e1 : (mget nm (⟨i, f.Name⟩ : za)).getD false = hasN nm i f.Name := rfl
 have e2 : (mget nu (⟨i, f.Number⟩ : zb)).getD false = hasU nu i f.Number := rfl
 simp only [e1, e2, hN, hU]
 have hz : ∀ (k : Int) (x y : List (za × Bool) × List (zb × Bool)), k ≠ 0 → (if k = 0 then x else y) = y := fun k x y h => if_neg h
 by_cases h1 : zV f.Name = false
 ·have hF : zbf n prev f = 5 := by unfold zbf; rw [if_pos h1]
  rw [hF, hz 5 _ _ (by decide), itT (by rw [h1]; rfl)]
 rw [itF (show (!zV f.Name) = false by simpa using h1)]
 by_cases h2 : (prev.any fun g => g.Name == f.Name) = true
 ·have hF : zbf n prev f = 6 := by unfold zbf; rw [if_neg h1, if_pos h2]
  rw [hF, hz 6 _ _ (by decide), itT h2]
 have h2' : (prev.any fun g => g.Name == f.Name) = false := eq_false_of_ne_true h2
 rw [itF h2', zkH, sb]
 by_cases h3 : f.Number < 1 ∨ f.Number > 536870911 ∨ (19000 ≤ f.Number ∧ f.Number < 20000)
 ·have hF : zbf n prev f = 7 := by unfold zbf; rw [if_neg h1, if_neg h2, if_pos h3]
  rw [hF, hz 7 _ _ (by decide), itT (by rw [decide_eq_false (fun h => h h3)]; rfl)]
 rw [itF (by rw [decide_eq_true h3]; rfl)]
 by_cases h4 : (prev.any fun g => g.Number == f.Number) = true
 ·have hF : zbf n prev f = 8 := by unfold zbf; rw [if_neg h1, if_neg h2, if_neg h3, if_pos h4]
  rw [hF, hz 8 _ _ (by decide), itT h4]
 have h4' : (prev.any fun g => g.Number == f.Number) = false := eq_false_of_ne_true h4
 rw [itF h4', zku (by decide), sb, zmX]
 by_cases h5 : zcW f.Kind = false
 ·have hF : zbf n prev f = 9 := by unfold zbf; rw [if_neg h1, if_neg h2, if_neg h3, if_neg h4, if_pos h5]
  rw [hF, hz 9 _ _ (by decide), itT (by rw [h5]; rfl)]
 rw [itF (show (!zcW f.Kind) = false by simpa using h5), zlZ]
 have hg : (if f.Packed = true then (some (f.Repeated && kNum f.Kind) >>= fun rv4 => some (!rv4)) else some false) = some (decide (f.Packed = true ∧ ¬ (f.Repeated = true ∧ kNum f.Kind = true))) := by
  cases f.Packed <;> cases f.Repeated <;> cases kNum f.Kind <;> rfl
 rw [hg, sb]
 by_cases h6 : f.Packed = true ∧ ¬ (f.Repeated = true ∧ kNum f.Kind = true)
 ·have hF : zbf n prev f = 10 := by unfold zbf; rw [if_neg h1, if_neg h2, if_neg h3, if_neg h4, if_neg h5, if_pos h6]
  rw [hF, hz 10 _ _ (by decide), itT (decide_eq_true h6)]
 rw [itF (decide_eq_false h6), zoi, sb]
 by_cases h7 : f.Kind = 17 ∧ (f.Of < 0 ∨ f.Of ≥ n) ∨ f.Kind ≠ 17 ∧ f.Of ≠ 0
 ·have hF : zbf n prev f = 11 := by unfold zbf; rw [if_neg h1, if_neg h2, if_neg h3, if_neg h4, if_neg h5, if_neg h6, if_pos h7]
  rw [hF, hz 11 _ _ (by decide), itT (by rw [decide_eq_false (fun h => h h7)]; rfl)]
 have hF : zbf n prev f = 0 := by unfold zbf; rw [if_neg h1, if_neg h2, if_neg h3, if_neg h4, if_neg h5, if_neg h6, if_neg h7]
 rw [hF, if_pos rfl, itF (by rw [decide_eq_true h7]; rfl)]
theorem zma {n : Int} {nm : List (za × Bool)} {nu : List (zb × Bool)} {prev : List Mes} {m : Mes} (hm : m.Name.length ≤ 1152921504606846976) (hN : hasN nm (-1) m.Name = prev.any fun g => g.Name == m.Name) :
  zbc ⟨n, K17, nm, nu⟩ m = some (if zV m.Name = false then (2, nm, nu) else if (prev.any fun g => g.Name == m.Name) = true then (3, nm, nu) else if 200 < m.Fields.length then (4, nm, nu) else (0, mput nm ⟨-1, m.Name⟩ true, nu)) := by
 unfold zbc
 rw [zjm hm, sb]
 have e1 : (mget nm (⟨(-1), m.Name⟩ : za)).getD false = hasN nm (-1) m.Name := rfl
 simp only [e1, hN]
 by_cases h1 : zV m.Name = false
 ·rw [if_pos h1, itT (show (!zV m.Name) = true by rw [h1]; rfl)]
 rw [if_neg h1, itF (show (!zV m.Name) = false by simpa using h1)]
 by_cases h2 : (prev.any fun g => g.Name == m.Name) = true
 ·rw [if_pos h2, itT h2]
 have h2' : (prev.any fun g => g.Name == m.Name) = false := eq_false_of_ne_true h2
 rw [if_neg h2, itF h2']
 by_cases h3 : 200 < m.Fields.length
 ·rw [if_pos h3, itT (show decide ((m.Fields.length : Int) > 200) = true by simp; omega)]
 rw [if_neg h3, itF (show decide ((m.Fields.length : Int) > 200) = false by simp; omega)]
structure Met (nm : List (za × Bool)) (nu : List (zb × Bool)) (i : Nat) (prev : List Mes) (p : List Fld) : Prop where
 mes : ∀ n, hasN nm (-1) n = prev.any fun g => g.Name == n
 nam : ∀ n, hasN nm i n = p.any fun g => g.Name == n
 num : ∀ n, hasU nu i n = p.any fun g => g.Number == n
 later : ∀ (j : Nat) n, i < j → hasN nm j n = false
 laterU : ∀ (j : Nat) n, i < j → hasU nu j n = false
theorem Met.step {nm : List (za × Bool)} {nu : List (zb × Bool)} {i : Nat} {prev : List Mes} {p : List Fld} (h : Met nm nu i prev p) (f : Fld) : Met (mput nm ⟨i, f.Name⟩ true) (mput nu ⟨i, f.Number⟩ true) i prev (p ++ [f]) := by
 refine ⟨fun n => ?_, fun n => ?_, fun n => ?_, fun j n hj => ?_, fun j n hj => ?_⟩
 ·rw [zeu, h.mes, decide_eq_false (by omega), Bool.false_or]
 ·rw [zeu, h.nam, List.any_append, Bool.or_comm]
  congr 1
  simp only [List.any_cons, List.any_nil, Bool.or_false]
  rw [Bool.eq_iff_iff]; simp; exact eq_comm
 ·rw [zkC, h.num, List.any_append, Bool.or_comm]
  congr 1
  simp only [List.any_cons, List.any_nil, Bool.or_false]
  rw [Bool.eq_iff_iff]; simp; exact eq_comm
 ·rw [zeu, h.later j n hj, decide_eq_false (by omega)]; rfl
 ·rw [zkC, h.laterU j n hj, decide_eq_false (by omega)]; rfl
theorem znz {s : List Mes} {i : Nat} {prev : List Mes} {m : Mes} (hb : m.Fields.length ≤ 140737488351232) (hn : ∀ f ∈ m.Fields, f.Name.length ≤ 140737488351232) :
  ∀ (l : List Fld) (k : Nat) (nm : List (za × Bool)) (nu : List (zb × Bool)), m.Fields.drop k = l → k ≤ m.Fields.length → Met nm nu i prev (m.Fields.take k) →
   (∃ j w, msgF s.length (m.Fields.take k) l = some (j, w) ∧ zaO K17 s i m k nm nu = some (.inr ((j : Int), w))) ∨
   (msgF s.length (m.Fields.take k) l = none ∧ ∃ nm' nu', zaO K17 s i m k nm nu = some (.inl (nm', nu')) ∧ Met nm' nu' i prev m.Fields) := by
 intro l
 induction l with
 | nil =>
  intro k nm nu hd hk hM
  have := zcP hd
  have hkl : k = m.Fields.length := by omega
  subst hkl
  refine .inr ⟨rfl, nm, nu, zdE ?_, by simpa using hM⟩
  unfold zY
  rw [itF (by simp)]
 | cons f l ih =>
  intro k nm nu hd hk hM
  obtain ⟨hi, hc, hd'⟩ := zck hd
  have hf := hn f (by rw [← hc]; exact List.getElem_mem hi)
  have hfld := znE (n := (s.length : Int)) (i := (i : Int)) (nm := nm) (nu := nu) (prev := m.Fields.take k) (f := f) (by omega) (hM.nam _) (hM.num _)
  have htk : m.Fields.take (k + 1) = m.Fields.take k ++ [f] := by rw [List.take_succ_eq_append_getElem hi, hc]
  have hlen : (m.Fields.take k).length = k := by simp; omega
  obtain ⟨bd, _⟩ := znD (s.length : Int) (m.Fields.take k) f
  rw [msgF]
  by_cases h0 : zbf s.length (m.Fields.take k) f = 0
  ·rw [if_neg (by omega)]
   rw [h0, if_pos rfl] at hfld
   have hstep : zY K17 s i m k nm nu = some (.inl (((k + 1 : Nat) : Int), mput nm ⟨i, f.Name⟩ true, mput nu ⟨i, f.Number⟩ true)) := by
    unfold zY
    rw [itT (by simp; omega), zba rfl hi, sb, hc, hfld, sb]
    dsimp only
    rw [itF (show ((0 : Int) != 0) = false from rfl), zaB (by omega)]
    rfl
   rw [zfN hstep, ← htk]
   exact ih (k + 1) _ _ hd' (by omega) (by rw [htk]; exact hM.step f)
  ·rw [if_pos (by omega)]
   rw [if_neg h0] at hfld
   refine .inl ⟨k, _, by rw [hlen], zdE ?_⟩
   unfold zY
   rw [itT (by simp; omega), zba rfl hi, sb, hc, hfld, sb]
   dsimp only
   rw [itT (show (zbf (s.length : Int) (m.Fields.take k) f != 0) = true by simpa using h0)]
theorem zny {s : List Mes} (hw : WS s) : ∀ (l : List Mes) (i : Nat) (nm : List (za × Bool)) (nu : List (zb × Bool)), s.drop i = l → i ≤ s.length → Met nm nu i (s.take i) [] →
  zbC K17 s i nm nu = some (match chkF s.length (s.take i) l with | some (j, k, w) => .inr ((j : Int), k, w) | none => .inl ()) := by
 intro l
 induction l with
 | nil =>
  intro i nm nu hd hi hM
  have := zcP hd
  refine zbi ?_
  unfold zQ
  rw [itF (by simp; omega)]
  rfl
 | cons m l ih =>
  intro i nm nu hd hi hM
  obtain ⟨hil, hc, hd'⟩ := zck hd
  obtain ⟨w1, w2⟩ := hw
  obtain ⟨m1, m2, m3⟩ := w2 m (by rw [← hc]; exact List.getElem_mem hil)
  have hmes := zma (n := (s.length : Int)) (nm := nm) (nu := nu) (prev := s.take i) (m := m) (by omega) (hM.mes _)
  have htk : s.take (i + 1) = s.take i ++ [m] := by rw [List.take_succ_eq_append_getElem hil, hc]
  have hlen : (s.take i).length = i := by simp; omega
  rw [chkF]
  by_cases h1 : zV m.Name = false
  ·rw [if_pos h1] at hmes ⊢
   refine zbi ?_
   unfold zQ
   rw [itT (by simp; omega), zba rfl hil, sb, hc, hmes, sb]
   dsimp only
   rw [itT (show ((2 : Int) != 0) = true from rfl), hlen]
  rw [if_neg h1] at hmes ⊢
  by_cases h2 : ((s.take i).any fun g => g.Name == m.Name) = true
  ·rw [if_pos h2] at hmes ⊢
   refine zbi ?_
   unfold zQ
   rw [itT (by simp; omega), zba rfl hil, sb, hc, hmes, sb]
   dsimp only
   rw [itT (show ((3 : Int) != 0) = true from rfl), hlen]
  rw [if_neg h2] at hmes ⊢
  by_cases h3 : 200 < m.Fields.length
  ·rw [if_pos h3] at hmes ⊢
   refine zbi ?_
   unfold zQ
   rw [itT (by simp; omega), zba rfl hil, sb, hc, hmes, sb]
   dsimp only
   rw [itT (show ((4 : Int) != 0) = true from rfl), hlen]
  rw [if_neg h3] at hmes ⊢
  have hM0 : Met (mput nm ⟨-1, m.Name⟩ true) nu i (s.take i ++ [m]) (m.Fields.take 0) := by
   refine ⟨fun n => ?_, fun n => ?_, fun n => ?_, fun j n hj => ?_, fun j n hj => hM.laterU j n hj⟩
   ·rw [zeu, hM.mes, List.any_append, Bool.or_comm]
    congr 1
    simp only [List.any_cons, List.any_nil, Bool.or_false]
    rw [Bool.eq_iff_iff]; simp; exact eq_comm
   ·rw [zeu, hM.nam, decide_eq_false (by omega)]; rfl
   ·rw [hM.num]; rfl
   ·rw [zeu, hM.later j n hj, decide_eq_false (by omega)]; rfl
  have hl2 := znz (s := s) (i := i) m2 m3 m.Fields 0 _ nu rfl (by omega) hM0
  simp only [List.take_zero] at hl2
  rcases hl2 with ⟨j, w, g1, g2⟩ | ⟨g1, nm', nu', g2, g3⟩
  ·rw [g1]
   refine zbi ?_
   unfold zQ
   have g2' : zaO K17 s i m 0 (mput nm ⟨-1, m.Name⟩ true) nu = _ := g2
   rw [itT (by simp; omega), zba rfl hil, sb, hc, hmes, sb]
   dsimp only
   rw [itF (show ((0 : Int) != 0) = false from rfl), g2', sb]
   simp only [hlen]
  ·rw [g1]
   have hstep : zQ K17 s i nm nu = some (.inl (((i + 1 : Nat) : Int), nm', nu')) := by
    unfold zQ
    have g2' : zaO K17 s i m 0 (mput nm ⟨-1, m.Name⟩ true) nu = _ := g2
    rw [itT (by simp; omega), zba rfl hil, sb, hc, hmes, sb]
    dsimp only
    rw [itF (show ((0 : Int) != 0) = false from rfl), g2', sb]
    dsimp only
    rw [zaB (by omega)]
    rfl
   rw [zfM hstep]
   simp only []
   rw [← htk]
   refine ih (i + 1) nm' nu' hd' (by omega) ⟨fun n => ?_, fun n => ?_, fun n => ?_, fun j n hj => g3.later j n (by omega), fun j n hj => g3.laterU j n (by omega)⟩
   ·rw [htk]; exact g3.mes n
   ·rw [g3.later (i + 1) n (by omega)]; rfl
   ·rw [g3.laterU (i + 1) n (by omega)]; rfl
theorem znx {s : List Mes} (hw : WS s) : zcX s = some (⟨(zfh s).1, (zfh s).2.1, (zfh s).2.2⟩, if (zfh s).2.2 = 0 then 0 else 9) := by
 unfold zcX zfh
 by_cases h : s.length = 0 ∨ 100 < s.length
 ·rw [itT (by simp; omega), if_pos h]
  rfl
 ·rw [itF (by simp; omega), if_neg h, zpm, sb]
  have hl := zny hw s 0 [] [] rfl (by omega) ⟨fun n => rfl, fun n => rfl, fun n => rfl, fun j n _ => rfl, fun j n _ => rfl⟩
  simp only [List.take_zero] at hl
  have hl' : zbC [1, 2, 3, 4, 5, 6, 7, 8, 9, 10, 11, 12, 13, 14, 15, 16, 17] s 0 [] [] = _ := hl
  rw [hl', sb]
  cases hc : chkF s.length [] s with
  | none => rfl
  | some q =>
   obtain ⟨i, k, w⟩ := q
   have := zpb _ _ _ _ _ _ hc
   simp only
   rw [if_neg (by omega)]
theorem zoB {s : List Mes} (hw : WS s) : zcY s = some (ziE s) := by
 unfold zcY ziE
 rw [znx hw, sb]
 by_cases h : (zfh s).2.2 = 0 <;> simp [h]
end Go.Proofs.YtmghlnfhcdjbnaaGreatDoor
namespace Go.Proofs.YtmghlnfhcdjbnaaGreatDoor
open Go
set_option linter.unusedVariables false
def go12 {σ ρ χ : Type} (kb : σ → χ → Option (σ ⊕ ρ)) : List χ → σ → Option (σ ⊕ ρ)
 | [], s => some (.inl s)
 | p :: ps, s => match kb s p with
  | some (.inl s') => go12 kb ps s'
  | some (.inr r) => some (.inr r)
  | none => none
theorem zke {σ ρ χ : Type} {kb : σ → χ → Option (σ ⊕ ρ)} {s s' : σ} {x : χ} (h : kb s x = some (.inl s')) : rnd kb (.inl s) x = some (true, .inl s') := by simp only [rnd, h]
theorem zkf {σ ρ χ : Type} {kb : σ → χ → Option (σ ⊕ ρ)} {s : σ} {r : ρ} {x : χ} (h : kb s x = some (.inr r)) : rnd kb (.inl s) x = some (false, .inr r) := by simp only [rnd, h]
theorem znn {σ ρ : Type} {kb : σ → List UInt8 → Option (σ ⊕ ρ)} {v : List (List UInt8)} (hv : v.length ≤ 1152921504606846976) : ∀ (l : List (List UInt8)) (i : Nat) (s : σ) (o : σ ⊕ ρ), v.drop i = l → go12 kb l s = some o →
  zJ (rnd kb) v (i : Int) (.inl s) = some (match o with | .inl s' => .inl (.inl s') | .inr r => .inr (.inr r)) := by
 intro l
 induction l with
 | nil =>
  intro i s o hd h
  cases h
  have := zcP hd
  refine zaX ?_
  unfold zo
  rw [itF (by simp; omega)]
 | cons x l ih =>
  intro i s o hd h
  obtain ⟨hk, hx, hd'⟩ := zck hd
  rw [go12] at h
  cases hb : kb s x with
  | none => rw [hb] at h; cases h
  | some q =>
   rw [hb] at h
   cases q with
   | inl s' =>
    refine (zci (v2' := ((i + 1 : Nat) : Int)) (sg2' := .inl s') ?_).trans (ih (i + 1) s' o hd' h)
    unfold zo
    rw [itT (by simp; omega), zba rfl hk, sb, hx, zke hb, sb, itF (c := !true) rfl, zaB (by omega)]
    push_cast; rfl
   | inr r =>
    cases h
    refine zaX ?_
    unfold zo
    rw [itT (by simp; omega), zba rfl hk, sb, hx, zkf hb, sb, itT (c := !false) rfl]
theorem zqo {σ ρ : Type} {kb : σ → List UInt8 → Option (σ ⊕ ρ)} {v : List (List UInt8)} (hv : v.length ≤ 1152921504606846976) {s : σ} {o : σ ⊕ ρ} (h : go12 kb v s = some o) : zI v (rnd kb) (.inl s) = some o := by
 have h1 := znn hv v 0 s o rfl h
 have h2 : zJ (rnd kb) v 0 (.inl s) = _ := h1
 unfold zI
 rw [h2, sb]
 cases o <;> rfl
theorem zkD : ∀ f : List UInt8, (idxB f 46 = -1 ∧ ∀ c ∈ f, c ≠ 46) ∨ ∃ x y, f = x ++ 46 :: y ∧ (∀ c ∈ x, c ≠ 46) ∧ idxB f 46 = (x.length : Int)
 | [] => .inl ⟨rfl, by simp⟩
 | c :: f => by
  by_cases hc : c = 46
  ·subst hc
   exact .inr ⟨[], f, rfl, by simp, by simp [idxB]⟩
  ·rcases zkD f with ⟨h1, h2⟩ | ⟨x, y, rfl, h2, h3⟩
   ·refine .inl ⟨by simp [idxB, hc, h1], fun d hd => ?_⟩
    rcases List.mem_cons.1 hd with rfl | hd
    ·exact hc
    ·exact h2 d hd
   ·refine .inr ⟨c :: x, y, rfl, fun d hd => ?_, ?_⟩
    ·rcases List.mem_cons.1 hd with rfl | hd
     ·exact hc
     ·exact h2 d hd
    ·have : ((x.length : Int) == -1) = false := by simp <;> omega
     simp [idxB, hc, h3, this]
theorem zhH (f : List UInt8) : zcH f [46] = some (idxB f 46) := by
 unfold zcH zaG
 by_cases h : ([46] : List UInt8) = f
 ·subst h; rfl
 ·rw [itF (by simp [h]), itT (by rfl), show idx ([46] : List UInt8) 0 = some 46 from rfl, sb]
  unfold zao
  rfl
theorem zml {σ ρ : Type} {kb : σ → List UInt8 → Option (σ ⊕ ρ)} : ∀ (n : Nat) (f : List UInt8) (s : σ) (o : σ ⊕ ρ), f.length ≤ n → f.length ≤ 1152921504606846976 → go12 kb (zai f) s = some o →
  ∃ q, zaS (rnd kb) [46] 0 f (.inl s) = some q ∧ (match q with | .inl u => (rnd kb u.2 u.1 >>= fun y => some y.2) | .inr u => some u) = some o := by
 intro n
 induction n with
 | zero =>
  intro f s o hn _ h
  have : f = [] := List.eq_nil_of_length_eq_zero (by omega)
  subst this
  refine ⟨.inl ([], .inl s), zbB ?_, ?_⟩
  ·unfold zG
   rw [zhH, sb, itT (by rfl)]
  ·show (rnd kb (.inl s) [] >>= fun y => some y.2) = some o
   rw [zai, go12] at h
   cases hb : kb s [] with
   | none => rw [hb] at h; cases h
   | some q =>
    rw [hb] at h
    cases q with
    | inl s' => cases h; rw [zke hb]; rfl
    | inr r => cases h; rw [zkf hb]; rfl
 | succ n ih =>
  intro f s o hn hl h
  rcases zkD f with ⟨h1, h2⟩ | ⟨x, y, rfl, h2, h3⟩
  ·rw [zfK h2, go12] at h
   refine ⟨.inl (f, .inl s), zbB ?_, ?_⟩
   ·unfold zG
    rw [zhH, sb, h1, itT (by rfl)]
   ·show (rnd kb (.inl s) f >>= fun y => some y.2) = some o
    cases hb : kb s f with
    | none => rw [hb] at h; cases h
    | some q =>
     rw [hb] at h
     cases q with
     | inl s' => cases h; rw [zke hb]; rfl
     | inr r => cases h; rw [zkf hb]; rfl
  ·rw [ziM h2, go12] at h
   have hlen : (x ++ 46 :: y).length = x.length + (y.length + 1) := by simp
   have c1 : cut (x ++ 46 :: y) 0 (IntKind.i64.wrap ((x.length : Int) + 0)) = some x := by
    rw [zaB (by omega), zhW (i := 0) (a := 0) (b := x.length) rfl (by omega) (Nat.zero_le _) (by omega)]
    simp
   have c2 : cut (x ++ 46 :: y) (IntKind.i64.wrap ((x.length : Int) + (([46] : List UInt8).length : Int))) ((x ++ 46 :: y).length : Int) = some y := by
    have e : (x.length : Int) + (([46] : List UInt8).length : Int) = ((x.length + 1 : Nat) : Int) := by simp
    rw [e, zaB (by omega), zhW (a := x.length + 1) (b := (x ++ 46 :: y).length) rfl rfl (by omega) (Nat.le_refl _)]
    have e2 : x ++ 46 :: y = (x ++ [46]) ++ y := by simp
    have e3 : (x ++ 46 :: y).drop (x.length + 1) = y := by rw [e2, List.drop_left' (by simp)]
    rw [e3, List.take_of_length_le (by omega)]
   cases hb : kb s x with
   | none => rw [hb] at h; cases h
   | some q =>
    rw [hb] at h
    cases q with
    | inl s' =>
     obtain ⟨q, hq, hq2⟩ := ih y s' o (by omega) (by omega) h
     refine ⟨q, (zdZ (f2' := y) (sg5' := .inl s') ?_).trans hq, hq2⟩
     unfold zG
     rw [zhH, sb, h3, itF (by simp), c1, sb, zke hb, sb, itF (c := !true) rfl, c2, sb]
    | inr r =>
     cases h
     refine ⟨.inr (.inr r), zbB ?_, rfl⟩
     unfold zG
     rw [zhH, sb, h3, itF (by simp), c1, sb, zkf hb, sb, itT (c := !false) rfl]
theorem zkg {σ ρ : Type} {kb : σ → List UInt8 → Option (σ ⊕ ρ)} {p : List UInt8} (hp : p.length ≤ 1152921504606846976) {s : σ} {o : σ ⊕ ρ} (h : go12 kb (zai p) s = some o) : zaw [46] p 0 (rnd kb) (.inl s) = some o := by
 obtain ⟨q, h1, h2⟩ := zml p.length p s o (Nat.le_refl _) hp h
 unfold zaw
 rw [itF (by rfl), h1, sb]
 cases q with
 | inl u => exact h2
 | inr u => exact h2
theorem zlQ (x y : List UInt8) : (decide (x ≤ y) || decide (y ≤ x)) = true := by
 simp only [Bool.or_eq_true, decide_eq_true_eq]
 exact List.le_total x y
theorem zlR (x y z : List UInt8) (h : decide (x ≤ y) = true) (k : decide (y ≤ z) = true) : decide (x ≤ z) = true := by
 simp only [decide_eq_true_eq] at h k ⊢
 exact List.le_trans h k
theorem ziL (l : List (List UInt8)) : (zcG l).Perm l := List.mergeSort_perm l _
theorem zgV (l : List (List UInt8)) : (zcG l).Pairwise (fun x y => x ≤ y) := by
 have := List.pairwise_mergeSort (le := fun x y : List UInt8 => decide (x ≤ y)) (fun x y z => zlR x y z) (fun x y => zlQ x y) l
 exact this.imp fun h => by simpa using h
theorem zer : ∀ (l : List (List UInt8)) (p : List UInt8), (p :: l).Pairwise (fun x y => x ≤ y) → ∀ x, x ∈ zcN (some p) l ↔ x ∈ l ∧ x ≠ p
 | [], p, _, x => by simp [zcN]
 | y :: l, p, h, x => by
  obtain ⟨h1, h2⟩ := List.pairwise_cons.1 h
  obtain ⟨h3, h4⟩ := List.pairwise_cons.1 h2
  have hpy := h1 y List.mem_cons_self
  rw [zcN]
  by_cases e : p = y
  ·subst e
   rw [if_pos rfl, zer l p h2 x]
   constructor
   ·rintro ⟨a, b⟩; exact ⟨List.mem_cons_of_mem _ a, b⟩
   ·rintro ⟨a, b⟩
    rcases List.mem_cons.1 a with rfl | a
    ·exact absurd rfl b
    ·exact ⟨a, b⟩
  ·rw [if_neg (by simpa using e), List.mem_cons, zer l y h2 x]
   constructor
   ·rintro (rfl | ⟨a, b⟩)
    ·exact ⟨List.mem_cons_self, fun e2 => e e2.symm⟩
    ·refine ⟨List.mem_cons_of_mem _ a, fun e2 => ?_⟩
     subst e2
     exact e (List.le_antisymm hpy (h3 x a))
   ·rintro ⟨a, b⟩
    rcases List.mem_cons.1 a with rfl | a
    ·exact .inl rfl
    ·by_cases e2 : x = y
     ·exact .inl e2
     ·exact .inr ⟨a, e2⟩
theorem zfi : ∀ (l : List (List UInt8)) (p : List UInt8), (p :: l).Pairwise (fun x y => x ≤ y) → (zcN (some p) l).Nodup
 | [], p, _ => by simp [zcN]
 | y :: l, p, h => by
  obtain ⟨h1, h2⟩ := List.pairwise_cons.1 h
  rw [zcN]
  split
  ·exact zfi l y h2
  ·refine List.nodup_cons.2 ⟨fun hm => ?_, zfi l y h2⟩
   exact ((zer l y h2 y).1 hm).2 rfl
theorem zmS {l : List (List UInt8)} (h : l.Pairwise (fun x y => x ≤ y)) (x : List UInt8) : x ∈ zag l ↔ x ∈ l := by
 cases l with
 | nil => simp [zag, zcN]
 | cons y l =>
  rw [zag, zcN, if_neg (by simp), List.mem_cons, zer l y h x, List.mem_cons]
  constructor
  ·rintro (a | ⟨a, _⟩)
   ·exact .inl a
   ·exact .inr a
  ·rintro (a | a)
   ·exact .inl a
   ·by_cases e : x = y
    ·exact .inl e
    ·exact .inr ⟨a, e⟩
theorem zkt {l : List (List UInt8)} (h : l.Pairwise (fun x y => x ≤ y)) : (zag l).Nodup := by
 cases l with
 | nil => simp [zag, zcN]
 | cons y l =>
  rw [zag, zcN, if_neg (by simp)]
  exact List.nodup_cons.2 ⟨fun hm => ((zer l y h y).1 hm).2 rfl, zfi l y h⟩
theorem zks : ∀ (l : List (List UInt8)) (p : Option (List UInt8)), (zcN p l).length ≤ l.length
 | [], _ => Nat.le_refl _
 | x :: l, p => by
  have := zks l (some x)
  rw [zcN]
  split <;> simp <;> omega
def zgk (l : List (List UInt8)) : List (List UInt8) := zag (zcG l)
theorem zgM (l : List (List UInt8)) (x : List UInt8) : x ∈ zgk l ↔ x ∈ l := (zmS (zgV l) x).trans (ziL l).mem_iff
theorem zme (l : List (List UInt8)) : (zgk l).Nodup := zkt (zgV l)
theorem zkX (l : List (List UInt8)) : (zgk l).length ≤ l.length := by
 have h1 := zks (zcG l) none
 have h2 := (ziL l).length_eq
 unfold zgk zag
 omega
theorem zou (l : List (List UInt8)) : (zgk l).length = 0 ↔ l.length = 0 := by
 constructor
 ·intro h
  cases l with
  | nil => rfl
  | cons x l =>
   have := (zgM (x :: l) x).2 List.mem_cons_self
   rw [List.eq_nil_of_length_eq_zero h] at this
   cases this
 ·intro h
  have := zkX l
  omega
def zby (x : List UInt8) : Mes := ⟨x, []⟩
theorem zpJ (n : Int) : ∀ (l : List (List UInt8)) (prev : List Mes), l.Nodup → (∀ x ∈ l, (prev.any fun g => g.Name == x) = false) →
  (chkF n prev (l.map zby) = none ∧ l.all zV = true) ∨ ∃ i, chkF n prev (l.map zby) = some (i, -1, 2) ∧ l.all zV = false
 | [], prev, _, _ => .inl ⟨rfl, rfl⟩
 | x :: l, prev, hn, hp => by
  obtain ⟨n1, n2⟩ := List.nodup_cons.1 hn
  rw [List.map_cons, chkF, List.all_cons]
  cases hx : zV x with
  | false => exact .inr ⟨_, by rw [if_pos (show zV (zby x).Name = false from hx)], rfl⟩
  | true =>
   rw [if_neg (show ¬ zV (zby x).Name = false by simp [zby, hx]), if_neg (by rw [show (zby x).Name = x from rfl, hp x List.mem_cons_self]; simp), if_neg (by simp [zby])]
   have hm : msgF n [] (zby x).Fields = none := rfl
   rw [hm, Bool.true_and]
   refine zpJ n l (prev ++ [zby x]) n2 fun y hy => ?_
   rw [List.any_append, hp y (List.mem_cons_of_mem _ hy)]
   have : y ≠ x := fun e => n1 (e ▸ hy)
   simp [zby]
   exact fun e => this e.symm
theorem zpA {l : List (List UInt8)} (hn : l.Nodup) (hl : l.length ≤ 100) : ziE (l.map zby) = (l.all zV && decide (1 ≤ l.length)) := by
 unfold ziE zfh
 by_cases h0 : l.length = 0
 ·rw [if_pos (.inl (by simpa using h0))]
  simp [h0]
 ·rw [if_neg (by rw [List.length_map]; omega)]
  rcases zpJ ((l.map zby).length : Int) l [] hn (fun x _ => rfl) with ⟨h1, h2⟩ | ⟨i, h1, h2⟩
  ·rw [h1, h2]; simp; omega
  ·rw [h1, h2]; rfl
theorem zmc {l : List (List UInt8)} (hl : (zag l).length ≤ 1048576) : ∀ (t : List (List UInt8)) (i : Nat), (zag l).drop i = t → zbm l (((zag l).take i).map zby ++ List.replicate t.length (⟨[], []⟩ : Mes)) (i : Int) = some ((zag l).map zby) := by
 intro t
 induction t with
 | nil =>
  intro i hd
  have := zcP hd
  refine zfx ?_
  unfold zaf
  rw [itF (by simp; omega), List.take_of_length_le this]
  simp
 | cons x t ih =>
  intro i hd
  obtain ⟨hk, hx, hd'⟩ := zck hd
  have hlen : (((zag l).take i).map zby).length = i := by simp; omega
  refine (zfw (sv' := ((zag l).take (i + 1)).map zby ++ List.replicate t.length (⟨[], []⟩ : Mes)) (v2' := ((i + 1 : Nat) : Int)) ?_).trans (ih (i + 1) hd')
  unfold zaf
  have h1 : idx (((zag l).take i).map zby ++ List.replicate (x :: t).length (⟨[], []⟩ : Mes)) (i : Int) = some (⟨[], []⟩ : Mes) := by
   rw [zba rfl (by rw [List.length_append, hlen]; simp)]
   rw [List.getElem_append_right (by omega)]
   simp
  rw [itT (by simp; omega), zba rfl hk, sb, hx, h1, sb, zaB (by omega)]
  have h2 : (((zag l).take i).map zby ++ List.replicate (x :: t).length (⟨[], []⟩ : Mes)).set (Int.toNat (i : Int)) (⟨x, []⟩ : Mes) = ((zag l).take (i + 1)).map zby ++ List.replicate t.length (⟨[], []⟩ : Mes) := by
   rw [Int.toNat_natCast, List.set_append_right _ _ (by omega), hlen, Nat.sub_self, List.length_cons, List.replicate_succ, List.set_cons_zero, List.take_succ_eq_append_getElem hk, hx, List.map_append, List.append_assoc]
   rfl
  rw [h2]; push_cast; rfl
theorem zkp : ∀ (l acc : List (List UInt8)), acc.length + l.length ≤ 1048576 → go12 (fun s x => zh s x) l acc = some (.inl (acc ++ l))
 | [], acc, _ => by simp [go12]
 | x :: l, acc, h => by
  simp only [List.length_cons] at h
  have hb : zh acc x = some (.inl (acc ++ [x])) := by
   unfold zh
   rw [zls (by simp; omega), sb]
  rw [go12, hb]
  simp only
  rw [zkp l (acc ++ [x]) (by simp; omega), List.append_assoc]
  rfl
theorem zoH {l : List (List UInt8)} (hl : l.length ≤ 1048576) : zq l = some (zcG l) := by
 unfold zq zC zp zbg zmN
 rw [zqo (by omega) (zkp l [] (by simpa using hl)), sb]
 simp only [List.nil_append]
 rw [sb, sb, if_pos (by omega), sb]
theorem zhq {l : List (List UInt8)} (hl : l.length ≤ 100) (hx : ∀ x ∈ l, x.length ≤ 140737488351232) : zcc l = some (l.all zV && decide (1 ≤ l.length)) := by
 have hle := zkX l
 have hs : (zag (zcG l)).length ≤ l.length := hle
 unfold zcc zap
 rw [sb, zoH (by omega), sb, zqf (a := (zag (zcG l)).length) rfl (Int.le_refl _) (by omega), sb]
 have h1 := zmc (l := zcG l) (by omega) (zag (zcG l)) 0 rfl
 have h2 : zbm (zcG l) (List.replicate (zag (zcG l)).length (⟨[], []⟩ : Mes)) 0 = some ((zag (zcG l)).map zby) := by simpa using h1
 rw [h2, sb, zoB ⟨by simp; omega, fun m hm => ?_⟩, sb]
 ·show some (ziE ((zgk l).map zby)) = _
  rw [zpA (zme l) (by omega)]
  congr 1
  have h3 : (zag (zcG l)).all zV = l.all zV := by
   rw [Bool.eq_iff_iff, List.all_eq_true, List.all_eq_true]
   exact ⟨fun h x hx => h x ((zgM l x).2 hx), fun h x hx => h x ((zgM l x).1 hx)⟩
  have h4 := zou l
  rw [show (zgk l).all zV = l.all zV from h3]
  congr 1
  have h5 : (zag (zcG l)).length = 0 ↔ l.length = 0 := h4
  rw [Bool.eq_iff_iff]
  simp only [decide_eq_true_eq]
  omega
 ·obtain ⟨x, hxm, rfl⟩ := List.mem_map.1 hm
  exact ⟨hx x ((zgM l x).1 hxm), by simp [zby], fun f hf => by cases hf⟩
theorem ziN : ∀ (l acc : List (List UInt8)), acc.length ≤ 65 → ∃ j, go12 (fun s x => zaY s x) l acc = some (if acc.length + l.length ≤ 65 then .inl (acc ++ l) else .inr j)
 | [], acc, h => ⟨[], by rw [go12, if_pos (by simpa using h)]; simp⟩
 | x :: l, acc, h => by
  by_cases h65 : acc.length = 65
  ·refine ⟨acc, ?_⟩
   have hb : zaY acc x = some (.inr acc) := by
    unfold zaY
    rw [itT (by simp [h65])]
   rw [go12, hb, if_neg (by simp; omega)]
  ·have hb : zaY acc x = some (.inl (acc ++ [x])) := by
    unfold zaY
    rw [itF (by simp; omega), zls (by simp; omega), sb]
   obtain ⟨j, hj⟩ := ziN l (acc ++ [x]) (by simp; omega)
   refine ⟨j, ?_⟩
   rw [go12, hb]
   simp only
   rw [hj]
   have e : (acc ++ [x]).length + l.length = acc.length + (x :: l).length := by simp; omega
   rw [e, List.append_assoc]
   rfl
theorem zjA {p : List UInt8} (hp : p.length ≤ 140737488351232) : zdh p = some (if (zy p).2 then ((zy p).1, 0) else ([], 12)) := by
 unfold zdh zcw zcx
 rw [sb, sb]
 obtain ⟨j, hj⟩ := ziN (zai p) [] (by simp)
 rw [zkg (by omega) hj, sb]
 have hne : 1 ≤ (zai p).length := by
  have := zfA p
  cases h : zai p with
  | nil => exact absurd h this
  | cons x l => simp
 by_cases h65 : (zai p).length ≤ 65
 ·rw [if_pos (by simpa using h65)]
  simp only [List.nil_append]
  rw [zhq (by omega) (fun x hx => by have := zjF p x hx; omega), sb]
  unfold zy
  cases ha : (zai p).all zV
  ·rfl
  ·simp only [Bool.true_and, hne, h65, decide_true, if_true] <;> rfl
 ·rw [if_neg (by simpa using h65)]
  unfold zy
  rw [if_neg (by simp [h65])]
theorem zdK {p : List UInt8} (hp : p.length ≤ 140737488351232) : zaV p = some (zy p).2 := by
 unfold zaV
 rw [zjA hp, sb]
 cases h : (zy p).2 <;> rfl
theorem zmA : ∀ l : List (List UInt8), ([46] : List UInt8).intercalate l = zbQ l
 | [] => rfl
 | [x] => by simp [List.intercalate, zbQ]
 | x :: y :: l => by
  have := zmA (y :: l)
  rw [zbQ, ← this]
  simp [List.intercalate, List.intersperse]
theorem zjp : ∀ (l : List (List UInt8)) (m : Nat), (∀ x ∈ l, x.length ≤ m) → (zbQ l).length ≤ l.length * (m + 1)
 | [], m, _ => by simp [zbQ]
 | [x], m, h => by have := h x List.mem_cons_self; simp [zbQ]; omega
 | x :: y :: l, m, h => by
  have h1 := h x List.mem_cons_self
  have h2 := zjp (y :: l) m (fun z hz => h z (List.mem_cons_of_mem _ hz))
  rw [zbQ]
  simp only [List.length_append, List.length_cons, Nat.add_mul] at h2 ⊢
  omega
theorem zoy {l : List (List UInt8)} (hl : l.length * 16 ≤ 140737488351232) (hx : ∀ x ∈ l, x.length ≤ 140737488351232) : zew l = some (if zcI l then (zbQ l, 0) else ([], 12)) := by
 unfold zew
 by_cases h65 : l.length ≤ 65
 ·rw [itF (by simp; omega), zhq (by omega) hx, sb, sb]
  have hn : zcI l = (l.all zV && decide (1 ≤ l.length)) := by
   unfold zcI
   congr 1
   simp [h65]
  rw [← hn]
  cases h : zcI l with
  | false => rfl
  | true =>
   rw [itF (c := !true) rfl, if_pos rfl]
   have hs : ∀ x ∈ l, x.length ≤ 60 := fun x hx => by
    unfold zcI at h
    simp only [Bool.and_eq_true, List.all_eq_true] at h
    have h1 := h.1 x hx
    unfold zV at h1
    simp only [Bool.and_eq_true, decide_eq_true_eq] at h1
    exact h1.2.2
   have hj := zjp l 60 hs
   have : l.length * 61 ≤ 65 * 61 := Nat.mul_le_mul_right _ h65
   unfold strings_Join zmC
   rw [zmA, if_pos ⟨by omega, by omega⟩, sb]
 ·rw [itT (by simp; omega), sb, itT (c := true) rfl]
  have : zcI l = false := by
   unfold zcI
   simp [h65]
  rw [this]; rfl
theorem zkS : ∀ f : List UInt8, (∀ c ∈ f, c ≠ 46) ∨ ∃ x y, f = x ++ 46 :: y ∧ ∀ c ∈ y, c ≠ 46
 | [] => .inl (by simp)
 | c :: f => by
  rcases zkS f with h | ⟨x, y, rfl, h⟩
  ·by_cases hc : c = 46
   ·exact .inr ⟨[], f, by rw [hc]; rfl, h⟩
   ·refine .inl fun d hd => ?_
    rcases List.mem_cons.1 hd with rfl | hd
    ·exact hc
    ·exact h d hd
  ·exact .inr ⟨c :: x, y, rfl, h⟩
theorem ne46 {c : UInt8} (h : c ≠ 46) : ((c.toNat : Int) == ((46 : UInt8).toNat : Int)) = false := by
 have : c.toNat ≠ (46 : UInt8).toNat := fun e => h (UInt8.toNat_inj.1 e)
 simp only [beq_eq_false_iff_ne, ne_eq]
 omega
theorem zmY {f : List UInt8} (hf : f.length ≤ 1152921504606846976) (h : ∀ c ∈ f, c ≠ 46) : ∀ k : Nat, k ≤ f.length → zF ((46 : UInt8).toNat : Int) f ((k : Int) - 1) = some (.inl ()) := by
 intro k
 induction k with
 | zero =>
  intro _
  refine zaD ?_
  unfold zi
  rw [itF (by simp)]
 | succ k ih =>
  intro hk
  refine (zaC (i' := (k : Int) - 1) ?_).trans (ih (by omega))
  unfold zi
  have e : ((k + 1 : Nat) : Int) - 1 = (k : Int) := by omega
  rw [e, itT (by simp), zba rfl (show k < f.length by omega), sb, itF (ne46 (h _ (List.getElem_mem _))), zaB (by omega)]
theorem zmZ {x y : List UInt8} (hf : (x ++ 46 :: y).length ≤ 1152921504606846976) (h : ∀ c ∈ y, c ≠ 46) : ∀ k : Nat, k ≤ y.length → zF ((46 : UInt8).toNat : Int) (x ++ 46 :: y) ((x.length + k : Nat) : Int) = some (.inr (x.length : Int)) := by
 have hlen : (x ++ 46 :: y).length = x.length + (y.length + 1) := by simp
 intro k
 induction k with
 | zero =>
  intro _
  refine zaD ?_
  unfold zi
  rw [itT (by simp <;> omega), zba rfl (show x.length + 0 < (x ++ 46 :: y).length by omega), sb, itT (by simp)]
  rfl
 | succ k ih =>
  intro hk
  refine (zaC (i' := ((x.length + k : Nat) : Int)) ?_).trans (ih (by omega))
  unfold zi
  have hy : (x ++ 46 :: y)[x.length + (k + 1)]'(by omega) = y[k] := by
   rw [List.getElem_append_right (by omega)]
   simp [Nat.add_sub_cancel_left]
  rw [itT (by simp; omega), zba rfl (show x.length + (k + 1) < (x ++ 46 :: y).length by omega), sb, hy, itF (ne46 (h _ (List.getElem_mem _))), zaB (by omega)]
  congr 2; omega
theorem zjU {p : List UInt8} (hp : p.length ≤ 1152921504606846976) : (zaI p [46] = some (-1) ∧ ∀ c ∈ p, c ≠ 46) ∨ ∃ x y, p = x ++ 46 :: y ∧ (∀ c ∈ y, c ≠ 46) ∧ zaI p [46] = some (x.length : Int) := by
 have hs : zaI p [46] = zB p ((46 : UInt8).toNat : Int) := by
  unfold zaI
  rw [itF (by rfl), itT (by rfl), show idx ([46] : List UInt8) 0 = some 46 from rfl, sb]
  show (zB p ((46 : UInt8).toNat : Int) >>= fun rv => some rv) = _
  cases zB p ((46 : UInt8).toNat : Int) <;> rfl
 rw [hs]
 unfold zB
 rw [zaB (by omega)]
 rcases zkS p with h | ⟨x, y, rfl, h⟩
 ·exact .inl ⟨by rw [zmY hp h p.length (Nat.le_refl _)]; rfl, h⟩
 ·refine .inr ⟨x, y, rfl, h, ?_⟩
  have e : ((x ++ 46 :: y).length : Int) - 1 = ((x.length + y.length : Nat) : Int) := by simp; omega
  rw [e, zmZ hp h y.length (Nat.le_refl _)]; rfl
theorem zlg : ∀ x y : List UInt8, zai (x ++ 46 :: y) = zai x ++ zai y
 | [], y => by simp [zai]
 | c :: x, y => by
  have ih := zlg x y
  rw [List.cons_append, zai, zai, ih]
  by_cases hc : c = 46
  ·rw [if_pos hc, if_pos hc]; rfl
  ·rw [if_neg hc, if_neg hc]
   cases h : zai x with
   | nil => exact absurd h (zfA x)
   | cons z l => rfl
theorem zii : ∀ x : List UInt8, zbQ (zai x) = x
 | [] => rfl
 | c :: x => by
  have ih := zii x
  rw [zai]
  by_cases hc : c = 46
  ·rw [if_pos hc, hc]
   cases h : zai x with
   | nil => exact absurd h (zfA x)
   | cons z l => rw [zbQ, ← h, ih]; rfl
  ·rw [if_neg hc]
   cases h : zai x with
   | nil => exact absurd h (zfA x)
   | cons z l =>
    rw [h] at ih
    simp only
    cases l with
    | nil => simp only [zbQ] at ih ⊢; rw [ih]
    | cons u l => simp only [zbQ] at ih ⊢; rw [List.cons_append, ih]
theorem zmj {p : List UInt8} (hp : p.length ≤ 140737488351232) : zdw p = some (if 1 < (zy p).1.length then (zbQ (zy p).1.dropLast, true) else ([], false)) := by
 unfold zdw
 rcases zjU (p := p) (by omega) with ⟨h, hn⟩ | ⟨x, y, rfl, hy, h⟩
 ·rw [h, sb, itT (by rfl), sb, itT (c := true) rfl]
  unfold zy
  rw [zfK hn]
  rw [if_neg]
  split <;> simp
 ·have hlen : (x ++ 46 :: y).length = x.length + (y.length + 1) := by simp
  rw [h, sb, itF (by simp), zdK hp, sb, sb]
  unfold zy
  rw [zlg, zfK hy]
  have hne := zfA x
  by_cases hc : ((zai x ++ [y]).all zV && decide ((zai x ++ [y]).length ≤ 65)) = true
  ·rw [if_pos hc, itF (c := !true) rfl, zhW (xs := x ++ 46 :: y) (i := 0) (a := 0) (b := x.length) rfl rfl (Nat.zero_le _) (by omega), sb]
   have h1 : 1 < (zai x ++ [y]).length := by
    cases h : zai x with
    | nil => exact absurd h hne
    | cons z l => simp
   simp only
   rw [if_pos h1, List.dropLast_concat, zii]
   simp
  ·rw [if_neg hc]
   rfl
theorem znj : zbp = some true := by
 have e1 : zai [97, 46, 98, 46, 99] = [[97], [98], [99]] := by decide
 have e2 : zai [97, 46, 98] = [[97], [98]] := by decide
 have e3 : zai [97, 46, 98, 99] = [[97], [98, 99]] := by decide
 have e4 : zai [97] = [[97]] := by decide
 have r1 : zaV [97, 46, 98, 46, 99] = some true := by rw [zdK (by simp)]; unfold zy; rw [e1]; rfl
 have r2 : zaV [97, 46, 98] = some true := by rw [zdK (by simp)]; unfold zy; rw [e2]; rfl
 have r3 : zaV [97, 46, 98, 99] = some true := by rw [zdK (by simp)]; unfold zy; rw [e3]; rfl
 have r4 : zaV [97] = some true := by rw [zdK (by simp)]; unfold zy; rw [e4]; rfl
 unfold zbp zdS
 rw [r1, sb, itT rfl, r2, sb, itT rfl, r3, sb, itT rfl, sb, itT rfl, r4]
 rfl
end Go.Proofs.YtmghlnfhcdjbnaaGreatDoor
