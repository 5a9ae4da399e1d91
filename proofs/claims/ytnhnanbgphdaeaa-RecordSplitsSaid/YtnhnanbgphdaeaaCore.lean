/-
  Colors: which blocks of memory a value reaches, and what each slot of a frame and each box reads as, so that Go functions can be told as plain functions on lists, numbers and records. No condition.
-/
import Derived.WalkKit
import Derived.Laws.OwnMore
import Derived.Maps.AppendAt
import Derived.LoopN
namespace Go.Proofs.Ytnhnanbgphdaeaa
open Go Go.RowKit

/-! ### loops of plain functions -/

def iterO {σ ρ : Type} (body : σ → Option (σ ⊕ ρ)) : Nat → σ → Option ρ
  | 0, _ => none
  | n + 1, s => match body s with
    | none => none
    | some (.inl s') => iterO body n s'
    | some (.inr r) => some r
open Classical in
noncomputable def whileO {σ ρ : Type} (body : σ → Option (σ ⊕ ρ)) (s : σ) : Option ρ :=
  if h : ∃ n r, iterO body n s = some r then iterO body h.choose s else none
theorem iterO_succ {σ ρ : Type} {body : σ → Option (σ ⊕ ρ)} {n : Nat} {s : σ} {r : ρ} (h : iterO body n s = some r) : iterO body (n + 1) s = some r := by
  induction n generalizing s with
  | zero => simp [iterO] at h
  | succ n ih =>
    rw [iterO] at h ⊢
    split at h
    · cases h
    · exact ih h
    · exact h
theorem iterO_le {σ ρ : Type} {body : σ → Option (σ ⊕ ρ)} {n m : Nat} {s : σ} {r : ρ} (h : iterO body n s = some r) (hm : n ≤ m) : iterO body m s = some r := by
  obtain ⟨k, rfl⟩ := Nat.exists_eq_add_of_le hm
  clear hm
  induction k with
  | zero => exact h
  | succ k ih => exact iterO_succ ih
theorem whileO_of {σ ρ : Type} {body : σ → Option (σ ⊕ ρ)} {n : Nat} {s : σ} {r : ρ} (h : iterO body n s = some r) : whileO body s = some r := by
  have hex : ∃ n r, iterO body n s = some r := ⟨n, r, h⟩
  unfold whileO
  rw [dif_pos hex]
  obtain ⟨r', h'⟩ := hex.choose_spec
  rw [h']
  have h1 := iterO_le h' (Nat.le_max_left hex.choose n)
  have h2 := iterO_le h (Nat.le_max_right hex.choose n)
  rw [h1] at h2
  exact h2
theorem iterO_of {σ ρ : Type} {body : σ → Option (σ ⊕ ρ)} {s : σ} {r : ρ} (h : whileO body s = some r) : ∃ n, iterO body n s = some r := by
  unfold whileO at h
  split at h
  · exact ⟨_, h⟩
  · cases h
theorem whileO_inl {σ ρ : Type} {body : σ → Option (σ ⊕ ρ)} {s s' : σ} (h : body s = some (.inl s')) : whileO body s = whileO body s' := by
  cases hw : whileO body s' with
  | some r =>
    obtain ⟨n, hn⟩ := iterO_of hw
    exact whileO_of (n := n + 1) (by rw [iterO, h]; exact hn)
  | none =>
    cases hw' : whileO body s with
    | none => rfl
    | some r =>
      obtain ⟨n, hn⟩ := iterO_of hw'
      cases n with
      | zero => simp [iterO] at hn
      | succ n => rw [iterO, h] at hn; rw [whileO_of hn] at hw; cases hw
theorem whileO_inr {σ ρ : Type} {body : σ → Option (σ ⊕ ρ)} {s : σ} {r : ρ} (h : body s = some (.inr r)) : whileO body s = some r :=
  whileO_of (n := 1) (by rw [iterO, h])
/-- A loop that lowers a measure and keeps what holds at its head ends as it should. -/
theorem whileO_ind {σ ρ : Type} {body : σ → Option (σ ⊕ ρ)} (I : σ → Prop) (R : ρ → Prop) (μ : σ → Nat)
    (h : ∀ s, I s → (∃ s', body s = some (.inl s') ∧ I s' ∧ μ s' < μ s) ∨ ∃ r, body s = some (.inr r) ∧ R r) {s : σ} (hs : I s) : ∃ r, whileO body s = some r ∧ R r := by
  generalize hn : μ s = n
  induction n using Nat.strongRecOn generalizing s with
  | _ n ih =>
    rcases h s hs with ⟨s', hb, hI, hlt⟩ | ⟨r, hb, hR⟩
    · obtain ⟨r, hr, hR⟩ := ih (μ s') (by omega) hI rfl
      exact ⟨r, by rw [whileO_inl hb]; exact hr, hR⟩
    · exact ⟨r, whileO_inr hb, hR⟩
theorem bind_some' {α β : Type} {x : Option α} {f : α → Option β} {r : β} (h : (x >>= f) = some r) : ∃ a, x = some a ∧ f a = some r := by
  cases x with
  | none => cases h
  | some a => exact ⟨a, rfl, h⟩
theorem ite_some {α : Type} {c : Bool} {x y : Option α} {r : α} (h : (if c then x else y) = some r) : (c = true ∧ x = some r) ∨ (c = false ∧ y = some r) := by
  cases c
  · exact .inr ⟨rfl, h⟩
  · exact .inl ⟨rfl, h⟩

/-- The value at a place of a list, if there is one. -/
def idx {α : Type} (xs : List α) (i : Int) : Option α := if 0 ≤ i then xs[i.toNat]? else none
/-- The piece of a list from one place to another one, if these are places. -/
def cut {α : Type} (xs : List α) (i j : Int) : Option (List α) := if 0 ≤ i ∧ i ≤ j ∧ j ≤ xs.length then some ((xs.drop i.toNat).take (j.toNat - i.toNat)) else none
/-- Let it be so. -/
def chk (b : Bool) : Option Unit := if b then some () else none
theorem chk_some {b : Bool} {u : Unit} (h : chk b = some u) : b = true := by
  cases b
  · cases h
  · rfl

/-! ### what a cell reads as -/

inductive LV where
  | int (k : IntKind) (n : Int)
  | bool (b : Bool)
  | str (l : List UInt8)
  | sl (n size : Nat) (ls : List LV)
  | val (v : Value)

abbrev Fp := Nat → Prop

inductive LVrel (F : Fp) (w : World) : LV → Value → Prop
  | int (k : IntKind) (n : Int) : LVrel F w (.int k n) (.int k n)
  | bool (b : Bool) : LVrel F w (.bool b) (.bool b)
  | str (l : List UInt8) : LVrel F w (.str l) (.string ⟨l.toArray⟩)
  | val (v : Value) (h : v.oneCell' = true) : LVrel F w (.val v) v
  | sl (n size : Nat) (ls : List LV) (A : Option Addr) (c : Nat) (cs : List Value) (hl : ls.length = n * size) (hcs : cs.length = n * size) (hc : n ≤ c) (hm : c ≤ maxLen)
      (hA : 0 < n → ∃ b off, A = some ⟨b, off, none⟩ ∧ F b ∧ b < w.heap.size ∧ ∀ i, i < n * size → w.cell? ⟨b, off + i, none⟩ = cs[i]?)
      (hr : ∀ (i : Nat) (l : LV) (u : Value), ls[i]? = some l → cs[i]? = some u → LVrel F w l u) :
      LVrel F w (.sl n size ls) (.slice A n c)

/-- Row by row. -/
def AllRel (F : Fp) (w : World) (ls : List LV) (cs : List Value) : Prop := ls.length = cs.length ∧ ∀ (i : Nat) (l : LV) (u : Value), ls[i]? = some l → cs[i]? = some u → LVrel F w l u

/-- What lies in F is as it was. -/
structure Keeps (F : Fp) (w w' : World) : Prop where
  size : w.heap.size ≤ w'.heap.size
  block : ∀ b, b < w.heap.size → F b → w'.heap[b]? = w.heap[b]?

section
variable {F G : Fp} {w w' : World}
theorem Keeps.cell (h : Keeps F w w') {a : Addr} (hb : a.block < w.heap.size) (hF : F a.block) : w'.cell? a = w.cell? a := World.cell?_of_block (h.block _ hb hF)
theorem LVrel.keep {l : LV} {v : Value} (h : LVrel F w l v) (hk : Keeps F w w') : LVrel F w' l v := by
  induction h with
  | int k n => exact .int k n
  | bool b => exact .bool b
  | str l => exact .str l
  | val v h => exact .val v h
  | sl n size ls A c cs hl hcs hc hm hA hr ih =>
    refine .sl n size ls A c cs hl hcs hc hm (fun hn => ?_) ih
    obtain ⟨b, off, e, hF, hb, hcell⟩ := hA hn
    exact ⟨b, off, e, hF, Nat.lt_of_lt_of_le hb hk.size, fun i hi => (hk.cell (a := ⟨b, off + i, none⟩) hb hF).trans (hcell i hi)⟩
theorem LVrel.mono {l : LV} {v : Value} (h : LVrel F w l v) (hG : ∀ b, b < w.heap.size → F b → G b) : LVrel G w l v := by
  induction h with
  | int k n => exact .int k n
  | bool b => exact .bool b
  | str l => exact .str l
  | val v h => exact .val v h
  | sl n size ls A c cs hl hcs hc hm hA hr ih =>
    refine .sl n size ls A c cs hl hcs hc hm (fun hn => ?_) ih
    obtain ⟨b, off, e, hF, hb, hcell⟩ := hA hn
    exact ⟨b, off, e, hG b hb hF, hb, hcell⟩
theorem LVrel.one {l : LV} {v : Value} (h : LVrel F w l v) : v.oneCell' = true := by
  cases h <;> first | rfl | assumption
theorem AllRel.keep {ls : List LV} {cs : List Value} (h : AllRel F w ls cs) (hk : Keeps F w w') : AllRel F w' ls cs := ⟨h.1, fun i l u h1 h2 => (h.2 i l u h1 h2).keep hk⟩
theorem AllRel.mono {ls : List LV} {cs : List Value} (h : AllRel F w ls cs) (hG : ∀ b, b < w.heap.size → F b → G b) : AllRel G w ls cs := ⟨h.1, fun i l u h1 h2 => (h.2 i l u h1 h2).mono hG⟩
theorem AllRel.nil : AllRel F w [] [] := ⟨rfl, fun i l u h1 => by simp at h1⟩
theorem AllRel.append {ls ms : List LV} {cs ds : List Value} (h : AllRel F w ls cs) (k : AllRel F w ms ds) : AllRel F w (ls ++ ms) (cs ++ ds) := by
  refine ⟨by rw [List.length_append, List.length_append, h.1, k.1], fun i l u h1 h2 => ?_⟩
  rw [List.getElem?_append] at h1 h2
  rw [h.1] at h1
  split at h1
  · rename_i hi; rw [if_pos hi] at h2; exact h.2 i l u h1 h2
  · rename_i hi; rw [if_neg hi] at h2; exact k.2 _ l u h1 h2
theorem AllRel.drop {ls : List LV} {cs : List Value} (h : AllRel F w ls cs) (k : Nat) : AllRel F w (ls.drop k) (cs.drop k) :=
  ⟨by simp [h.1], fun i l u h1 h2 => h.2 (k + i) l u (by simpa using h1) (by simpa using h2)⟩
theorem AllRel.take {ls : List LV} {cs : List Value} (h : AllRel F w ls cs) (k : Nat) : AllRel F w (ls.take k) (cs.take k) := by
  refine ⟨by simp [h.1], fun i l u h1 h2 => ?_⟩
  rw [List.getElem?_take] at h1 h2
  split at h1
  · rename_i hi; rw [if_pos hi] at h2; exact h.2 i l u h1 h2
  · cases h1
theorem AllRel.cons {l : LV} {v : Value} {ls : List LV} {cs : List Value} (h : LVrel F w l v) (k : AllRel F w ls cs) : AllRel F w (l :: ls) (v :: cs) :=
  AllRel.append (ls := [l]) (cs := [v]) ⟨rfl, fun i l' u h1 h2 => by
    cases i with
    | zero => simp at h1 h2; subst h1 h2; exact h
    | succ i => simp at h1⟩ k
theorem AllRel.one {ls : List LV} {cs : List Value} (h : AllRel F w ls cs) : ∀ u ∈ cs, u.oneCell' = true := by
  intro u hu
  obtain ⟨i, hi, rfl⟩ := List.getElem_of_mem hu
  exact (h.2 i _ _ (List.getElem?_eq_getElem (by rw [h.1]; exact hi)) (List.getElem?_eq_getElem hi)).one
theorem AllRel.head {l : LV} {ls : List LV} {cs : List Value} (h : AllRel F w (l :: ls) cs) : ∃ v cs', cs = v :: cs' ∧ LVrel F w l v ∧ AllRel F w ls cs' := by
  cases cs with
  | nil => have := h.1; simp at this
  | cons v cs' => exact ⟨v, cs', rfl, h.2 0 l v rfl rfl, h.drop 1⟩
theorem AllRel.single {l : LV} {cs : List Value} (h : AllRel F w [l] cs) : ∃ v, cs = [v] ∧ LVrel F w l v := by
  obtain ⟨v, cs', rfl, h1, h2⟩ := h.head
  have := h2.1
  cases cs' with
  | nil => exact ⟨v, rfl, h1⟩
  | cons => simp at this
end

/-- How data of a type lie in cells. -/
structure Rp (α : Type) where
  size : Nat
  agg : Bool
  lv : α → List LV
  len : ∀ x, (lv x).length = size
  pos : 0 < size

theorem Rp.flat {α : Type} (r : Rp α) (xs : List α) : (xs.flatMap r.lv).length = xs.length * r.size := by
  induction xs with
  | nil => simp
  | cons x xs ih => simp only [List.flatMap_cons, List.length_append, ih, r.len, List.length_cons, Nat.succ_mul]; omega
theorem Rp.flat_drop {α : Type} (r : Rp α) (xs : List α) (k : Nat) : (xs.drop k).flatMap r.lv = (xs.flatMap r.lv).drop (k * r.size) := by
  induction k generalizing xs with
  | zero => simp
  | succ k ih =>
    cases xs with
    | nil => simp
    | cons x xs =>
      have hx := r.len x
      rw [List.drop_succ_cons, ih, List.flatMap_cons, List.drop_append, hx, Nat.succ_mul]
      rw [List.drop_eq_nil_of_le (as := r.lv x) (by omega), List.nil_append, Nat.add_sub_cancel]
theorem Rp.flat_take {α : Type} (r : Rp α) (xs : List α) (k : Nat) : (xs.take k).flatMap r.lv = (xs.flatMap r.lv).take (k * r.size) := by
  induction k generalizing xs with
  | zero => simp
  | succ k ih =>
    cases xs with
    | nil => simp
    | cons x xs =>
      have hx := r.len x
      rw [List.take_succ_cons, List.flatMap_cons, ih, List.flatMap_cons, List.take_append, hx, Nat.succ_mul]
      rw [List.take_of_length_le (l := r.lv x) (by omega), Nat.add_sub_cancel]
theorem Rp.flat_at {α : Type} (r : Rp α) (xs : List α) (k : Nat) (x : α) (h : xs[k]? = some x) : ((xs.flatMap r.lv).drop (k * r.size)).take r.size = r.lv x := by
  rw [← r.flat_drop]
  have hk : k < xs.length := (List.getElem?_eq_some_iff.1 h).1
  have e : xs.drop k = x :: xs.drop (k + 1) := by
    rw [List.drop_eq_getElem_cons hk]
    congr 1
    exact (List.getElem?_eq_some_iff.1 h).2
  have hx := r.len x
  rw [e, List.flatMap_cons, List.take_append, hx, List.take_of_length_le (l := r.lv x) (by omega)]
  simp

def Rp.byte : Rp UInt8 := ⟨1, false, fun c => [.int .u8 c.toNat], fun _ => rfl, Nat.one_pos⟩
def Rp.int (k : IntKind) : Rp Int := ⟨1, false, fun n => [.int k n], fun _ => rfl, Nat.one_pos⟩
def Rp.bool : Rp Bool := ⟨1, false, fun n => [.bool n], fun _ => rfl, Nat.one_pos⟩
def Rp.str : Rp (List UInt8) := ⟨1, false, fun n => [.str n], fun _ => rfl, Nat.one_pos⟩
def Rp.list {α : Type} (r : Rp α) : Rp (List α) := ⟨1, false, fun xs => [.sl xs.length r.size (xs.flatMap r.lv)], fun _ => rfl, Nat.one_pos⟩

/-! ### what a slot reads as -/

structure Gh where
  col : Nat → Nat
  box : Nat → Nat
def Gh.F (γ : Gh) (C : List Nat) : Fp := fun b => γ.col b ∈ C

inductive AV : Type 1 where
  | any
  | lf (l : LV)
  | sl {α : Type} (r : Rp α) (C : List Nat) (xs : List α)
  | own {α : Type} (r : Rp α) (e : TypeId) (ℓ : Nat) (C : List Nat) (xs : List α)
  | rc {α : Type} (r : Rp α) (C : List Nat) (x : α)
  | ep {α : Type} (r : Rp α) (C : List Nat) (x : α) (off : Nat)
  | ptr (ℓ off : Nat)
  | mp {κ ν : Type} (rk : Rp κ) (rv : Rp ν) (C : List Nat) (m : List (κ × ν))
  | om {κ ν : Type} (rk : Rp κ) (rv : Rp ν) (ℓ : Nat) (C : List Nat) (m : List (κ × ν))
  | tup (l : List AV)

/-- A leaf that reaches no memory. -/
def LV.plain : LV → Bool
  | .sl .. => false
  | _ => true
theorem LVrel.plain {F G : Fp} {w w' : World} {l : LV} {v : Value} (h : LVrel F w l v) (hp : l.plain = true) : LVrel G w' l v := by
  cases h with
  | int k n => exact .int k n
  | bool b => exact .bool b
  | str l => exact .str l
  | val v h => exact .val v h
  | sl => cases hp

/-- A value of a type, whatever its form. -/
def VRel {α : Type} (F : Fp) (w : World) (r : Rp α) (x : α) (v : Value) : Prop := AllRel F w (r.lv x) v.cells.toList ∧ (r.agg = true → ∃ cs : List Value, v = .agg cs.toArray) ∧ (r.agg = false → v.cells = #[v])
theorem VRel.mono {α : Type} {F G : Fp} {w : World} {r : Rp α} {x : α} {v : Value} (h : VRel F w r x v) (hG : ∀ b, b < w.heap.size → F b → G b) : VRel G w r x v := ⟨h.1.mono hG, h.2⟩
theorem VRel.keep {α : Type} {F : Fp} {w w' : World} {r : Rp α} {x : α} {v : Value} (h : VRel F w r x v) (hk : Keeps F w w') : VRel F w' r x v := ⟨h.1.keep hk, h.2⟩
/-- The entries of a map. -/
inductive EsRel {κ ν : Type} (F : Fp) (w : World) (rk : Rp κ) (rv : Rp ν) : List (κ × ν) → List MapEntry → Prop
  | nil : EsRel F w rk rv [] []
  | cons {p : κ × ν} {m : List (κ × ν)} {e : MapEntry} {es : List MapEntry} (h1 : VRel F w rk p.1 e.key) (h2 : VRel F w rv p.2 e.val) (h : EsRel F w rk rv m es) : EsRel F w rk rv (p :: m) (e :: es)
theorem EsRel.mono {κ ν : Type} {F G : Fp} {w : World} {rk : Rp κ} {rv : Rp ν} {m : List (κ × ν)} {es : List MapEntry} (h : EsRel F w rk rv m es) (hG : ∀ b, b < w.heap.size → F b → G b) : EsRel G w rk rv m es := by
  induction h with
  | nil => exact .nil
  | cons h1 h2 _ ih => exact .cons (h1.mono hG) (h2.mono hG) ih
theorem EsRel.keep {κ ν : Type} {F : Fp} {w w' : World} {rk : Rp κ} {rv : Rp ν} {m : List (κ × ν)} {es : List MapEntry} (h : EsRel F w rk rv m es) (hk : Keeps F w w') : EsRel F w' rk rv m es := by
  induction h with
  | nil => exact .nil
  | cons h1 h2 _ ih => exact .cons (h1.keep hk) (h2.keep hk) ih

mutual
def AV.rel (γ : Gh) (w : World) : AV → Value → Prop
  | .any, _ => True
  | .lf l, v => l.plain = true ∧ LVrel (fun _ => False) w l v
  | .sl r C xs, v => LVrel (γ.F C) w (.sl xs.length r.size (xs.flatMap r.lv)) v
  | .own r e ℓ C xs, v => ∃ cs, w.ownsRow 0 e r.size v xs.length cs ∧ (∀ g, v.ownBlock = some g → γ.col g = ℓ ∧ γ.box ℓ = g) ∧ AllRel (γ.F C) w (xs.flatMap r.lv) cs ∧ ℓ ∉ C
  | .rc r C x, v => ∃ cs, v = .agg cs.toArray ∧ AllRel (γ.F C) w (r.lv x) cs
  | .ep r C x off, v => ∃ b o cs, v = .pointer (some ⟨b, o + off, none⟩) ∧ γ.col b ∈ C ∧ b < w.heap.size ∧ AllRel (γ.F C) w (r.lv x) cs ∧ ∀ i, i < cs.length → w.cell? ⟨b, o + i, none⟩ = cs[i]?
  | .ptr ℓ off, v => v = .pointer (some ⟨γ.box ℓ, off, none⟩)
  | .mp rk rv C m, v => ∃ b es cl, v = .map (some b) ∧ γ.col b ∈ C ∧ b < w.heap.size ∧ w.heap[b]? = some (.map es cl) ∧ EsRel (γ.F C) w rk rv m es.toList
  | .om rk rv ℓ C m, v => ∃ b es cl, v = .map (some b) ∧ (γ.col b = ℓ ∧ γ.box ℓ = b) ∧ b < w.heap.size ∧ w.heap[b]? = some (.map es cl) ∧ EsRel (γ.F C) w rk rv m es.toList ∧ ℓ ∉ C
  | .tup l, v => ∃ vs : List Value, v = .tuple vs.toArray ∧ AV.relL γ w l vs
def AV.relL (γ : Gh) (w : World) : List AV → List Value → Prop
  | [], vs => vs = []
  | a :: l, vs => ∃ v vs', vs = v :: vs' ∧ AV.rel γ w a v ∧ AV.relL γ w l vs'
end
mutual
/-- The colors that a reading looks at. -/
def AV.cols : AV → List Nat
  | .any | .lf _ | .ptr _ _ => []
  | .sl _ C _ | .rc _ C _ | .ep _ C _ _ => C
  | .own _ _ ℓ C _ => ℓ :: C
  | .mp _ _ C _ => C
  | .om _ _ ℓ C _ => ℓ :: C
  | .tup l => AV.colsL l
def AV.colsL : List AV → List Nat
  | [] => []
  | a :: l => AV.cols a ++ AV.colsL l
end
mutual
/-- The boxes that it points into. -/
def AV.labs : AV → List Nat
  | .ptr ℓ _ => [ℓ]
  | .own _ _ ℓ _ _ => [ℓ]
  | .om _ _ ℓ _ _ => [ℓ]
  | .tup l => AV.labsL l
  | _ => []
def AV.labsL : List AV → List Nat
  | [] => []
  | a :: l => AV.labs a ++ AV.labsL l
end

/-- A step of the world: W: the colors that may have been written; V: the boxes that were made anew. -/
structure Tr (W V : List Nat) (γ : Gh) (w : World) (γ' : Gh) (w' : World) : Prop where
  os : w'.os = w.os
  tape : w'.tape = w.tape
  output : w'.output = w.output
  size : w.heap.size ≤ w'.heap.size
  block : ∀ b, b < w.heap.size → γ.col b ∉ W → w'.heap[b]? = w.heap[b]?
  col : ∀ b, b < w.heap.size → γ'.col b = γ.col b
  box : ∀ ℓ, ℓ ∉ V → γ'.box ℓ = γ.box ℓ

section
variable {W V : List Nat} {γ γ' : Gh} {w w' : World}
theorem Tr.refl (W V : List Nat) (γ : Gh) (w : World) : Tr W V γ w γ w := ⟨rfl, rfl, rfl, Nat.le_refl _, fun _ _ _ => rfl, fun _ _ => rfl, fun _ _ => rfl⟩
theorem Tr.keeps (h : Tr W V γ w γ' w') {C : List Nat} (hC : ∀ c ∈ C, c ∉ W) : Keeps (γ.F C) w w' := ⟨h.size, fun b hb hF => h.block b hb (hC _ hF)⟩
theorem Tr.lv (h : Tr W V γ w γ' w') {C : List Nat} (hC : ∀ c ∈ C, c ∉ W) {l : LV} {v : Value} (hl : LVrel (γ.F C) w l v) : LVrel (γ'.F C) w' l v := by
  have h1 : LVrel (fun b => γ.F C b ∧ b < w.heap.size) w l v := hl.mono fun b hb hF => ⟨hF, hb⟩
  refine (h1.keep (w' := w') ⟨h.size, fun b hb hF => h.block b hb (hC _ hF.1)⟩).mono fun b hb hF => ?_
  show γ'.col b ∈ C
  rw [h.col b hF.2]
  exact hF.1
theorem Tr.all (h : Tr W V γ w γ' w') {C : List Nat} (hC : ∀ c ∈ C, c ∉ W) {ls : List LV} {cs : List Value} (hl : AllRel (γ.F C) w ls cs) : AllRel (γ'.F C) w' ls cs :=
  ⟨hl.1, fun i l u h1 h2 => h.lv hC (hl.2 i l u h1 h2)⟩
theorem Tr.es (h : Tr W V γ w γ' w') {C : List Nat} (hC : ∀ c ∈ C, c ∉ W) {κ ν : Type} {rk : Rp κ} {rv : Rp ν} {m : List (κ × ν)} {es : List MapEntry} (hl : EsRel (γ.F C) w rk rv m es) : EsRel (γ'.F C) w' rk rv m es := by
  induction hl with
  | nil => exact .nil
  | cons h1 h2 _ ih => exact .cons ⟨h.all hC h1.1, h1.2⟩ ⟨h.all hC h2.1, h2.2⟩ ih
theorem ownsRow_keep {base : Nat} {e : TypeId} {size n : Nat} {v : Value} {cs : List Value} (ho : w.ownsRow base e size v n cs) (hb : ∀ g, v.ownBlock = some g → w'.heap[g]? = w.heap[g]?) : w'.ownsRow base e size v n cs := by
  refine ⟨ho.1, ?_⟩
  rcases ho.2 with hn | ⟨g, cap, cur, rfl, hg, hh, rest⟩
  · exact .inl hn
  · exact .inr ⟨g, cap, cur, rfl, hg, (hb g rfl).trans hh, rest⟩
mutual
theorem AV.keep (a : AV) {v : Value} (h : Tr W V γ w γ' w') (hc : ∀ c ∈ a.cols, c ∉ W) (hl : ∀ c ∈ a.labs, c ∉ V) (hr : a.rel γ w v) : a.rel γ' w' v := by
  match a with
  | .any => trivial
  | .lf l => exact ⟨hr.1, hr.2.plain hr.1⟩
  | .sl r C xs => exact h.lv hc hr
  | .own r e ℓ C xs =>
    obtain ⟨cs, ho, hg, hA, hn⟩ := hr
    have hlt := ho.lt
    refine ⟨cs, ownsRow_keep ho fun g hgb => h.block g (hlt g hgb).2 ?_, fun g hgb => ?_, h.all (fun c hC => hc c (List.mem_cons_of_mem _ hC)) hA, hn⟩
    · rw [(hg g hgb).1]; exact hc ℓ List.mem_cons_self
    · rw [h.col g (hlt g hgb).2, h.box ℓ (hl ℓ List.mem_cons_self)]; exact hg g hgb
  | .rc r C x =>
    obtain ⟨cs, hv, hA⟩ := hr
    exact ⟨cs, hv, h.all hc hA⟩
  | .ep r C x off =>
    obtain ⟨b, o, cs, hv, hF, hb, hA, hcell⟩ := hr
    refine ⟨b, o, cs, hv, by rw [h.col b hb]; exact hF, Nat.lt_of_lt_of_le hb h.size, h.all hc hA, fun i hi => ?_⟩
    rw [← hcell i hi]
    exact World.cell?_of_block (h.block b hb (hc _ hF))
  | .ptr ℓ off =>
    show v = _
    rw [h.box ℓ (hl ℓ List.mem_cons_self)]
    exact hr
  | .mp rk rv C m =>
    obtain ⟨b, es, cl, hv, hF, hb, hh, hE⟩ := hr
    exact ⟨b, es, cl, hv, by rw [h.col b hb]; exact hF, Nat.lt_of_lt_of_le hb h.size, (h.block b hb (hc _ hF)).trans hh, h.es hc hE⟩
  | .om rk rv ℓ C m =>
    obtain ⟨b, es, cl, hv, ⟨hF, hbx⟩, hb, hh, hE, hn⟩ := hr
    exact ⟨b, es, cl, hv, ⟨by rw [h.col b hb]; exact hF, by rw [h.box ℓ (hl ℓ List.mem_cons_self)]; exact hbx⟩, Nat.lt_of_lt_of_le hb h.size, (h.block b hb (by rw [hF]; exact hc ℓ List.mem_cons_self)).trans hh, h.es (fun c hC => hc c (List.mem_cons_of_mem _ hC)) hE, hn⟩
  | .tup l =>
    obtain ⟨vs, hv, hL⟩ := hr
    exact ⟨vs, hv, AV.keepL l h hc hl hL⟩
theorem AV.keepL (l : List AV) {vs : List Value} (h : Tr W V γ w γ' w') (hc : ∀ c ∈ AV.colsL l, c ∉ W) (hl : ∀ c ∈ AV.labsL l, c ∉ V) (hr : AV.relL γ w l vs) : AV.relL γ' w' l vs := by
  match l with
  | [] => exact hr
  | a :: l =>
    obtain ⟨v, vs', rfl, h1, h2⟩ := hr
    exact ⟨v, vs', rfl, AV.keep a h (fun c hC => hc c (List.mem_append_left _ hC)) (fun c hC => hl c (List.mem_append_left _ hC)) h1,
      AV.keepL l h (fun c hC => hc c (List.mem_append_right _ hC)) (fun c hC => hl c (List.mem_append_right _ hC)) h2⟩
end
theorem Tr.trans {W' V' : List Nat} {γ'' : Gh} {w'' : World} (h : Tr W V γ w γ' w') (k : Tr W' V' γ' w' γ'' w'') : Tr (W ++ W') (V ++ V') γ w γ'' w'' := by
  refine ⟨k.os.trans h.os, k.tape.trans h.tape, k.output.trans h.output, Nat.le_trans h.size k.size, fun b hb hn => ?_, fun b hb => ?_, fun ℓ hn => ?_⟩
  · simp only [List.mem_append, not_or] at hn
    rw [k.block b (Nat.lt_of_lt_of_le hb h.size) (by rw [h.col b hb]; exact hn.2), h.block b hb hn.1]
  · rw [k.col b (Nat.lt_of_lt_of_le hb h.size), h.col b hb]
  · simp only [List.mem_append, not_or] at hn
    rw [k.box ℓ hn.2, h.box ℓ hn.1]
end
end Go.Proofs.Ytnhnanbgphdaeaa
