/-
  Operations on memory, told by what their operands read as: indexes, pieces, appends, new rows, conversions. No condition.
-/
import Derived.Test.YtnhnanbgphdaeaaFun
namespace Go.Proofs.Ytnhnanbgphdaeaa
open Go Go.RowKit

structure ElT (P : Program) (t e : TypeId) (size bytes : Nat) : Prop where
  u : P.underlying t = some (.slice e)
  ex : ∃ i z, P.info? e = some i ∧ i.zero = some z ∧ i.size = size ∧ i.bytes = bytes ∧ z.cells.size = size
theorem ElT.size {P : Program} {t e : TypeId} {size bytes : Nat} (h : ElT P t e size bytes) (w : World) : (sizeOf e).run P w = .ok size w := by
  obtain ⟨i, z, h1, h2, h3, h4, h5⟩ := h.ex
  simp [sizeOf, typeInfo, h1, h3]

section
variable {γ : Gh} {w : World} {α : Type} {r : Rp α} {C : List Nat} {xs : List α} {v : Value} {D : List Nat}
/-- A slice, whoever owns it. -/
theorem sl_open (h : LVrel (γ.F D) w (.sl xs.length r.size (xs.flatMap r.lv)) v) : ∃ A c cs, v = .slice A xs.length c ∧ xs.length ≤ c ∧ c ≤ maxLen ∧ AllRel (γ.F D) w (xs.flatMap r.lv) cs ∧ cs.length = xs.length * r.size ∧
    (0 < xs.length → ∃ b off, A = some ⟨b, off, none⟩ ∧ γ.F D b ∧ b < w.heap.size ∧ ∀ i, i < xs.length * r.size → w.cell? ⟨b, off + i, none⟩ = cs[i]?) := by
  cases h with
  | sl _ _ _ A c cs hl hcs hc hm hA hr => exact ⟨A, c, cs, rfl, hc, hm, ⟨by rw [hl, hcs], hr⟩, hcs, hA⟩
theorem idx_some {α : Type} {xs : List α} {i : Int} {x : α} (h : idx xs i = some x) : 0 ≤ i ∧ i < xs.length ∧ xs[i.toNat]? = some x := by
  unfold idx at h
  split at h
  · rename_i h0
    have := (List.getElem?_eq_some_iff.1 h).1
    exact ⟨h0, by omega, h⟩
  · cases h
theorem at_elem (h : LVrel (γ.F D) w (.sl xs.length r.size (xs.flatMap r.lv)) v) {i : Int} {x : α} (hx : idx xs i = some x) : ∃ b off cs c, v = .slice (some ⟨b, off, none⟩) xs.length c ∧ γ.F D b ∧ b < w.heap.size ∧
    AllRel (γ.F D) w (r.lv x) cs ∧ ∀ j, j < cs.length → w.cell? ⟨b, off + i.toNat * r.size + j, none⟩ = cs[j]? := by
  obtain ⟨h0, h1, h2⟩ := idx_some hx
  obtain ⟨A, c, cs, rfl, hc, hm, hA, hcs, hcell⟩ := sl_open h
  obtain ⟨b, off, rfl, hF, hb, hcell⟩ := hcell (by omega)
  have hA' := (hA.drop (i.toNat * r.size)).take r.size
  rw [r.flat_at xs _ x h2] at hA'
  refine ⟨b, off, _, c, rfl, hF, hb, hA', fun j hj => ?_⟩
  have hj' : j < r.size := by rw [← hA'.1, r.len] at hj; exact hj
  have hle : (i.toNat + 1) * r.size ≤ xs.length * r.size := Nat.mul_le_mul_right _ (by omega)
  rw [Nat.succ_mul] at hle
  rw [List.getElem?_take, if_pos hj', List.getElem?_drop, Nat.add_assoc]
  exact hcell _ (by omega)
theorem asSl {a : AV} (h : a.rel γ w v) {r : Rp α} {xs : List α} {D : List Nat} (hs : (∃ C, a = .sl r C xs ∧ subN C D = true) ∨ ∃ e ℓ C, a = .own r e ℓ C xs ∧ subN (ℓ :: C) D = true) : LVrel (γ.F D) w (.sl xs.length r.size (xs.flatMap r.lv)) v := by
  rcases hs with ⟨C, rfl, hC⟩ | ⟨e, ℓ, C, rfl, hC⟩
  · exact LVrel.mono h fun b _ hb => subN_spec hC _ hb
  · exact (own_LV h).mono fun b _ hb => subN_spec hC _ hb
end
/-- A reading as a slice of these things. -/
def isSl {α : Type} (r : Rp α) (xs : List α) (D : List Nat) (a : AV) : Prop := ∀ γ w v, a.rel γ w v → LVrel (γ.F D) w (.sl xs.length r.size (xs.flatMap r.lv)) v
theorem isSl_sl {α : Type} (r : Rp α) (xs : List α) (C : List Nat) : isSl r xs C (.sl r C xs) := fun _ _ _ h => h
theorem isSl_own {α : Type} (r : Rp α) (xs : List α) (e : TypeId) (ℓ : Nat) (C : List Nat) : isSl r xs (ℓ :: C) (.own r e ℓ C xs) := fun _ _ _ h => own_LV h
theorem isSl_nil {α : Type} (r : Rp α) (C : List Nat) : isSl r [] C (.lf (.val (.slice none 0 0))) := fun γ w v h => by
  rw [lf_val h]
  exact .sl 0 _ [] none 0 [] (by simp) (by simp) (Nat.le_refl _) (Nat.zero_le _) (fun h => absurd h (by omega)) (fun i l u h => by simp at h)

/-! ### an element -/

theorem run_indexAt {P : Program} {t e : TypeId} {size bytes : Nat} (hT : ElT P t e size bytes) (w : World) (b off n c : Nat) (k : IntKind) (i : Int) (h0 : 0 ≤ i) (h1 : i < n) :
    (Instr.indexAt t (.slice (some ⟨b, off, none⟩) n c) (.int k i)).run P w = .ok (.pointer (some ⟨b, off + i.toNat * size, none⟩)) w := by
  simp [Instr.indexAt, asIntOf, run_underlying hT.u, hT.size, h0, h1, addr_add]
theorem lo_ix {P : Program} {o : Oper} {α : Type} {r : Rp α} {xs : List α} {D : List Nat} {a : AV} {k : IntKind} {i : Int} {x : α} {t e : TypeId} {y z : Operand} {bytes : Nat}
    (ho : o.op = .indexAddr t y z) (hT : ElT P t e r.size bytes) (hs : isSl r xs D a) (hx : idx xs i = some x) : LocalOk P o [(y, a), (z, .lf (.int k i))] [] [] [] (.ep r D x 0) [] := by
  refine localOk_value fun γ ev w hi _ => ?_
  have h1 := hs γ w _ (hi (y, a) (by simp))
  have h2 := lf_int (hi (z, .lf (.int k i)) (by simp))
  simp only at h1 h2
  obtain ⟨b, off, cs, c, hv, hF, hb, hA, hc⟩ := at_elem h1 hx
  obtain ⟨i0, i1, _⟩ := idx_some hx
  exact ⟨_, w, γ, by simp [execOp, ho, hv, h2, run_indexAt hT w b off _ c k i i0 i1], Tr.refl _ _ _ _, ⟨b, off + i.toNat * r.size, cs, rfl, hF, hb, hA, hc⟩, fun b hb => by cases hb⟩
/-- A whole struct out of an element. -/
theorem lo_ldr {P : Program} {o : Oper} {α : Type} {r : Rp α} {D : List Nat} {x : α} {t : TypeId} {y : Operand}
    (ho : o.op = .load t y) (hT : AggT P t r.size) : LocalOk P o [(y, .ep r D x 0)] [] [] [] (.rc r D x) [] := by
  refine localOk_value fun γ ev w hi _ => ?_
  obtain ⟨b, off, cs, hv, hF, hb, hA, hc⟩ := hi (y, .ep r D x 0) (by simp)
  simp only at hv
  have hl := run_loadVar_agg hT (w := w) (b := b) (o := off) (cs := cs) (by rw [← hA.1]; exact r.len x) hc
  exact ⟨_, w, γ, by simp [execOp, ho, hv, Instr.loadAt, Instr.sureAddr, hl], Tr.refl _ _ _ _, ⟨cs, rfl, hA⟩, fun b hb => by cases hb⟩
/-- A struct within a struct, out of an element. -/
theorem lo_ldr' {P : Program} {o : Oper} {α β : Type} {r : Rp α} {D : List Nat} {x : α} {t : TypeId} {y : Operand} {off : Nat} (r' : Rp β) (x' : β)
    (ho : o.op = .load t y) (hT : AggT P t r'.size) (hs : ((r.lv x).drop off).take r'.size = r'.lv x') : LocalOk P o [(y, .ep r D x off)] [] [] [] (.rc r' D x') [] := by
  refine localOk_value fun γ ev w hi _ => ?_
  obtain ⟨b, o', cs, hv, hF, hb, hA, hc⟩ := hi (y, .ep r D x off) (by simp)
  simp only at hv
  have hA' := (hA.drop off).take r'.size
  rw [hs] at hA'
  have hl := run_loadVar_agg hT (w := w) (b := b) (o := o' + off) (cs := (cs.drop off).take r'.size) (by rw [← hA'.1]; exact r'.len x') fun i hi => by
    have hi' : i < r'.size := by rw [← hA'.1, r'.len] at hi; exact hi
    have hi2 : off + i < cs.length := by simp at hi; omega
    rw [List.getElem?_take, if_pos hi', List.getElem?_drop, Nat.add_assoc]
    exact hc _ hi2
  exact ⟨_, w, γ, by simp [execOp, ho, hv, Instr.loadAt, Instr.sureAddr, hl], Tr.refl _ _ _ _, ⟨_, rfl, hA'⟩, fun b hb => by cases hb⟩
/-- A slice in a struct, out of an element. -/
theorem lo_lds {P : Program} {o : Oper} {α β : Type} {r : Rp α} {D : List Nat} {x : α} {t : TypeId} {y : Operand} {off : Nat} (r' : Rp β) (xs : List β)
    (ho : o.op = .load t y) (hT : oneCellType P t = true) (hs : (r.lv x)[off]? = some (.sl xs.length r'.size (xs.flatMap r'.lv))) : LocalOk P o [(y, .ep r D x off)] [] [] [] (.sl r' D xs) [] := by
  refine localOk_value fun γ ev w hi _ => ?_
  obtain ⟨b, o', cs, hv, hF, hb, hA, hc⟩ := hi (y, .ep r D x off) (by simp)
  simp only at hv
  have hlen : off < cs.length := by rw [← hA.1]; exact (List.getElem?_eq_some_iff.1 hs).1
  have hr := hA.2 off _ _ hs (List.getElem?_eq_getElem hlen)
  have hcell := hc off hlen
  rw [List.getElem?_eq_getElem hlen] at hcell
  exact ⟨_, w, γ, by simp [execOp, ho, hv, run_loadAt_one hT hcell], Tr.refl _ _ _ _, hr, fun b hb => by cases hb⟩

/-! ### a piece -/

theorem cut_some {α : Type} {xs ys : List α} {i j : Int} (h : cut xs i j = some ys) : 0 ≤ i ∧ i ≤ j ∧ j ≤ xs.length ∧ ys = (xs.drop i.toNat).take (j.toNat - i.toNat) := by
  unfold cut at h
  split at h
  · rename_i hh; cases h; exact ⟨hh.1, hh.2.1, hh.2.2, rfl⟩
  · cases h
theorem cut_len {α : Type} {xs ys : List α} {i j : Int} (h : cut xs i j = some ys) : ys.length = j.toNat - i.toNat := by
  obtain ⟨h0, h1, h2, rfl⟩ := cut_some h
  simp; omega
theorem run_sliceBound' {P : Program} (w : World) (k : IntKind) (i : Int) (y : Nat) (code : BoundsCode) (h0 : 0 ≤ i) (h1 : i ≤ y) : (Instr.sliceBound (.int k i) y code).run P w = .ok i.toNat w := by
  simp [Instr.sliceBound, asIntOf, h0, h1]
/-- The bounds that are written, or those that stand in their place. -/
def loOf : Option AV → Option Int
  | none => some 0
  | some (.lf (.int _ i)) => some i
  | _ => none
def hiOf (n : Int) : Option AV → Option Int
  | none => some n
  | some (.lf (.int _ i)) => some i
  | _ => none
def optIn : Option Operand → Option AV → List (Operand × AV)
  | some x, some a => [(x, a)]
  | _, _ => []
theorem run_cut {P : Program} {t e : TypeId} {size bytes : Nat} (hT : ElT P t e size bytes) (w : World) (A : Option Addr) (n c : Nat) (hc : n ≤ c) (lo hi : Option Value) (i j : Int)
    (hlo : (lo = none ∧ i = 0) ∨ ∃ k, lo = some (.int k i)) (hhi : (hi = none ∧ j = n) ∨ ∃ k, hi = some (.int k j)) (h0 : 0 ≤ i) (h1 : i ≤ j) (h2 : j ≤ n) :
    (Instr.sliceAt t (.slice A n c) lo hi none).run P w = .ok (.slice (if c = i.toNat then A else A.map (·.add (i.toNat * size))) (j.toNat - i.toNat) (c - i.toNat)) w := by
  have key : (Instr.sliceBounds true n c lo hi none).run P w = .ok (i.toNat, j.toNat, c) w := by
    rcases hlo with ⟨rfl, rfl⟩ | ⟨k, rfl⟩ <;> rcases hhi with ⟨rfl, rfl⟩ | ⟨k', rfl⟩
    · simp [Instr.sliceBounds]
    · simp [Instr.sliceBounds, run_sliceBound' w k' j c _ (by omega) (by omega)]
    · simp [Instr.sliceBounds, run_sliceBound' w k i n _ h0 h1]
    · have := run_sliceBound' (P := P) w k i j.toNat .sliceB h0 (by omega)
      simp [Instr.sliceBounds, run_sliceBound' w k' j c _ (by omega) (by omega), this]
  simp [Instr.sliceAt, Instr.slice, run_underlying hT.u, key, hT.size]
theorem cut_rel {γ : Gh} {w : World} {α : Type} {r : Rp α} {xs ys : List α} {D : List Nat} {A : Option Addr} {c : Nat} (h : LVrel (γ.F D) w (.sl xs.length r.size (xs.flatMap r.lv)) (.slice A xs.length c)) {i j : Int} (hy : cut xs i j = some ys) :
    LVrel (γ.F D) w (.sl ys.length r.size (ys.flatMap r.lv)) (.slice (if c = i.toNat then A else A.map (·.add (i.toNat * r.size))) (j.toNat - i.toNat) (c - i.toNat)) := by
  obtain ⟨A', c', cs, hv, hc, hm, hA, hcs, hcell⟩ := sl_open h
  injection hv with e1 _ e3
  subst e1 e3
  obtain ⟨h0, h1, h2, e⟩ := cut_some hy
  have hl := cut_len hy
  rw [hl]
  have hf : ys.flatMap r.lv = ((xs.flatMap r.lv).drop (i.toNat * r.size)).take ((j.toNat - i.toNat) * r.size) := by rw [e, r.flat_take, r.flat_drop]
  have hA' := (hA.drop (i.toNat * r.size)).take ((j.toNat - i.toNat) * r.size)
  rw [← hf] at hA'
  have hlen : (ys.flatMap r.lv).length = (j.toNat - i.toNat) * r.size := by rw [r.flat, hl]
  refine .sl _ _ _ _ _ _ hlen (by rw [← hA'.1, hlen]) (by omega) (by omega) (fun hn => ?_) hA'.2
  have hpos : 0 < xs.length := by omega
  have hne : ¬ c = i.toNat := by omega
  obtain ⟨b, off, rfl, hF, hb, hcell⟩ := hcell hpos
  rw [if_neg hne]
  refine ⟨b, off + i.toNat * r.size, by simp [addr_add], hF, hb, fun k hk => ?_⟩
  have hle : j.toNat * r.size ≤ xs.length * r.size := Nat.mul_le_mul_right _ (by omega)
  have hji : (j.toNat - i.toNat) * r.size = j.toNat * r.size - i.toNat * r.size := Nat.sub_mul ..
  have hij : i.toNat * r.size ≤ j.toNat * r.size := Nat.mul_le_mul_right _ (by omega)
  rw [List.getElem?_take, if_pos hk, List.getElem?_drop, Nat.add_assoc]
  exact hcell _ (by omega)
theorem lo_cut {P : Program} {o : Oper} {α : Type} {r : Rp α} {xs ys : List α} {D : List Nat} {a : AV} {i j : Int} {t e : TypeId} {x : Operand} {lo hi : Option Operand} (lov hiv : Option AV) {bytes : Nat}
    (ho : o.op = .slice t x lo hi none) (hT : ElT P t e r.size bytes) (hs : isSl r xs D a) (hlo : lo.isSome = lov.isSome ∧ loOf lov = some i) (hhi : hi.isSome = hiv.isSome ∧ hiOf xs.length hiv = some j) (hy : cut xs i j = some ys) :
    LocalOk P o ((x, a) :: (optIn lo lov ++ optIn hi hiv)) [] [] [] (.sl r D ys) [] := by
  refine localOk_value fun γ ev w hin _ => ?_
  have h1 := hs γ w _ (hin (x, a) (by simp))
  simp only at h1
  obtain ⟨A, c, cs, hv, hc, hm, _⟩ := sl_open h1
  obtain ⟨c0, c1, c2, _⟩ := cut_some hy
  have hlo' : (lo.map ev = none ∧ i = 0) ∨ ∃ k, lo.map ev = some (.int k i) := by
    cases lo with
    | none =>
      cases lov with
      | none => left; exact ⟨rfl, by simpa [loOf] using hlo.2.symm⟩
      | some a => simp at hlo
    | some y =>
      cases lov with
      | none => simp at hlo
      | some b =>
        have hb := hin (y, b) (by simp [optIn])
        have h2 := hlo.2
        unfold loOf at h2
        split at h2
        · rename_i heq; cases heq
        · rename_i k i' heq
          cases heq; cases h2
          right; exact ⟨k, by simp [lf_int hb]⟩
        · cases h2
  have hhi' : (hi.map ev = none ∧ j = (xs.length : Int)) ∨ ∃ k, hi.map ev = some (.int k j) := by
    cases hi with
    | none =>
      cases hiv with
      | none => left; exact ⟨rfl, by simpa [hiOf] using hhi.2.symm⟩
      | some a => simp at hhi
    | some y =>
      cases hiv with
      | none => simp at hhi
      | some b =>
        have hb := hin (y, b) (by simp [optIn])
        have h2 := hhi.2
        unfold hiOf at h2
        split at h2
        · rename_i heq; cases heq
        · rename_i k i' heq
          cases heq; cases h2
          right; exact ⟨k, by simp [lf_int hb]⟩
        · cases h2
  rw [hv] at h1
  exact ⟨_, w, γ, by simp [execOp, ho, hv, run_cut hT w A _ c hc _ _ i j hlo' hhi' c0 c1 c2], Tr.refl _ _ _ _, cut_rel h1 hy, fun b hb => by cases hb⟩
end Go.Proofs.Ytnhnanbgphdaeaa
