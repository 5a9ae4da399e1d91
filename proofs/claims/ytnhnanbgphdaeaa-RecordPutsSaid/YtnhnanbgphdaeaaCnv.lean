/-
  Conversions between bytes and texts, places of texts, fields of records, and what reckons under a condition: quotients, shifts, sums of texts, records held against each other. No condition.
-/
import Derived.Test.YtnhnanbgphdaeaaLit
namespace Go.Proofs.Ytnhnanbgphdaeaa
open Go Go.RowKit

theorem byte_flat (l : List UInt8) : l.flatMap Rp.byte.lv = l.map fun c => LV.int .u8 c.toNat := by
  induction l with
  | nil => rfl
  | cons c l ih => rw [List.flatMap_cons, ih]; rfl
/-- string(b) -/
theorem lo_b2s {P : Program} {o : Oper} {src dst e : TypeId} {x : Operand} {a : AV} {l : List UInt8} {D : List Nat} (ho : o.op = .convert src dst x) (hs : P.underlying src = some (.slice e)) (he : P.underlying e = some (.int .u8)) (hd : P.underlying dst = some .string)
    (hx : isSl Rp.byte l D a) : LocalOk P o [(x, a)] [] [] [] (.lf (.str l)) [] := by
  refine localOk_value fun γ ev w hi _ => ?_
  have h := hx γ w _ (hi (x, a) (by simp))
  simp only at h
  obtain ⟨A, c, cs, hv, hc, hm, hA, hcs, hcell⟩ := sl_open h
  rw [byte_flat] at hA
  have hget : ∀ j (hj : j < l.length), cs[j]? = some (.int .u8 (l[j].toNat : Int)) := fun j hj => by
    have hj' : j < cs.length := by rw [hcs]; simpa [Rp.byte] using hj
    have := hA.2 j (.int .u8 (l[j].toNat : Int)) cs[j] (by simp [hj]) (List.getElem?_eq_getElem hj')
    rw [List.getElem?_eq_getElem hj']
    generalize cs[j] = u at this
    cases this
    rfl
  have hrun : (convert src dst (.slice A l.length c)).run P w = .ok (.string ⟨l.toArray⟩) w := by
    rcases Nat.eq_zero_or_pos l.length with h0 | h0
    · have : l = [] := List.eq_nil_of_length_eq_zero h0
      subst this
      rcases A with _ | ad
      · exact run_convert_bytes_nil w src e hs he 0 c dst hd
      · exact run_convert_bytes_back w src dst e ad c [] hs he hd (fun j hj => absurd hj (by simp))
    · obtain ⟨b, off, rfl, _, _, hc'⟩ := hcell h0
      refine run_convert_bytes_back w src dst e _ c l hs he hd fun j hj => ?_
      rw [addr_add, hc' j (by simpa [Rp.byte] using hj)]
      exact hget j hj
  exact ⟨_, w, γ, by simp [execOp, ho, hv, hrun], Tr.refl _ _ _ _, mk_str _ _ _, fun b hb => by cases hb⟩
/-- []byte(s) -/
theorem lo_s2b {P : Program} {o : Oper} {src dst e : TypeId} {x : Operand} {l : List UInt8} (ℓ : Nat) (ho : o.op = .convert src dst x) (hs : P.underlying src = some .string) (hd : P.underlying dst = some (.slice e)) (he : P.underlying e = some (.int .u8)) (hl : Nat.ble l.length 9223372036854775807 = true) :
    LocalOk P o [(x, .lf (.str l))] [] [] [ℓ] (.sl Rp.byte [ℓ] l) [] := by
  refine localOk_value fun γ ev w hi _ => ?_
  have h := lf_str (hi (x, .lf (.str l)) (by simp))
  simp only at h
  have hsz : (⟨l.toArray⟩ : ByteArray).size = l.length := by simp [ByteArray.size_mk']
  have hr := run_bytes_of_string (P := P) w src dst e ⟨l.toArray⟩ hs hd he
  rw [hsz] at hr
  generalize hcap : grownCap w l.length 0 e = cap at hr
  have hll : l.length ≤ maxLen := by unfold maxLen; exact Nat.le_of_ble_eq_true hl
  have hc1 : l.length ≤ cap := by rw [← hcap]; exact grownCap_ge _ _ _ _
  have hc2 : cap ≤ maxLen := by rw [← hcap]; exact grownCap_le_maxLen _ _ _ _ hll
  generalize hrow : bytesRow ⟨l.toArray⟩ cap = row at hr
  have hnew : (w.drew.alloc (.cells row e (row.size, row.size + 1))).heap[w.heap.size]? = some (.cells row e (row.size, row.size + 1)) := heap_alloc_new w.drew _
  have ht : Tr [] [ℓ] γ w (ghNew γ w.heap.size ℓ w.heap.size) (w.drew.alloc (.cells row e (row.size, row.size + 1))) :=
    ⟨rfl, rfl, rfl, by simp, fun b hb _ => Below.heap_alloc w.drew _ b hb, fun b hb => by simp [ghNew, hb], fun k hk => by
      simp only [List.mem_cons, List.not_mem_nil, or_false] at hk
      simp [ghNew, hk]⟩
  refine ⟨.slice (some ⟨w.heap.size, 0, none⟩) l.length cap, w.drew.alloc (.cells row e (row.size, row.size + 1)), _, by simp [execOp, ho, h, hr], ht, ?_, fun b hb => by cases hb⟩
  show LVrel _ _ (.sl l.length 1 (l.flatMap Rp.byte.lv)) _
  rw [byte_flat]
  refine .sl _ _ _ _ _ (l.map fun c => Value.int .u8 c.toNat) (by simp) (by simp) hc1 hc2 (fun h0 => ⟨w.heap.size, 0, rfl, ?_, by simp, fun i hi => ?_⟩) (fun i lv u h1 h2 => ?_)
  · show (ghNew γ w.heap.size ℓ w.heap.size).col w.heap.size ∈ [ℓ]
    rw [ghNew_col]; exact List.mem_cons_self
  · rw [cell_of_row _ _ _ _ _ _ hnew, ← hrow]
    have hi' : i < l.length := by omega
    rw [Nat.zero_add, bytesRow_at ⟨l.toArray⟩ cap i (by simpa using hi')]
    simp [hi']
  · simp only [List.getElem?_map, Option.map_eq_some_iff] at h1 h2
    obtain ⟨c, hc, rfl⟩ := h1
    obtain ⟨c', hc', rfl⟩ := h2
    rw [hc] at hc'
    cases hc'
    exact .int _ _
/-- A byte of a text. -/
theorem lo_ixs {P : Program} {o : Oper} {t : TypeId} {x y : Operand} {l : List UInt8} {k : IntKind} {i : Int} {c : UInt8} (ho : o.op = .index t x y) (ht : P.underlying t = some .string) (hx : idx l i = some c) :
    LocalOk P o [(x, .lf (.str l)), (y, .lf (.int k i))] [] [] [] (.lf (.int .u8 c.toNat)) [] := by
  refine localOk_value fun γ ev w hi _ => ?_
  have h1 := lf_str (hi (x, .lf (.str l)) (by simp))
  have h2 := lf_int (hi (y, .lf (.int k i)) (by simp))
  simp only at h1 h2
  obtain ⟨i0, i1, i2⟩ := idx_some hx
  have hb : (⟨l.toArray⟩ : ByteArray)[i.toNat]? = some c := by
    have hlt : i.toNat < (⟨l.toArray⟩ : ByteArray).size := by simp [ByteArray.size_mk']; omega
    rw [ByteArray.getElem?_lt' _ _ hlt]
    congr 1
    have := (List.getElem?_eq_some_iff.1 i2).2
    rw [← this]; rfl
  exact ⟨_, w, γ, by simp [execOp, ho, h1, h2, Instr.index, asIntOf, run_underlying ht, i0, hb], Tr.refl _ _ _ _, mk_int _ _ _ _, fun b hb => by cases hb⟩
/-- A piece of a text. -/
theorem lo_cuts {P : Program} {o : Oper} {l l' : List UInt8} {i j : Int} {t : TypeId} {x : Operand} {lo hi : Option Operand} (lov hiv : Option AV)
    (ho : o.op = .slice t x lo hi none) (ht : P.underlying t = some .string) (hlo : lo.isSome = lov.isSome ∧ loOf lov = some i) (hhi : hi.isSome = hiv.isSome ∧ hiOf l.length hiv = some j) (hy : cut l i j = some l') :
    LocalOk P o ((x, .lf (.str l)) :: (optIn lo lov ++ optIn hi hiv)) [] [] [] (.lf (.str l')) [] := by
  refine localOk_value fun γ ev w hin _ => ?_
  have h1 := lf_str (hin (x, .lf (.str l)) (by simp))
  simp only at h1
  obtain ⟨c0, c1, c2, e⟩ := cut_some hy
  have hlo' : (lo.map ev = none ∧ i = 0) ∨ ∃ k, lo.map ev = some (.int k i) := by
    cases lo with
    | none =>
      cases lov with
      | none => left; exact ⟨rfl, by simpa [loOf] using hlo.2.symm⟩
      | some a => simp at hlo
    | some y =>
      cases lov with
      | none => simp at hlo
      | some b =>
        have hb := hin (y, b) (by simp [optIn])
        have h2 := hlo.2
        unfold loOf at h2
        split at h2
        · rename_i heq; cases heq
        · rename_i k i' heq
          cases heq; cases h2
          right; exact ⟨k, by simp [lf_int hb]⟩
        · cases h2
  have hhi' : (hi.map ev = none ∧ j = (l.length : Int)) ∨ ∃ k, hi.map ev = some (.int k j) := by
    cases hi with
    | none =>
      cases hiv with
      | none => left; exact ⟨rfl, by simpa [hiOf] using hhi.2.symm⟩
      | some a => simp at hhi
    | some y =>
      cases hiv with
      | none => simp at hhi
      | some b =>
        have hb := hin (y, b) (by simp [optIn])
        have h2 := hhi.2
        unfold hiOf at h2
        split at h2
        · rename_i heq; cases heq
        · rename_i k i' heq
          cases heq; cases h2
          right; exact ⟨k, by simp [lf_int hb]⟩
        · cases h2
  have hsz : (⟨l.toArray⟩ : ByteArray).size = l.length := by simp [ByteArray.size_mk']
  have key : (Instr.sliceBounds false (⟨l.toArray⟩ : ByteArray).size (⟨l.toArray⟩ : ByteArray).size (lo.map ev) (hi.map ev) none).run P w = .ok (i.toNat, j.toNat, (⟨l.toArray⟩ : ByteArray).size) w := by
    rw [hsz]
    rcases hlo' with ⟨e1, rfl⟩ | ⟨k, e1⟩ <;> rcases hhi' with ⟨e2, rfl⟩ | ⟨k', e2⟩ <;> rw [e1, e2]
    · simp [Instr.sliceBounds]
    · simp [Instr.sliceBounds, run_sliceBound' w k' j l.length _ (by omega) (by omega)]
    · simp [Instr.sliceBounds, run_sliceBound' w k i l.length _ c0 c1]
    · have := run_sliceBound' (P := P) w k i j.toNat .sliceB c0 (by omega)
      simp [Instr.sliceBounds, run_sliceBound' w k' j l.length _ (by omega) (by omega), this]
  refine ⟨.string ⟨l'.toArray⟩, w, γ, ?_, Tr.refl _ _ _ _, mk_str _ _ _, fun b hb => by cases hb⟩
  simp only [execOp, ho, h1, Instr.sliceAt, Sem.run_bind, run_underlying ht, Result.andThen_ok, Instr.slice]
  simp [key, ByteArray.extract_mk, e]
/-- A text behind a text, where there is room. -/
def cat (x y : List UInt8) : Option (List UInt8) := if x.length + y.length ≤ 9223372036854775807 then some (x ++ y) else none
theorem lo_cat {P : Program} {o : Oper} {t t' : TypeId} {x y : Operand} {l m z : List UInt8} (ho : o.op = .binOp .add t x y t') (hz : cat l m = some z) : LocalOk P o [(x, .lf (.str l)), (y, .lf (.str m))] [] [] [] (.lf (.str z)) [] := by
  refine localOk_value fun γ ev w hi _ => ?_
  have h1 := lf_str (hi (x, .lf (.str l)) (by simp))
  have h2 := lf_str (hi (y, .lf (.str m)) (by simp))
  simp only at h1 h2
  unfold cat at hz
  split at hz
  · rename_i hlen
    cases hz
    have hs : ∀ l : List UInt8, (⟨l.toArray⟩ : ByteArray).size = l.length := fun l => by simp [ByteArray.size_mk']
    have hno : ¬ ((((⟨l.toArray⟩ : ByteArray).size + (⟨m.toArray⟩ : ByteArray).size : Nat) : Int) > IntKind.i64.max) := by
      rw [hs, hs]; simp [IntKind.max, IntKind.signed, IntKind.bits]; omega
    refine ⟨_, w, γ, by simp only [execOp, ho, h1, h2, Sem.run_bind, eqg_str, Result.andThen_ok, binOp, Op.stringOp, if_neg hno, Sem.run_pure]; rfl, Tr.refl _ _ _ _, ?_, fun b hb => by cases hb⟩
    rw [ByteArray.mk_append_mk]
    exact mk_str _ _ _
  · cases hz

/-! ### numbers under a condition -/

def quoI (k : IntKind) (x y : Int) : Option Int := if y = 0 then none else some (k.wrap (x.tdiv y))
def remI (x y : Int) : Option Int := if y = 0 then none else some (x.tmod y)
def shlO (k : IntKind) (x y : Int) : Option Int := if y < 0 then none else some (shlI k x y)
def shrO (k : IntKind) (x y : Int) : Option Int := if y < 0 then none else some (shrI k x y)
theorem lo_quo {P : Program} {o : Oper} {t t' : TypeId} {x y : Operand} {k : IntKind} {m n z : Int} (ho : o.op = .binOp .quo t x y t') (hz : quoI k m n = some z) : LocalOk P o [(x, .lf (.int k m)), (y, .lf (.int k n))] [] [] [] (.lf (.int k z)) [] := by
  refine localOk_value fun γ ev w hi _ => ?_
  have h1 := lf_int (hi (x, .lf (.int k m)) (by simp))
  have h2 := lf_int (hi (y, .lf (.int k n)) (by simp))
  simp only at h1 h2
  unfold quoI at hz
  split at hz
  · cases hz
  · rename_i hn
    cases hz
    have hk : ¬ (k ≠ k) := fun h => h rfl
    exact ⟨_, w, γ, by simp only [execOp, ho, h1, h2, Sem.run_bind, eqg_int, Result.andThen_ok, binOp, if_neg hk, Op.intDiv, if_neg hn, Sem.run_pure], Tr.refl _ _ _ _, mk_int _ _ _ _, fun b hb => by cases hb⟩
theorem lo_rem {P : Program} {o : Oper} {t t' : TypeId} {x y : Operand} {k : IntKind} {m n z : Int} (ho : o.op = .binOp .rem t x y t') (hz : remI m n = some z) : LocalOk P o [(x, .lf (.int k m)), (y, .lf (.int k n))] [] [] [] (.lf (.int k z)) [] := by
  refine localOk_value fun γ ev w hi _ => ?_
  have h1 := lf_int (hi (x, .lf (.int k m)) (by simp))
  have h2 := lf_int (hi (y, .lf (.int k n)) (by simp))
  simp only at h1 h2
  unfold remI at hz
  split at hz
  · cases hz
  · rename_i hn
    cases hz
    have hk : ¬ (k ≠ k) := fun h => h rfl
    exact ⟨_, w, γ, by simp only [execOp, ho, h1, h2, Sem.run_bind, eqg_int, Result.andThen_ok, binOp, if_neg hk, Op.intDiv, if_neg hn, Sem.run_pure], Tr.refl _ _ _ _, mk_int _ _ _ _, fun b hb => by cases hb⟩
theorem lo_shl {P : Program} {o : Oper} {t t' : TypeId} {x y : Operand} {k j : IntKind} {m n z : Int} (ho : o.op = .binOp .shl t x y t') (hz : shlO k m n = some z) : LocalOk P o [(x, .lf (.int k m)), (y, .lf (.int j n))] [] [] [] (.lf (.int k z)) [] := by
  refine localOk_value fun γ ev w hi _ => ?_
  have h1 := lf_int (hi (x, .lf (.int k m)) (by simp))
  have h2 := lf_int (hi (y, .lf (.int j n)) (by simp))
  simp only at h1 h2
  unfold shlO at hz
  split at hz
  · cases hz
  · rename_i hn
    cases hz
    exact ⟨_, w, γ, by simp only [execOp, ho, h1, h2, Sem.run_bind, eqg_int, Result.andThen_ok, binOp, Op.shift, if_neg hn, Sem.run_pure]; rfl, Tr.refl _ _ _ _, mk_int _ _ _ _, fun b hb => by cases hb⟩
theorem lo_shr {P : Program} {o : Oper} {t t' : TypeId} {x y : Operand} {k j : IntKind} {m n z : Int} (ho : o.op = .binOp .shr t x y t') (hz : shrO k m n = some z) : LocalOk P o [(x, .lf (.int k m)), (y, .lf (.int j n))] [] [] [] (.lf (.int k z)) [] := by
  refine localOk_value fun γ ev w hi _ => ?_
  have h1 := lf_int (hi (x, .lf (.int k m)) (by simp))
  have h2 := lf_int (hi (y, .lf (.int j n)) (by simp))
  simp only at h1 h2
  unfold shrO at hz
  split at hz
  · cases hz
  · rename_i hn
    cases hz
    exact ⟨_, w, γ, by simp only [execOp, ho, h1, h2, Sem.run_bind, eqg_int, Result.andThen_ok, binOp, Op.shift, if_neg hn, Sem.run_pure]; rfl, Tr.refl _ _ _ _, mk_int _ _ _ _, fun b hb => by cases hb⟩
end Go.Proofs.Ytnhnanbgphdaeaa
