/-
  Facts on struct types: their literals, and == between two flat ones. No condition.
-/
import Derived.Test.YtnhnanbgphdaeaaMore
import Derived.ChangeKeysEq
namespace Go.Proofs.Ytnhnanbgphdaeaa
open Go Go.RowKit

theorem lo_as {P : Program} {o : Oper} {ins ins' : List (Operand × AV)} {bx : List Bx} {W V : List Nat} {av : AV} {bs : List Bx} (h : LocalOk P o ins' bx W V av bs) (e : ins' = ins) : LocalOk P o ins bx W V av bs := e ▸ h
theorem lw_0 {P : Program} {l : List Oper} {is : List (List (Operand × AV) × List Bx)} : LawsOk P l [] is := by cases l <;> simp [LawsOk]
theorem lw_e {P : Program} {o : Oper} {l : List Oper} {ss : List DStep} {is : List (List (Operand × AV) × List Bx)} (h : LawsOk P l ss is) : LawsOk P (o :: l) (.ev :: ss) is := by simpa [LawsOk] using h
theorem lw_x {P : Program} {o : Oper} {l : List Oper} {bl W V : List Nat} {av : AV} {bs : List Bx} {ss : List DStep} {ins : List (Operand × AV)} {bxs : List Bx} {is : List (List (Operand × AV) × List Bx)} (h : LocalOk P o ins bxs W V av bs) (h2 : LawsOk P l ss is) :
    LawsOk P (o :: l) (.ex bl W V av bs :: ss) ((ins, bxs) :: is) := by simp only [LawsOk]; exact ⟨h, h2⟩
def sizesB (P : Program) : List Field → List (Nat × Nat) → Bool
  | [], [] => true
  | f :: fs, (o, s) :: ps => Nat.beq f.offset o && (match P.info? f.type with | some i => Nat.beq i.size s | none => false) && sizesB P fs ps
  | _, _ => false
theorem sizesB_run {P : Program} : ∀ (fs : List Field) (ps : List (Nat × Nat)), sizesB P fs ps = true → ∀ w, (fs.mapM (m := Sem) fun (f : Field) => do pure (f.offset, ← sizeOf f.type)).run P w = .ok ps w
  | [], [], _, w => rfl
  | f :: fs, (o, s) :: ps, h, w => by
    simp only [sizesB, Bool.and_eq_true] at h
    obtain ⟨⟨h1, h2⟩, h3⟩ := h
    have h1 := Nat.eq_of_beq_eq_true h1
    split at h2
    · rename_i i hi
      have h2 := Nat.eq_of_beq_eq_true h2
      subst h1 h2
      have hs : (sizeOf f.type).run P w = .ok i.size w := by simp [sizeOf, typeInfo, hi]
      simp only [List.mapM_cons, Sem.run_bind, hs, Result.andThen_ok, Sem.run_pure, sizesB_run fs ps h3 w]
    · cases h2
  | [], _ :: _, h, _ => by cases h
  | _ :: _, [], h, _ => by cases h
def stB (P : Program) (t : TypeId) (fs : Array Field) (places : List (Nat × Nat)) (zl : List LV) : Bool := sizesB P fs.toList places && match P.info? t with
  | some i => match i.zero with
    | some z => zokL zl z.cells.toList
    | none => false
  | none => false
theorem StT.ofB {P : Program} {t : TypeId} {fs : Array Field} {places : List (Nat × Nat)} {zl : List LV} (hu : P.underlying t = some (.struct fs)) (h : stB P t fs places zl = true) : StT P t places zl := by
  simp only [stB, Bool.and_eq_true] at h
  obtain ⟨h1, h2⟩ := h
  split at h2
  · rename_i i hi
    split at h2
    · rename_i z hz
      refine ⟨fs, z, hu, fun w => by simp [zeroValue, typeInfo, hi, hz], fun w => ?_, h2⟩
      have := sizesB_run fs.toList places h1 w
      rw [← Array.toArray_toList (xs := fs), List.mapM_toArray, Sem.run_map]
      rw [this]; rfl
    · cases h2
  · cases h2

/-! ### == -/

def kindOk : Option TypeDesc → LV → Bool
  | some (.int k), .int k' _ => decide (k = k')
  | some .bool, .bool _ => true
  | some .string, .str _ => true
  | _, _ => false
def flatF (P : Program) : Nat → List Field → List LV → Bool
  | _, [], [] => true
  | off, f :: fs, l :: ls => (f.name != "_" && Nat.beq f.offset off && P.plainKey f.type && kindOk (P.underlying f.type) l) && flatF P (off + 1) fs ls
  | _, _, _ => false
def leq : LV → LV → Bool
  | .int _ a, .int _ b => a == b
  | .bool a, .bool b => a == b
  | .str a, .str b => a == b
  | _, _ => false
def eqL : List LV → List LV → Bool
  | [], [] => true
  | l :: ls, m :: ms => leq l m && eqL ls ms
  | _, _ => false
theorem leq_run {P : Program} {t : TypeId} {l m : LV} (h1 : kindOk (P.underlying t) l = true) (h2 : kindOk (P.underlying t) m = true) (d : Nat) (w : World) :
    (Op.equalIn (d + 1) t (cellOf l) (cellOf m)).run P w = .ok (leq l m) w := by
  generalize hu : P.underlying t = u at h1 h2
  unfold kindOk at h1
  split at h1
  · rename_i k k' a
    have := of_decide_eq_true h1
    subst this
    cases m <;> first | cases h2 | skip
    rename_i k2 b
    have := of_decide_eq_true h2
    subst this
    exact run_equalIn_int w d t k k a b hu
  · cases m <;> first | cases h2 | skip
    exact run_equalIn_bool' w d t _ _ hu
  · cases m <;> first | cases h2 | skip
    have := run_equalIn_string w d t ⟨(‹List UInt8› : List UInt8).toArray⟩ ⟨(‹List UInt8› : List UInt8).toArray⟩ hu
    rename_i a b
    have := run_equalIn_string w d t ⟨a.toArray⟩ ⟨b.toArray⟩ hu
    simp only [cellOf, leq]
    rw [this]
    simp [ByteArray.toList_eq]
  · cases h1
theorem eqFields_run {P : Program} {xs ys : Array Value} (d : Nat) (w : World) : ∀ (fs : List Field) (ls ms : List LV) (off : Nat), flatF P off fs ls = true → flatF P off fs ms = true →
    (∀ i, i < ls.length → xs[off + i]? = (ls.map cellOf)[i]?) → (∀ i, i < ms.length → ys[off + i]? = (ms.map cellOf)[i]?) → (Op.eqFields (d + 1) xs ys fs).run P w = .ok (eqL ls ms) w
  | [], [], [], _, _, _, _, _ => rfl
  | f :: fs, l :: ls, m :: ms, off, h1, h2, hx, hy => by
    simp only [flatF, Bool.and_eq_true] at h1 h2
    obtain ⟨⟨⟨⟨a1, a2⟩, a3⟩, a4⟩, a5⟩ := h1
    obtain ⟨⟨_, b4⟩, b5⟩ := h2
    have hn : f.name ≠ "_" := by simpa using a1
    have ho := Nat.eq_of_beq_eq_true a2
    have p1 := run_part_plain a3 (xs := xs) (off := f.offset) (v := cellOf l) (w := w) (by rw [ho]; simpa using hx 0 (by simp))
    have p2 := run_part_plain a3 (xs := ys) (off := f.offset) (v := cellOf m) (w := w) (by rw [ho]; simpa using hy 0 (by simp))
    have ih := eqFields_run d w fs ls ms (off + 1) a5 b5 (fun i hi => by have := hx (i + 1) (by simpa using hi); simpa [Nat.add_assoc, Nat.add_comm 1 i] using this) (fun i hi => by have := hy (i + 1) (by simpa using hi); simpa [Nat.add_assoc, Nat.add_comm 1 i] using this)
    simp only [Op.eqFields, hn, ne_eq, not_false_eq_true, if_true, Sem.run_bind, p1, p2, Result.andThen_ok, leq_run a4 b4 d w, eqL]
    cases leq l m
    · rfl
    · simpa using ih
  | [], [], _ :: _, _, _, h, _, _ => by cases h
  | [], _ :: _, _, _, h, _, _, _ => by cases h
  | _ :: _, [], _, _, h, _, _, _ => by cases h
  | _ :: _, _ :: _, [], _, _, h, _, _ => by cases h
theorem eqT {P : Program} {t : TypeId} {fs : Array Field} {ls ms : List LV} {b : Bool} (hu : P.underlying t = some (.struct fs)) (hp : P.stoodInHeld t = false) (h1 : flatF P 0 fs.toList ls = true) (h2 : flatF P 0 fs.toList ms = true) (he : eqL ls ms = b) :
    ∀ w, (Op.equalIn 10000 t (.agg (ls.map cellOf).toArray) (.agg (ms.map cellOf).toArray)).run P w = .ok b w := fun w => by
  have hf : P.fieldsOf t = fs := by unfold Program.fieldsOf; rw [hu]
  rw [run_equalIn_struct w 9999 t _ _ (by rw [hf]; exact hu) hp, hf, eqFields_run 9998 w fs.toList ls ms 0 h1 h2 (fun i _ => by simp) (fun i _ => by simp), he]
end Go.Proofs.Ytnhnanbgphdaeaa
