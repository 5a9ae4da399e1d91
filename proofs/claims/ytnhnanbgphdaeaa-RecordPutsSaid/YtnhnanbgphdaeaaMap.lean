/-
  Maps that a function has made itself, or was handed, told as lists of keys and values. No condition.
-/
import Derived.Test.YtnhnanbgphdaeaaAgg
import Derived.MapKept
import Derived.DeepKeys
namespace Go.Proofs.Ytnhnanbgphdaeaa
open Go Go.RowKit
set_option linter.unusedVariables false
set_option linter.unusedSectionVars false

/-! ### plain maps -/
def mget {κ ν : Type} [DecidableEq κ] : List (κ × ν) → κ → Option ν
  | [], _ => none
  | p :: m, k => if k = p.1 then some p.2 else mget m k
def mput {κ ν : Type} [DecidableEq κ] : List (κ × ν) → κ → ν → List (κ × ν)
  | [], k, x => [(k, x)]
  | p :: m, k, x => if k = p.1 then (k, x) :: m else p :: mput m k x
theorem mget_mput {κ ν : Type} [DecidableEq κ] (m : List (κ × ν)) (k j : κ) (x : ν) : mget (mput m k x) j = if j = k then some x else mget m j := by
  induction m with
  | nil => simp only [mput, mget]
  | cons p m ih =>
    rw [mput]
    by_cases h : k = p.1
    · rw [if_pos h, mget, mget]
      by_cases hj : j = k
      · rw [if_pos hj, if_pos hj]
      · rw [if_neg hj, if_neg hj, if_neg (by rw [← h]; exact hj)]
    · rw [if_neg h, mget, mget, ih]
      by_cases hj : j = p.1
      · have : j ≠ k := fun e => h (by rw [← e, hj])
        rw [if_pos hj, if_pos hj, if_neg this]
      · rw [if_neg hj, if_neg hj]

/-! ### entries -/
def findE {κ ν : Type} [DecidableEq κ] (k : κ) : List (κ × ν) → List MapEntry → Nat → Option (Nat × Value)
  | p :: m, e :: es, i => if k = p.1 then some (i, e.val) else findE k m es (i + 1)
  | _, _, _ => none
/-- A value that reads as a thing of a type. -/
def asV {α : Type} (r : Rp α) (x : α) (D : List Nat) (a : AV) : Prop := ∀ γ w v, a.rel γ w v → VRel (γ.F D) w r x v
theorem cells_one {v : Value} (h : v.oneCell' = true) : v.cells = #[v] := by cases v <;> first | rfl | cases h
theorem vrel_leaf {α : Type} {F : Fp} {w : World} {r : Rp α} {x : α} {l : LV} {v : Value} (hr : r.agg = false) (hl : r.lv x = [l]) (h : LVrel F w l v) : VRel F w r x v := by
  have hc := cells_one h.one
  refine ⟨?_, ⟨fun e => ?_, fun _ => hc⟩⟩
  · rw [hl, hc]
    exact .cons h .nil
  · rw [hr] at e; cases e
theorem vrel_one {α : Type} {F : Fp} {w : World} {r : Rp α} {x : α} {l : LV} {v : Value} (hr : r.agg = false) (hl : r.lv x = [l]) (h : VRel F w r x v) : LVrel F w l v := by
  have h1 := h.1
  rw [hl, h.2.2 hr] at h1
  exact h1.2 0 l v rfl rfl
theorem asV_lf {α : Type} {r : Rp α} {x : α} {l : LV} (hr : r.agg = false) (hl : r.lv x = [l]) : asV r x [] (.lf l) := fun γ w v h => vrel_leaf hr hl (h.2.plain h.1)
theorem asV_sl {α : Type} (r : Rp α) (xs : List α) (C : List Nat) : asV (Rp.list r) xs C (.sl r C xs) := fun γ w v h => vrel_leaf rfl rfl h
theorem asV_own {α : Type} (r : Rp α) (xs : List α) (e : TypeId) (ℓ : Nat) (C : List Nat) : asV (Rp.list r) xs (ℓ :: C) (.own r e ℓ C xs) := fun γ w v h => vrel_leaf rfl rfl (own_LV h)
theorem asV_nil {α : Type} (r : Rp α) : asV (Rp.list r) [] [] (.lf (.val (.slice none 0 0))) := fun γ w v h => vrel_leaf rfl rfl (isSl_nil r [] γ w v h)
theorem asV_rc {α : Type} {r : Rp α} {x : α} {C : List Nat} (hr : r.agg = true) : asV r x C (.rc r C x) := fun γ w v ⟨cs, hv, hA⟩ => by
  subst hv
  refine ⟨by simpa [Value.cells] using hA, ⟨fun _ => ⟨cs, rfl⟩, fun e => ?_⟩⟩
  rw [hr] at e; cases e
theorem asV.sub {α : Type} {r : Rp α} {x : α} {D D' : List Nat} {a : AV} (h : asV r x D a) (hs : subN D D' = true) : asV r x D' a := fun γ w v hv => (h γ w v hv).mono fun b _ hb => subN_spec hs _ hb
/-- What a value out of a map reads as. -/
def elAV {α : Type} (r : Rp α) (C : List Nat) (x : α) (a : AV) : Prop := ∀ γ w v, VRel (γ.F C) w r x v → a.rel γ w v
theorem elAV_rc {α : Type} {r : Rp α} {C : List Nat} {x : α} (hr : r.agg = true) : elAV r C x (.rc r C x) := fun γ w v h => by
  obtain ⟨cs, rfl⟩ := h.2.1 hr
  exact ⟨cs, rfl, by simpa [Value.cells] using h.1⟩
theorem elAV_lf {α : Type} {r : Rp α} {C : List Nat} {x : α} {l : LV} (hr : r.agg = false) (hl : r.lv x = [l]) (hp : l.plain = true) : elAV r C x (.lf l) := fun γ w v h => ⟨hp, (vrel_one hr hl h).plain hp⟩
theorem elAV_sl {α : Type} (r : Rp α) (C : List Nat) (xs : List α) : elAV (Rp.list r) C xs (.sl r C xs) := fun γ w v h => vrel_one rfl rfl h

/-- A type that may be a key. -/
structure KeyT (P : Program) {κ : Type} [DecidableEq κ] (kt : TypeId) (r : Rp κ) : Prop where
  check : ∀ (w : World) (e : Bool) (F : Fp) (k : κ) (v : Value), VRel F w r k v → (Instr.checkKey e 10000 kt v).run P w = .ok () w
  find : ∀ (w : World) (F F' : Fp) (k : κ) (v : Value) (ν : Type) (rv : Rp ν) (m : List (κ × ν)) (es : List MapEntry), VRel F w r k v → EsRel F' w r rv m es → (Instr.findKey kt v es).run P w = .ok (findE k m es 0) w
  stays : ∀ (w : World) (F F' : Fp) (k : κ) (v v' : Value), VRel F w r k v → VRel F' w r k v' → Instr.sameBits 10000 v v' = true
theorem vrel_plain {α : Type} {F : Fp} {w : World} {r : Rp α} {x : α} {l : LV} {v : Value} (hr : r.agg = false) (hl : r.lv x = [l]) (hp : l.plain = true) (h : VRel F w r x v) : v = cellOf l := cellOf_rel (vrel_one hr hl h) hp
theorem find_now {P : Program} {κ ν : Type} [DecidableEq κ] {kt : TypeId} {d : TypeDesc} {r : Rp κ} {rv : Rp ν} (hu : P.underlying kt = some d) (hs : ∀ (F F' : Fp) (w : World) (a b : κ) (u v : Value), VRel F w r a u → VRel F' w r b v → Instr.sameNow d u v = some (decide (a = b)))
    (w : World) (F F' : Fp) (k : κ) (v : Value) (m : List (κ × ν)) (es : List MapEntry) (hk : VRel F w r k v) (he : EsRel F' w r rv m es) : (Instr.findKey kt v es).run P w = .ok (findE k m es 0) w := by
  have key : ∀ i, Instr.findNow d v es i = some (findE k m es i) := by
    induction he with
    | nil => intro i; rfl
    | cons h1 h2 _ ih =>
      intro i
      rw [Instr.findNow, hs _ _ w _ _ _ _ hk h1, findE]
      split
      · rename_i h; rw [if_pos (by simpa using h)]
      · rename_i h; rw [if_neg (by simpa using h), ih]
      · rename_i h; cases h
  simp [Instr.findKey, run_underlying hu, key 0]
def plainD : TypeDesc → Bool
  | .int _ | .bool | .string => true
  | _ => false
theorem run_checkKey_plain {P : Program} {t : TypeId} {d : TypeDesc} (hu : P.underlying t = some d) (hd : plainD d = true) (e : Bool) (n : Nat) (v : Value) (w : World) : (Instr.checkKey e (n + 1) t v).run P w = .ok () w := by
  rw [Instr.checkKey]
  simp only [Sem.run_bind, run_underlying hu, Result.andThen_ok]
  cases d <;> first | (cases v <;> rfl; done) | cases hd
theorem sameBits_cell (n : Nat) {l : LV} (h : l.plain = true) (hv : ∀ v, l ≠ .val v) : Instr.sameBits n (cellOf l) (cellOf l) = true := by
  cases l with
  | int k a => cases n <;> simp [Instr.sameBits, cellOf]
  | bool b => cases n <;> simp [Instr.sameBits, cellOf]
  | str s =>
    have : (({ data := s.toArray } : ByteArray) == { data := s.toArray }) = true := by rw [beq_toListBytes]; simp
    cases n <;> simp [Instr.sameBits, cellOf, this]
  | sl => cases h
  | val v => exact absurd rfl (hv v)
theorem keyT_plain {P : Program} {κ : Type} [DecidableEq κ] {kt : TypeId} {d : TypeDesc} {r : Rp κ} (hu : P.underlying kt = some d) (hd : plainD d = true) (lf : κ → LV) (hr : r.agg = false) (hl : ∀ x, r.lv x = [lf x]) (hp : ∀ x, (lf x).plain = true) (hv : ∀ x v, lf x ≠ .val v)
    (hs : ∀ a b, Instr.sameNow d (cellOf (lf a)) (cellOf (lf b)) = some (decide (a = b))) : KeyT P kt r := by
  have hc : ∀ {F : Fp} {w : World} {x : κ} {v : Value}, VRel F w r x v → v = cellOf (lf x) := fun {F w x v} h => vrel_plain hr (hl x) (hp x) h
  refine ⟨fun w e F x v h => run_checkKey_plain hu hd e 9999 v w, fun w F F' x v ν rv m es h he => find_now hu (fun F F' w a b u v h1 h2 => ?_) w F F' x v m es h he, fun w F F' x v v' h h' => ?_⟩
  · rw [hc h1, hc h2]; exact hs a b
  · rw [hc h, hc h']; exact sameBits_cell _ (hp x) (hv x)
theorem keyT_int {P : Program} {kt : TypeId} {k : IntKind} (hu : P.underlying kt = some (.int k)) : KeyT P kt (Rp.int k) :=
  keyT_plain hu rfl (fun x => .int k x) rfl (fun _ => rfl) (fun _ => rfl) (fun _ _ => nofun) fun a b => by simp only [Instr.sameNow, cellOf, if_true, Option.some.injEq]; by_cases h : a = b <;> simp [h]
theorem keyT_str {P : Program} {kt : TypeId} (hu : P.underlying kt = some .string) : KeyT P kt Rp.str :=
  keyT_plain hu rfl (fun x => .str x) rfl (fun _ => rfl) (fun _ => rfl) (fun _ _ => nofun) fun a b => by
    simp only [Instr.sameNow, cellOf, Option.some.injEq]
    rw [beq_toListBytes]
    by_cases h : a = b
    · simp [h]
    · simp [h, ByteArray.toList_eq]
theorem keyT_bool {P : Program} {kt : TypeId} (hu : P.underlying kt = some .bool) : KeyT P kt Rp.bool :=
  keyT_plain hu rfl (fun x => .bool x) rfl (fun _ => rfl) (fun _ => rfl) (fun _ _ => nofun) fun a b => by cases a <;> cases b <;> rfl

/-! ### flat structs as keys -/
theorem vrel_cells {α : Type} {F : Fp} {w : World} {r : Rp α} {x : α} {v : Value} (hr : r.agg = true) (hp : (r.lv x).all LV.plain = true) (h : VRel F w r x v) : v = .agg ((r.lv x).map cellOf).toArray := by
  obtain ⟨cs, rfl⟩ := h.2.1 hr
  have h1 := h.1
  simp only [Value.cells] at h1
  rw [← cellsOf_rel h1 hp]
theorem flatF_plain {P : Program} : ∀ (fs : List Field) (ls : List LV) (off : Nat), flatF P off fs ls = true → ls.all LV.plain = true ∧ ∀ l ∈ ls, ∀ v, l ≠ .val v
  | [], [], _, _ => ⟨rfl, nofun⟩
  | f :: fs, l :: ls, off, h => by
    simp only [flatF, Bool.and_eq_true] at h
    obtain ⟨⟨⟨⟨_, _⟩, _⟩, hk⟩, h2⟩ := h
    obtain ⟨i1, i2⟩ := flatF_plain fs ls _ h2
    have : l.plain = true ∧ ∀ v, l ≠ .val v := by
      unfold kindOk at hk
      split at hk <;> first | exact ⟨rfl, nofun⟩ | cases hk
    refine ⟨by simp [this.1, i1], fun x hx => ?_⟩
    cases hx with
    | head => exact this.2
    | tail _ hx => exact i2 x hx
  | [], _ :: _, _, h => by cases h
  | _ :: _, [], _, h => by cases h
theorem run_checkFields {P : Program} {xs : Array Value} (e : Bool) (n : Nat) (w : World) : ∀ (fs : List Field) (ls : List LV) (off : Nat), flatF P off fs ls = true → (∀ i, i < ls.length → xs[off + i]? = (ls.map cellOf)[i]?) →
    (forIn (m := Sem) fs PUnit.unit fun f _ => if f.name ≠ "_" then (do let p ← part f.type xs f.offset; Instr.checkKey e (n + 1) f.type p; pure (ForInStep.yield PUnit.unit)) else pure (ForInStep.yield PUnit.unit)).run P w = .ok PUnit.unit w
  | [], [], _, _, _ => rfl
  | f :: fs, l :: ls, off, h, hx => by
    simp only [flatF, Bool.and_eq_true] at h
    obtain ⟨⟨⟨⟨a1, a2⟩, a3⟩, a4⟩, a5⟩ := h
    have hn : f.name ≠ "_" := by simpa using a1
    have ho := Nat.eq_of_beq_eq_true a2
    have p1 := run_part_plain a3 (xs := xs) (off := f.offset) (v := cellOf l) (w := w) (by rw [ho]; simpa using hx 0 (by simp))
    have hc : (Instr.checkKey e (n + 1) f.type (cellOf l)).run P w = .ok () w := by
      generalize hu : P.underlying f.type = u at a4
      unfold kindOk at a4
      split at a4 <;> first | (exact run_checkKey_plain hu rfl e n _ w) | cases a4
    have ih := run_checkFields e n w fs ls (off + 1) a5 (fun i hi => by have := hx (i + 1) (by simpa using hi); simpa [Nat.add_assoc, Nat.add_comm 1 i] using this)
    simp only [List.forIn_cons, hn, ne_eq, not_false_eq_true, if_true, Sem.run_bind, p1, hc, Result.andThen_ok, Sem.run_pure]
    exact ih
  | [], _ :: _, _, h, _ => by cases h
  | _ :: _, [], _, h, _ => by cases h
theorem run_checkKey_struct {P : Program} {t : TypeId} {fs : Array Field} {ls : List LV} (hu : P.underlying t = some (.struct fs)) (h : flatF P 0 fs.toList ls = true) (e : Bool) (n : Nat) (w : World) :
    (Instr.checkKey e (n + 1 + 1) t (.agg (ls.map cellOf).toArray)).run P w = .ok () w := by
  rw [Instr.checkKey]
  simp only [Sem.run_bind, run_underlying hu, Result.andThen_ok]
  rw [← Array.forIn_toList]
  have := run_checkFields (P := P) (xs := (ls.map cellOf).toArray) e n w fs.toList ls 0 h (fun i _ => by simp)
  rw [this]
  rfl
theorem find_asking {P : Program} {κ ν : Type} [DecidableEq κ] {kt : TypeId} {r : Rp κ} {rv : Rp ν} {w : World} {F' : Fp} {k : κ} {v : Value} {m : List (κ × ν)} {es : List MapEntry}
    (hq : ∀ (b : κ) (u : Value), VRel F' w r b u → (Op.equal kt v u).run P w = .ok (decide (k = b)) w) (he : EsRel F' w r rv m es) : ∀ i, (Instr.findAsking kt v es i).run P w = .ok (findE k m es i) w := by
  induction he with
  | nil => intro i; rfl
  | cons h1 h2 _ ih =>
    intro i
    rw [Instr.findAsking, findE]
    simp only [Sem.run_bind, hq _ _ h1, Result.andThen_ok]
    split
    · rename_i h; rw [if_pos (by simpa using h)]; rfl
    · rename_i h; rw [if_neg (by simpa using h)]; exact ih (i + 1)
theorem keyT_flat {P : Program} {κ : Type} [DecidableEq κ] {kt : TypeId} {fs : Array Field} {r : Rp κ} (hu : P.underlying kt = some (.struct fs)) (hp : P.stoodInHeld kt = false) (hr : r.agg = true) (hf : ∀ x, flatF P 0 fs.toList (r.lv x) = true)
    (he : ∀ a b, eqL (r.lv a) (r.lv b) = decide (a = b)) : KeyT P kt r := by
  have hv : ∀ {F : Fp} {w : World} {x : κ} {v : Value}, VRel F w r x v → v = .agg ((r.lv x).map cellOf).toArray := fun {F w x v} h => vrel_cells hr (flatF_plain _ _ _ (hf x)).1 h
  refine ⟨fun w e F x v h => ?_, fun w F F' x v ν rv m es h hes => ?_, fun w F F' x v v' h h' => ?_⟩
  · rw [hv h]; exact run_checkKey_struct hu (hf x) e 9998 w
  · rw [hv h]
    cases hes with
    | nil => simp [Instr.findKey, run_underlying hu, Instr.findNow, findE]
    | cons h1 h2 h3 =>
      have hq : ∀ (b : κ) (u : Value), VRel F' w r b u → (Op.equal kt (.agg ((r.lv x).map cellOf).toArray) u).run P w = .ok (decide (x = b)) w := fun b u hu' => by
        rw [hv hu']
        exact eqT hu hp (hf x) (hf b) (he x b) w
      have := find_asking hq (.cons h1 h2 h3) 0
      simp only [Instr.findKey, Sem.run_bind, run_underlying hu, Result.andThen_ok, Instr.findNow, Instr.sameNow]
      exact this
  · rw [hv h, hv h']
    obtain ⟨p1, p2⟩ := flatF_plain _ _ _ (hf x)
    show Instr.sameBits (9999 + 1) _ _ = true
    simp only [Instr.sameBits, BEq.rfl, Bool.true_and, List.all_eq_true]
    intro p hp'
    have hz : ∀ (l : List Value) (q : Value × Value), q ∈ l.zip l → q.1 = q.2 ∧ q.1 ∈ l := by
      intro l
      induction l with
      | nil => intro q hq; cases hq
      | cons a l ih =>
        intro q hq
        cases hq with
        | head => exact ⟨rfl, List.mem_cons_self⟩
        | tail _ hq => exact ⟨(ih q hq).1, List.mem_cons_of_mem _ (ih q hq).2⟩
    obtain ⟨e1, e2⟩ := hz _ p hp'
    obtain ⟨l, hl, e3⟩ := List.mem_map.1 (by simpa using e2)
    obtain ⟨pa, pb⟩ := p
    simp only at e1 e3 ⊢
    subst e1
    rw [← e3]
    exact sameBits_cell _ (by simp only [List.all_eq_true] at p1; exact p1 l hl) (p2 l hl)

/-! ### the operations -/
theorem run_getMap {P : Program} {w : World} {b : Nat} {es : Array MapEntry} {cl : Nat} (h : w.heap[b]? = some (.map es cl)) : (getObj b).run P w = .ok (.map es cl) w := by simp [getObj, Sem.run, h]
theorem run_setMap {P : Program} {w : World} {b : Nat} {es : Array MapEntry} {cl : Nat} (ob : Obj) (h : w.heap[b]? = some (.map es cl)) : (setObj b ob).run P w = .ok () { w with heap := w.heap.setIfInBounds b ob } := by simp [setObj, Sem.run, h]
section
variable {P : Program} {o : Oper} {κ ν : Type} {rk : Rp κ} {rv : Rp ν} {C D : List Nat} {m : List (κ × ν)} {t kt et : TypeId}
/-- A map, whoever owns it. -/
def isMp (rk : Rp κ) (rv : Rp ν) (m : List (κ × ν)) (D : List Nat) (a : AV) : Prop := ∀ γ w v, a.rel γ w v → AV.rel γ w (.mp rk rv D m) v
theorem isMp_mp (rk : Rp κ) (rv : Rp ν) (m : List (κ × ν)) (C : List Nat) : isMp rk rv m C (.mp rk rv C m) := fun _ _ _ h => h
theorem isMp_om (rk : Rp κ) (rv : Rp ν) (m : List (κ × ν)) (ℓ : Nat) (C : List Nat) : isMp rk rv m (ℓ :: C) (.om rk rv ℓ C m) := fun γ w v ⟨b, es, cl, hv, ⟨g1, _⟩, hb, hh, hE, _⟩ =>
  ⟨b, es, cl, hv, by rw [g1]; exact List.mem_cons_self, hb, hh, hE.mono fun _ _ h => List.mem_cons_of_mem _ h⟩
theorem le_mp (C C' : List Nat) (m : List (κ × ν)) (h : subN C C' = true) : AV.le (.mp rk rv C m) (.mp rk rv C' m) := fun _ _ _ ⟨b, es, cl, hv, hF, hb, hh, hE⟩ => ⟨b, es, cl, hv, subN_spec h _ hF, hb, hh, hE.mono fun _ _ h' => subN_spec h _ h'⟩
theorem le_om (ℓ : Nat) (C C' : List Nat) (m : List (κ × ν)) (h : subN C C' = true) (hn : memN ℓ C' = false) : AV.le (.om rk rv ℓ C m) (.om rk rv ℓ C' m) := fun _ _ _ ⟨b, es, cl, hv, g, hb, hh, hE, _⟩ =>
  ⟨b, es, cl, hv, g, hb, hh, hE.mono fun _ _ h' => subN_spec h _ h', fun hc => by rw [memN_iff.2 hc] at hn; cases hn⟩
theorem le_mpo (ℓ : Nat) (C C' : List Nat) (m : List (κ × ν)) (h : subN (ℓ :: C) C' = true) : AV.le (.om rk rv ℓ C m) (.mp rk rv C' m) := fun γ w v hv => le_mp _ _ m h γ w v (isMp_om rk rv m ℓ C γ w v hv)
theorem esRel_length {F : Fp} {w : World} {es : List MapEntry} (h : EsRel F w rk rv m es) : m.length = es.length := by
  induction h with
  | nil => rfl
  | cons _ _ _ ih => simp [ih]
theorem lo_mlen {x : Operand} {a : AV} (ho : o.op = .call ⟨.builtin .len, #[x], #[t]⟩) (hu : P.underlying t = some (.map kt et)) (hm : isMp rk rv m D a) : LocalOk P o [(x, a)] [] [] [] (.lf (.int .i64 (m.length : Int))) [] := by
  refine localOk_value fun γ ev w hi _ => ?_
  obtain ⟨b', es, cl, hv, hF, hb, hh, hE⟩ := hm γ w _ (hi (x, a) (by simp))
  simp only at hv
  refine ⟨.int .i64 (m.length : Int), w, γ, ?_, Tr.refl _ _ _ _, mk_int _ _ _ _, fun b hb => by cases hb⟩
  refine run_builtin_call (args := [x]) (ts := [t]) ho rfl rfl rfl fun consts => ?_
  simp [builtin, Builtin.len_, run_underlying hu, hv, run_getMap hh, goInt, esRel_length hE]
theorem lo_mkmap (ℓ : Nat) (ho : o.op = .makeMap t none) : LocalOk P o [] [] [] [ℓ] (.om rk rv ℓ [] []) [] := by
  refine localOk_value fun γ ev w hi _ => ?_
  refine ⟨.map (some w.heap.size), w.alloc (.map #[] 0), _, ?_, tr_new γ w ℓ _, ⟨w.heap.size, #[], 0, rfl, ⟨ghNew_col _ _ _ _, ghNew_box _ _ _ _⟩, by simp, heap_alloc_new w _, .nil, by simp⟩, fun b hb => by cases hb⟩
  simp [execOp, ho, Instr.makeMap]
theorem lo_mkmap' {x : Operand} {n : Int} {k : IntKind} (ℓ : Nat) (ho : o.op = .makeMap t (some x)) (hu : P.underlying t = some (.map kt et)) : LocalOk P o [(x, .lf (.int k n))] [] [] [ℓ] (.om rk rv ℓ [] []) [] := by
  refine localOk_value fun γ ev w hi _ => ?_
  have h2 := lf_int (hi (x, .lf (.int k n)) (by simp))
  simp only at h2
  refine ⟨.map (some w.heap.size), w.alloc (.map #[] 0), _, ?_, tr_new γ w ℓ _, ⟨w.heap.size, #[], 0, rfl, ⟨ghNew_col _ _ _ _, ghNew_box _ _ _ _⟩, by simp, heap_alloc_new w _, .nil, by simp⟩, fun b hb => by cases hb⟩
  simp [execOp, ho, Instr.makeMap, run_underlying hu, h2, asInt, asIntOf]
end
structure MapT (P : Program) {κ ν : Type} [DecidableEq κ] (t kt et : TypeId) (rk : Rp κ) (rv : Rp ν) (x0 : ν) : Prop where
  u : P.underlying t = some (.map kt et)
  key : KeyT P kt rk
  zero : ∃ i z, P.info? et = some i ∧ i.zero = some z ∧ zokL (rv.lv x0) z.cells.toList = true ∧ (rv.agg = true → ∃ cs : List Value, z = .agg cs.toArray) ∧ (rv.agg = false → z.cells = #[z])
def aggB : Value → Bool
  | .agg _ => true
  | _ => false
def zvB (P : Program) {ν : Type} (et : TypeId) (rv : Rp ν) (x0 : ν) : Bool := match P.info? et with
  | some i => match i.zero with
    | some z => zokL (rv.lv x0) z.cells.toList && (if rv.agg then aggB z else z.oneCell')
    | none => false
  | none => false
theorem MapT.ofB {P : Program} {κ ν : Type} [DecidableEq κ] {t kt et : TypeId} {rk : Rp κ} {rv : Rp ν} {x0 : ν} (hu : P.underlying t = some (.map kt et)) (hk : KeyT P kt rk) (h : zvB P et rv x0 = true) : MapT P t kt et rk rv x0 := by
  refine ⟨hu, hk, ?_⟩
  unfold zvB at h
  split at h
  · rename_i i hi
    split at h
    · rename_i z hz
      simp only [Bool.and_eq_true] at h
      refine ⟨i, z, hi, hz, h.1, fun e => ?_, fun e => ?_⟩
      · have h2 := h.2
        rw [e, if_pos rfl] at h2
        cases z <;> first | cases h2; done | skip
        rename_i cs
        exact ⟨cs.toList, by simp⟩
      · have h2 := h.2
        rw [e] at h2
        exact cells_one h2
    · cases h
  · cases h
section
variable {P : Program} {o : Oper} {κ ν : Type} [DecidableEq κ] {rk : Rp κ} {rv : Rp ν} {C D : List Nat} {m : List (κ × ν)} {t kt et : TypeId} {x0 : ν}
theorem findE_spec {F : Fp} {w : World} {es : List MapEntry} (k : κ) (h : EsRel F w rk rv m es) : ∀ i, (mget m k = none ∧ findE k m es i = none) ∨
    ∃ x j e, mget m k = some x ∧ findE k m es i = some (i + j, e.val) ∧ es[j]? = some e ∧ VRel F w rk k e.key ∧ VRel F w rv x e.val ∧
      ∀ kv xv y, VRel F w rk k kv → VRel F w rv y xv → EsRel F w rk rv (mput m k y) (es.modify j fun e => { e with key := kv, val := xv }) := by
  induction h with
  | nil => intro i; exact .inl ⟨rfl, rfl⟩
  | @cons p m e es h1 h2 h3 ih =>
    intro i
    by_cases hk : k = p.1
    · refine .inr ⟨p.2, 0, e, by rw [mget, if_pos hk], by rw [findE, if_pos hk]; rfl, rfl, by rw [hk]; exact h1, h2, fun kv xv y g1 g2 => ?_⟩
      rw [mput, if_pos hk]
      simp only [List.modify_zero_cons]
      exact .cons g1 g2 h3
    · rcases ih (i + 1) with ⟨g1, g2⟩ | ⟨x, j, e', g1, g2, g3, g4, g5, g6⟩
      · exact .inl ⟨by rw [mget, if_neg hk, g1], by rw [findE, if_neg hk, g2]⟩
      · refine .inr ⟨x, j + 1, e', by rw [mget, if_neg hk, g1], by rw [findE, if_neg hk, g2]; congr 2; omega, by simpa using g3, g4, g5, fun kv xv y q1 q2 => ?_⟩
        rw [mput, if_neg hk]
        simp only [List.modify_succ_cons]
        exact .cons h1 h2 (g6 kv xv y q1 q2)
theorem EsRel.snoc {F : Fp} {w : World} {es : List MapEntry} (h : EsRel F w rk rv m es) {k : κ} {x : ν} {e : MapEntry} (hn : mget m k = none) (h1 : VRel F w rk k e.key) (h2 : VRel F w rv x e.val) : EsRel F w rk rv (mput m k x) (es ++ [e]) := by
  induction h with
  | nil => exact .cons h1 h2 .nil
  | @cons p m e' es g1 g2 g3 ih =>
    rw [mget] at hn
    split at hn
    · cases hn
    · rename_i hk
      rw [mput, if_neg hk]
      exact .cons g1 g2 (ih hn)
theorem run_lookup {F F' : Fp} {w : World} {b : Nat} {es : Array MapEntry} {cl : Nat} {k : κ} {kv : Value} (hT : MapT P t kt et rk rv x0) (hh : w.heap[b]? = some (.map es cl)) (hE : EsRel F w rk rv m es.toList) (hk : VRel F' w rk k kv) (ok : Bool) :
    ∃ v, (Instr.lookup t (.map (some b)) kv ok).run P w = .ok (if ok then .tuple #[v, .bool (mget m k).isSome] else v) w ∧ VRel F w rv ((mget m k).getD x0) v := by
  obtain ⟨i, z, hi, hz, hzo, hza, hzb⟩ := hT.zero
  have hf := hT.key.find w F' F k kv ν rv m es.toList hk hE
  have hc := hT.key.check w es.isEmpty F' k kv hk
  have hzero : (zeroValue et).run P w = .ok z w := by simp [zeroValue, typeInfo, hi, hz]
  rcases findE_spec k hE 0 with ⟨g1, g2⟩ | ⟨x, j, e, g1, g2, g3, g4, g5, _⟩
  · refine ⟨z, ?_, ?_⟩
    · unfold Instr.lookup
      simp only [Sem.run_bind, run_underlying hT.u, Result.andThen_ok, run_getMap hh, Sem.run_pure, hc, hf, g2, g1, hzero, Option.isSome_none]
    · rw [g1]; exact ⟨zokL_rel hzo F w, hza, hzb⟩
  · refine ⟨e.val, ?_, ?_⟩
    · unfold Instr.lookup
      simp only [Sem.run_bind, run_underlying hT.u, Result.andThen_ok, run_getMap hh, Sem.run_pure, hc, hf, g2, g1, Option.isSome_some]
    · rw [g1]; exact g5
theorem lo_mget {x z : Operand} {a b : AV} {k : κ} (ea : AV) (ho : o.op = .lookup t x z false) (hT : MapT P t kt et rk rv x0) (hm : isMp rk rv m D a) (hk : asV rk k C b) (he : elAV rv D ((mget m k).getD x0) ea) :
    LocalOk P o [(x, a), (z, b)] [] [] [] ea [] := by
  refine localOk_value fun γ ev w hi _ => ?_
  obtain ⟨b', es, cl, hv, hF, hb, hh, hE⟩ := hm γ w _ (hi (x, a) (by simp))
  have h2 := hk γ w _ (hi (z, b) (by simp))
  simp only at hv h2
  obtain ⟨v, hr, hV⟩ := run_lookup hT hh hE h2 false
  exact ⟨v, w, γ, by simp [execOp, ho, hv, hr], Tr.refl _ _ _ _, he γ w v hV, fun b hb => by cases hb⟩
theorem lo_mget2 {x z : Operand} {a b : AV} {k : κ} (ea : AV) (ho : o.op = .lookup t x z true) (hT : MapT P t kt et rk rv x0) (hm : isMp rk rv m D a) (hk : asV rk k C b) (he : elAV rv D ((mget m k).getD x0) ea) :
    LocalOk P o [(x, a), (z, b)] [] [] [] (.tup [ea, .lf (.bool (mget m k).isSome)]) [] := by
  refine localOk_value fun γ ev w hi _ => ?_
  obtain ⟨b', es, cl, hv, hF, hb, hh, hE⟩ := hm γ w _ (hi (x, a) (by simp))
  have h2 := hk γ w _ (hi (z, b) (by simp))
  simp only at hv h2
  obtain ⟨v, hr, hV⟩ := run_lookup hT hh hE h2 true
  exact ⟨_, w, γ, by simp [execOp, ho, hv, hr], Tr.refl _ _ _ _, ⟨[v, .bool (mget m k).isSome], rfl, v, _, rfl, he γ w v hV, _, _, rfl, mk_bool _ _ _, rfl⟩, fun b hb => by cases hb⟩
theorem run_mput {F F' F2 : Fp} {w : World} {b : Nat} {es : Array MapEntry} {cl : Nat} {k : κ} {x : ν} {kv xv : Value} (hT : MapT P t kt et rk rv x0) (hh : w.heap[b]? = some (.map es cl)) (hE : EsRel F w rk rv m es.toList) (hk : VRel F' w rk k kv) (hF' : ∀ b, F' b → F b) (hx : VRel F2 w rv x xv) (hF2 : ∀ b, F2 b → F b) :
    ∃ es' cl', (Instr.mapUpdate t (.map (some b)) kv xv).run P w = .ok () { w with heap := w.heap.setIfInBounds b (.map es' cl') } ∧ EsRel F w rk rv (mput m k x) es'.toList := by
  have hk1 := hk.mono (G := F) fun b _ h => hF' b h
  have hx1 := hx.mono (G := F) fun b _ h => hF2 b h
  have hf := hT.key.find w F' F k kv ν rv m es.toList hk hE
  have hc := hT.key.check w false F' k kv hk
  rcases findE_spec k hE 0 with ⟨g1, g2⟩ | ⟨y, j, e, g1, g2, g3, g4, g5, g6⟩
  · refine ⟨es.push { key := kv, val := xv, born := cl }, cl + 1, ?_, ?_⟩
    · unfold Instr.mapUpdate
      simp only [Sem.run_bind, run_underlying hT.u, Result.andThen_ok, run_getMap hh, hc, hf, g2]
      exact run_setMap _ hh
    · rw [Array.toList_push]; exact hE.snoc g1 hk1 hx1
  · refine ⟨es.modify j fun e => { e with key := kv, val := xv }, cl, ?_, ?_⟩
    · have hst := hT.key.stays w F F' k e.key kv g4 hk
      have hge : ((es[j]?).map (·.key)).getD kv = e.key := by
        have : es[j]? = some e := by rw [← g3]; simp
        rw [this]; rfl
      unfold Instr.mapUpdate
      simp only [Sem.run_bind, run_underlying hT.u, Result.andThen_ok, run_getMap hh, hc, hf, g2, Nat.zero_add, hge, Instr.keyThatStays, hst, if_true, Sem.run_pure]
      exact run_setMap _ hh
    · rw [Array.toList_modify]; exact g6 kv xv x hk1 hx1
theorem tr_map {γ : Gh} {w : World} {ℓ b : Nat} (hcol : γ.col b = ℓ) (ob : Obj) : Tr [ℓ] [] γ w γ { w with heap := w.heap.setIfInBounds b ob } :=
  ⟨rfl, rfl, rfl, by simp, fun c hb hn => by
    have : b ≠ c := fun e => hn (by rw [← e, hcol]; exact List.mem_cons_self)
    simp [this], fun _ _ => rfl, fun _ _ => rfl⟩
/-- An entry of a map of its own is put. -/
theorem ro_mset {N : Nat} {ops : Array Oper} {rest : List Oper} {E E' : Env} {ℓ : Nat} {y z u : Operand} {ak av : AV} {C C1 : List Nat}
    (ks : List Nat) (k : κ) (x : ν) (C2 : List Nat) (hT : MapT P t kt et rk rv x0) (hg : guardOf ops E o = some true) (ho : o.op = .mapUpdate t y z u ∨ o.op = .insert t y z u) (hd : o.dst = none) (hy : E.opd y = some (.om rk rv ℓ C m)) (hz : E.opd z = some ak) (hu : E.opd u = some av)
    (hka : asV rk k C1 ak) (hva : asV rv x D av) (hk : E.pick ks [] = some ⟨ks.map fun k => (k, .om rk rv ℓ C m), []⟩) (hC : (subN C C2 && subN C1 C2 && subN D C2 && !memN ℓ C2 && Nat.ble 2 ℓ) = true)
    (k2 : RegOk P N ops rest ⟨(ks.map fun j => (j, .om rk rv ℓ C2 (mput m k x))) ++ (E.step [ℓ] [] none .any []).sl, (E.step [ℓ] [] none .any []).bx⟩ E') : RegOk P N ops (o :: rest) E E' := by
  intro cx a' w Q hn hs hQ
  simp only [Bool.and_eq_true] at hC
  obtain ⟨⟨⟨⟨hC1, hC2⟩, hC3⟩, hC4⟩, hC5⟩ := hC
  obtain ⟨γ, hB, hS, hX⟩ := hs
  have hsl : ∀ kk ∈ ks, AV.rel γ w (.om rk rv ℓ C m) (a'.tmps.getD kk undef) := by
    have hS1 : Sl γ w a' (ks.map fun k => (k, AV.om rk rv ℓ C m)) := by
      have hk' := hk
      unfold Env.pick at hk'
      split at hk'
      · rename_i s b h1 h2
        simp only [Option.some.injEq, Env.mk.injEq] at hk'
        rw [← hk'.1]
        exact fun p hp => hS p (pickSl_mem _ _ h1 p hp)
      · cases hk'
    intro kk hkk
    exact hS1 (kk, .om rk rv ℓ C m) (List.mem_map.2 ⟨kk, hkk, rfl⟩)
  obtain ⟨b, es, cl, hv, ⟨g1, g2⟩, hb, hh, hE, hnC⟩ := Env.opd_rel hy hS
  have hkr := hka γ w _ (Env.opd_rel hz hS)
  have hxr := hva γ w _ (Env.opd_rel hu hS)
  have hE2 : EsRel (γ.F C2) w rk rv m es.toList := hE.mono fun b _ h => subN_spec hC1 _ h
  obtain ⟨es', cl', hrun, hE'⟩ := run_mput hT hh hE2 hkr (fun b h => subN_spec hC2 _ h) hxr (fun b h => subN_spec hC3 _ h)
  have hrun' : (execOp a'.eval o).run P w = .ok .skip { w with heap := w.heap.setIfInBounds b (.map es' cl') } := by
    rcases ho with ho | ho <;> simp [execOp, ho, hv, hrun]
  have ht := tr_map (w := w) g1 (.map es' cl')
  have hnot : ∀ c ∈ C2, c ∉ [ℓ] := fun c hc h => by
    simp only [List.mem_cons, List.not_mem_nil, or_false] at h
    subst h
    exact not_memN hC4 hc
  unfold wpList
  rw [if_pos (guardOf_spec hg hS)]
  refine .inl ?_
  unfold Oper.wp
  rw [hrun', Oper.upon_skip, hd]
  refine k2 cx _ _ Q hn ⟨γ, (hB.tr ht (W := [ℓ]) (by simp [okW, hC5])).put _ _, ?_, hX.tr ht⟩ hQ
  intro p hp
  rcases List.mem_append.1 hp with hp | hp
  · obtain ⟨kk, hkk, rfl⟩ := List.mem_map.1 hp
    obtain ⟨b', es2, cl2, hv2, ⟨q1, q2⟩, _⟩ := hsl kk hkk
    have hbb : b' = b := by rw [← q2, g2]
    subst hbb
    exact ⟨b', es', cl', hv2, ⟨q1, q2⟩, by simpa using hb, by simp [hb], ht.es hnot hE', fun hc => not_memN hC4 hc⟩
  · exact ((hS.tr ht) : Sl _ _ _ _) p hp
end
end Go.Proofs.Ytnhnanbgphdaeaa
