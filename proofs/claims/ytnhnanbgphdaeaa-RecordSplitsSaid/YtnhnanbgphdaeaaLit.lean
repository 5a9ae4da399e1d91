/-
  Literals of structs and slices, boxes, conversions between bytes and texts, and what reckons under a condition. No condition.
-/
import Derived.Test.YtnhnanbgphdaeaaNew
import Derived.Laws.IdiomStrings
import Derived.Laws.StructEq
namespace Go.Proofs.Ytnhnanbgphdaeaa
open Go Go.RowKit

/-! ### literals -/

def setRange {β : Type} (cs : List β) (off : Nat) (vs : List β) : List β := cs.take off ++ vs ++ cs.drop (off + vs.length)
theorem fold_set (off : Nat) : ∀ (vs : List Value) (k : Nat) (cs : Array Value), off + k + vs.length ≤ cs.size →
    ((vs.zipIdx k).foldl (fun (cs : Array Value) (p : Value × Nat) => cs.setIfInBounds (off + p.2) p.1) cs).toList = cs.toList.take (off + k) ++ vs ++ cs.toList.drop (off + k + vs.length)
  | [], k, cs, _ => by simp
  | v :: vs, k, cs, h => by
    simp only [List.length_cons] at h
    rw [List.zipIdx_cons, List.foldl_cons, fold_set off vs (k + 1) _ (by simp; omega)]
    have := list_seg_step cs.toList (off + k) v vs (by simp; omega)
    simp only [Array.toList_setIfInBounds, List.length_cons]
    rw [← this, Nat.add_assoc off k 1]
def partLV : AV → Option (List LV)
  | .rc r _ x => some (r.lv x)
  | a => match a.toLV with
    | some l => some [l]
    | none => none
theorem partLV_rel {a : AV} {ls : List LV} (h : partLV a = some ls) {γ : Gh} {w : World} {v : Value} (hr : a.rel γ w v) {C : List Nat} (hC : subN a.cols C = true) : AllRel (γ.F C) w ls v.cells.toList := by
  have leaf : ∀ l, a.toLV = some l → AllRel (γ.F C) w [l] v.cells.toList := fun l hl => by
    have h1 := toLV_rel hl hr (subN_spec hC)
    have : v.cells = #[v] := by
      have h1c := h1.one
      cases v <;> first | rfl | cases h1c
    rw [this]
    exact .cons h1 .nil
  cases a with
  | rc r C' x =>
    cases h
    obtain ⟨cs, rfl, hA⟩ := hr
    exact hA.mono fun b _ hb => subN_spec hC _ hb
  | any => cases h
  | lf l => cases h; exact leaf _ rfl
  | sl => cases h; exact leaf _ rfl
  | own => cases h; exact leaf _ rfl
  | ep => cases h
  | ptr => cases h
  | mp => cases h
  | om => cases h
  | tup => cases h
def fillL (place : Nat → Option (Nat × Nat)) (cs : List LV) : List (Nat × List LV) → Option (List LV)
  | [] => some cs
  | (i, vs) :: rest => match place i with
    | none => none
    | some (off, size) => match Nat.beq vs.length size && Nat.ble (off + vs.length) cs.length with
      | true => fillL place (setRange cs off vs) rest
      | false => none
theorem fillL_rel {F : Fp} {w : World} {place : Nat → Option (Nat × Nat)} : ∀ (ps : List (Nat × List LV)) (vs : List (Nat × Value)) (cs : List LV) (cells : Array Value) (out : List LV), fillL place cs ps = some out →
    AllRel F w cs cells.toList → ps.length = vs.length → (∀ (k : Nat) (p : Nat × List LV) (v : Nat × Value), ps[k]? = some p → vs[k]? = some v → p.1 = v.1 ∧ AllRel F w p.2 v.2.cells.toList) →
    ∃ cells', Instr.fill place cells vs = some cells' ∧ AllRel F w out cells'.toList
  | [], vs, cs, cells, out, h, hA, hl, _ => by
    cases h
    cases vs with
    | nil => exact ⟨cells, rfl, hA⟩
    | cons => simp at hl
  | (i, ls) :: ps, vs, cs, cells, out, h, hA, hl, hp => by
    cases vs with
    | nil => simp at hl
    | cons v vs =>
      obtain ⟨j, v⟩ := v
      obtain ⟨hij, hv⟩ := hp 0 (i, ls) (j, v) rfl rfl
      simp only at hij hv
      subst hij
      rw [fillL] at h
      split at h
      · cases h
      · rename_i off size hpl
        split at h
        · rename_i hb
          simp only [Bool.and_eq_true] at hb
          have e1 := Nat.eq_of_beq_eq_true hb.1
          have e2 := Nat.le_of_ble_eq_true hb.2
          have hsz : v.cells.size = ls.length := by rw [hv.1]; simp
          have hcl : cells.size = cs.length := by rw [hA.1]; simp
          have hset := fold_set off v.cells.toList 0 cells (by simp; omega)
          simp only [Nat.add_zero] at hset
          have hA2 : AllRel F w (setRange cs off ls) (v.cells.toList.zipIdx.foldl (fun (cs : Array Value) (p : Value × Nat) => cs.setIfInBounds (off + p.2) p.1) cells).toList := by
            rw [hset]
            unfold setRange
            rw [hv.1]
            exact ((hA.take off).append hv).append (hA.drop _)
          obtain ⟨cells', hf, hr⟩ := fillL_rel ps vs _ _ out h hA2 (by simpa using hl) (fun k p u h1 h2 => hp (k + 1) p u h1 h2)
          refine ⟨cells', ?_, hr⟩
          rw [Instr.fill, hpl]
          simp only
          rw [if_neg (by simp; omega)]
          rw [← hf]
          congr 1
          rw [← Array.foldl_toList]
          simp
        · cases h

def partsIn : List (Nat × Operand) → List AV → Option (List (Nat × List LV))
  | [], [] => some []
  | (i, _) :: l, a :: as => match partLV a, partsIn l as with
    | some ls, some r => some ((i, ls) :: r)
    | _, _ => none
  | _, _ => none
theorem partsIn_rel {γ : Gh} {w : World} {ev : Operand → Value} {C : List Nat} : ∀ (l : List (Nat × Operand)) (as : List AV) (ps : List (Nat × List LV)), partsIn l as = some ps → (∀ p ∈ (l.map (·.2)).zip as, p.2.rel γ w (ev p.1)) →
    subN (AV.colsL as) C = true → ps.length = (l.map fun p => (p.1, ev p.2)).length ∧ ∀ (k : Nat) (p : Nat × List LV) (v : Nat × Value), ps[k]? = some p → (l.map fun p => (p.1, ev p.2))[k]? = some v → p.1 = v.1 ∧ AllRel (γ.F C) w p.2 v.2.cells.toList
  | [], [], ps, h, _, _ => by cases h; exact ⟨rfl, fun k p v h => by simp at h⟩
  | (i, x) :: l, a :: as, ps, h, hr, hC => by
    rw [partsIn] at h
    split at h
    · rename_i ls r h1 h2
      cases h
      have hC1 : subN a.cols C = true := by
        simp only [subN, List.all_eq_true, AV.colsL] at hC ⊢
        exact fun c hc => hC c (List.mem_append_left _ hc)
      have hC2 : subN (AV.colsL as) C = true := by
        simp only [subN, List.all_eq_true, AV.colsL] at hC ⊢
        exact fun c hc => hC c (List.mem_append_right _ hc)
      obtain ⟨g1, g2⟩ := partsIn_rel l as r h2 (fun p hp => hr p (by simp [hp])) hC2
      refine ⟨by simp [g1], fun k p v hp hv => ?_⟩
      cases k with
      | zero =>
        simp at hp hv
        subst hp hv
        exact ⟨rfl, partLV_rel h1 (hr (x, a) (by simp)) hC1⟩
      | succ k => exact g2 k p v (by simpa using hp) (by simpa using hv)
    · cases h
  | [], _ :: _, ps, h, _, _ => by cases h
  | _ :: _, [], ps, h, _, _ => by cases h
def fillP (place : Nat → Option (Nat × Nat)) (zl : List LV) (parts : List (Nat × Operand)) (as : List AV) : Option (List LV) := match partsIn parts as with
  | some ps => fillL place zl ps
  | none => none
theorem fillP_spec {place : Nat → Option (Nat × Nat)} {zl out : List LV} {parts : List (Nat × Operand)} {as : List AV} (h : fillP place zl parts as = some out) : ∃ ps, partsIn parts as = some ps ∧ fillL place zl ps = some out := by
  unfold fillP at h
  split at h
  · rename_i ps hp; exact ⟨ps, hp, h⟩
  · cases h
/-- A struct's type: where its fields lie, and its zero value. -/
structure StT (P : Program) (t : TypeId) (places : List (Nat × Nat)) (zl : List LV) : Prop where
  ex : ∃ fs z, P.underlying t = some (.struct fs) ∧ (∀ w, (zeroValue t).run P w = .ok z w) ∧ (∀ w, (fs.mapM (m := Sem) fun (f : Field) => do pure (f.offset, ← sizeOf f.type)).run P w = .ok places.toArray w) ∧ zokL zl z.cells.toList = true
theorem lo_build {P : Program} {o : Oper} {α : Type} {r : Rp α} {t : TypeId} {parts : List (Nat × Operand)} {places : List (Nat × Nat)} {zl : List LV} (as : List AV) (C : List Nat) (x : α)
    (ho : o.op = .build t parts.toArray) (hT : StT P t places zl) (hC : subN (AV.colsL as) C = true) (hf : fillP (fun i => places[i]?) zl parts as = some (r.lv x)) :
    LocalOk P o ((parts.map (·.2)).zip as) [] [] [] (.rc r C x) [] := by
  refine localOk_value fun γ ev w hi _ => ?_
  obtain ⟨ps, hp, hf⟩ := fillP_spec hf
  obtain ⟨fs, z, hu, hz, hpl, hzo⟩ := hT.ex
  obtain ⟨g1, g2⟩ := partsIn_rel parts as ps hp hi hC
  obtain ⟨cells', hfill, hA⟩ := fillL_rel ps _ zl z.cells _ hf (zokL_rel hzo _ w) g1 g2
  have hfill' : Instr.fill (fun i => places.toArray[i]?) z.cells (parts.map fun p => (p.1, ev p.2)) = some cells' := by
    rw [← hfill]; congr 1; funext i; simp
  refine ⟨.agg cells', w, γ, ?_, Tr.refl _ _ _ _, ⟨cells'.toList, by simp, hA⟩, fun b hb => by cases hb⟩
  simp only [execOp, ho, Instr.build, Sem.run_bind, hz, run_underlying hu, Result.andThen_ok, hpl, List.map_toArray]
  have e : (List.map (fun (x : Nat × Operand) => (x.1, ev x.2)) parts) = parts.map fun p => (p.1, ev p.2) := rfl
  simp only [hfill', Sem.run_pure, Result.andThen_ok]
theorem relL_rep {α : Type} {r : Rp α} {x0 : α} {z : Value} (hs : z.cells.size = r.size) (hz : zokL (r.lv x0) z.cells.toList = true) (F : Fp) (w : World) (n : Nat) :
    AllRel F w ((List.replicate n x0).flatMap r.lv) (madeCells z.cells (n * r.size)).toList := by
  have := made_rel hs hz F w n n (Nat.le_refl _)
  rwa [List.take_of_length_le (by rw [Array.length_toList, size_madeCells]; exact Nat.le_refl _)] at this
theorem lo_bsl {P : Program} {o : Oper} {α : Type} {r : Rp α} {t e : TypeId} {n : Nat} {parts : List (Nat × Operand)} {bytes : Nat} {x0 : α} (as : List AV) (ℓ : Nat) (C : List Nat) (xs : List α)
    (ho : o.op = .buildSlice t n parts.toArray) (hT : ZeT P t e r bytes x0) (hn : (Nat.beq n xs.length && Nat.ble (n * r.size) 16777216) = true) (hC : subN (AV.colsL as) C = true) (hℓ : memN ℓ C = false)
    (hf : fillP (fun i => some (i * r.size, r.size)) ((List.replicate n x0).flatMap r.lv) parts as = some (xs.flatMap r.lv)) : LocalOk P o ((parts.map (·.2)).zip as) [] [] [ℓ] (.own r e ℓ C xs) [] := by
  refine localOk_value fun γ ev w hi _ => ?_
  obtain ⟨ps, hp, hf⟩ := fillP_spec hf
  obtain ⟨i, z, hi', hz, hs, hby, hzs, hzo⟩ := hT.ex
  simp only [Bool.and_eq_true] at hn
  have e1 := Nat.eq_of_beq_eq_true hn.1
  have e2 := Nat.le_of_ble_eq_true hn.2
  obtain ⟨g1, g2⟩ := partsIn_rel parts as ps hp hi hC
  obtain ⟨cells', hfill, hA⟩ := fillL_rel ps _ _ (madeCells z.cells (n * r.size)) _ hf (relL_rep hzs hzo _ w n) g1 g2
  have hsz : (sizeOf e).run P w = .ok r.size w := hT.el.size w
  have hcs : cells'.size = n * r.size := by rw [← Array.length_toList, ← hA.1, r.flat, e1]
  have hzero : (zeroValue e).run P w = .ok z w := by simp [zeroValue, typeInfo, hi', hz]
  have ht : Tr [] [ℓ] γ w (ghNew γ w.heap.size ℓ w.heap.size) (w.alloc (.cells cells' e)) := ⟨rfl, rfl, rfl, by simp, fun b hb _ => Below.heap_alloc w _ b hb, fun b hb => by simp [ghNew, hb], fun k hk => by
    simp only [List.mem_cons, List.not_mem_nil, or_false] at hk
    simp [ghNew, hk]⟩
  refine ⟨.slice (some ⟨w.heap.size, 0, none⟩) n n, w.alloc (.cells cells' e), _, ?_, ht,
    ⟨cells'.toList, ?_, fun g hg => ?_, ?_, fun hc => by rw [memN_iff.2 hc] at hℓ; cases hℓ⟩, fun b hb => by cases hb⟩
  · have hgt : ¬ (n * r.size > 2 ^ 24) := by omega
    simp only [execOp, ho, Instr.buildSlice, Sem.run_bind, run_underlying hT.u, Result.andThen_ok, hsz, if_neg hgt, Sem.run_pure, List.map_toArray]
    by_cases h0 : n * r.size = 0
    · have : n = 0 := by rcases Nat.mul_eq_zero.1 h0 with h | h; exact h; exact absurd h (by have := r.pos; omega)
      have hm0 : madeCells z.cells (n * r.size) = #[] := by rw [h0]; simp [madeCells]
      rw [hm0] at hfill
      rw [if_pos h0]
      have hr0 : Array.range 0 = #[] := rfl
      simp only [h0, hr0, Array.map_empty, hfill]
      simp [newRow]
    · have hm0 : madeCells z.cells (n * r.size) = (Array.range (n * r.size)).map (fun x => z.cells[x % z.cells.size]!) := rfl
      rw [hm0] at hfill
      simp only [if_neg h0, Sem.run_bind, hzero, Sem.run_pure, Result.andThen_ok, hfill]
      simp [newRow]
  · rw [← e1]
    refine World.ownsRow_lit w cells' n (Nat.zero_le _) ?_ hcs
    have : n * 1 ≤ n * r.size := Nat.mul_le_mul_left _ r.pos
    unfold maxLen; omega
  · cases hg; simp [ghNew]
  · exact ht.all (fun c _ h => by cases h) hA

/-! ### boxes -/

def zokA : AV → Value → Bool
  | .lf l, v => l.plain && zok l v
  | .sl _ _ xs, .slice none 0 0 => xs.isEmpty
  | .own _ _ ℓ C xs, .slice none 0 0 => xs.isEmpty && !memN ℓ C
  | _, _ => false
theorem zokA_rel {a : AV} {v : Value} (h : zokA a v = true) (γ : Gh) (w : World) : a.rel γ w v ∧ v.oneCell' = true := by
  unfold zokA at h
  split at h
  · simp only [Bool.and_eq_true] at h
    have := zok_rel h.2 (fun _ => False) w
    exact ⟨⟨h.1, this⟩, this.one⟩
  · rename_i α r C xs
    have hx : xs = [] := List.isEmpty_iff.1 h
    subst hx
    exact ⟨isSl_nil r C γ w _ ⟨rfl, .val _ rfl⟩, rfl⟩
  · rename_i α r e ℓ C xs
    simp only [Bool.and_eq_true, Bool.not_eq_true'] at h
    have hx : xs = [] := List.isEmpty_iff.1 h.1
    subst hx
    exact ⟨isOwn_nil r e ℓ C h.2 γ w _ ⟨rfl, .val _ rfl⟩, rfl⟩
  · cases h
def zokAs : List AV → List Value → Bool
  | [], [] => true
  | a :: l, v :: vs => zokA a v && zokAs l vs
  | _, _ => false
theorem zokAs_rel {l : List AV} {vs : List Value} (h : zokAs l vs = true) (γ : Gh) (w : World) : AV.relL γ w l vs ∧ ∀ u ∈ vs, u.oneCell' = true := by
  induction l generalizing vs with
  | nil => cases vs <;> first | exact ⟨rfl, fun u hu => by cases hu⟩ | cases h
  | cons a l ih =>
    cases vs with
    | nil => cases h
    | cons v vs =>
      simp only [zokAs, Bool.and_eq_true] at h
      obtain ⟨h1, h2⟩ := zokA_rel h.1 γ w
      obtain ⟨h3, h4⟩ := ih h.2
      refine ⟨⟨v, vs, rfl, h1, h3⟩, fun u hu => ?_⟩
      cases hu with
      | head => exact h2
      | tail _ hu => exact h4 u hu
theorem tr_new (γ : Gh) (w : World) (ℓ : Nat) (o : Obj) : Tr [] [ℓ] γ w (ghNew γ w.heap.size ℓ w.heap.size) (w.alloc o) :=
  ⟨rfl, rfl, rfl, by simp, fun b hb _ => Below.heap_alloc w _ b hb, fun b hb => by simp [ghNew, hb], fun k hk => by
    simp only [List.mem_cons, List.not_mem_nil, or_false] at hk
    simp [ghNew, hk]⟩
theorem ghNew_box (γ : Gh) (n ℓ g : Nat) : (ghNew γ n ℓ g).box ℓ = g := by simp [ghNew]
theorem ghNew_col (γ : Gh) (n ℓ g : Nat) : (ghNew γ n ℓ g).col n = ℓ := by simp [ghNew]
theorem lo_alloc {P : Program} {o : Oper} {t : TypeId} (ℓ : Nat) (as : List AV) {z : Value} (ho : o.op = .alloc t) (hz : ∀ w, (zeroValue t).run P w = .ok z w) (hs : zokAs as z.cells.toList = true) :
    LocalOk P o [] [] [] [ℓ] (.ptr ℓ 0) [⟨ℓ, t, as⟩] := by
  refine localOk_value fun γ ev w hi _ => ?_
  refine ⟨.pointer (some ⟨w.heap.size, 0, none⟩), w.alloc (.cells z.cells t), _, ?_, tr_new γ w ℓ _, ?_, fun b hb => ?_⟩
  · simp [execOp, ho, Instr.alloc, Sem.run_bind, hz, newVar, newRow]
  · show _ = _
    rw [ghNew_box]
  · simp only [List.mem_cons, List.not_mem_nil, or_false] at hb
    subst hb
    have h := zokAs_rel hs (ghNew γ w.heap.size ℓ w.heap.size) (w.alloc (.cells z.cells t))
    refine ⟨by rw [ghNew_box, ghNew_col], z.cells.toList, ?_, h.1, h.2⟩
    rw [ghNew_box, Array.toArray_toList]
    exact heap_alloc_new w _
theorem lo_box {P : Program} {o : Oper} {t : TypeId} {x : Operand} {a : AV} {ls : List LV} (ℓ : Nat) (as : List AV) (C : List Nat) (ho : o.op = .box t x) (hp : partLV a = some ls) (hC : subN a.cols C = true) (ha : toLVs as = some ls) (hl : as.all (leafB C) = true) :
    LocalOk P o [(x, a)] [] [] [ℓ] (.ptr ℓ 0) [⟨ℓ, t, as⟩] := by
  refine localOk_value fun γ ev w hi _ => ?_
  have hA := partLV_rel hp (hi (x, a) (by simp)) hC
  refine ⟨.pointer (some ⟨w.heap.size, 0, none⟩), w.alloc (.cells (ev x).cells t), _, ?_, tr_new γ w ℓ _, ?_, fun b hb => ?_⟩
  · simp [execOp, ho, Instr.box, newVar, newRow]
  · show _ = _
    rw [ghNew_box]
  · simp only [List.mem_cons, List.not_mem_nil, or_false] at hb
    subst hb
    have hA' := (tr_new γ w ℓ (.cells (ev x).cells t)).all (fun c _ h => by cases h) hA
    refine ⟨by rw [ghNew_box, ghNew_col], (ev x).cells.toList, ?_, relL_of_toLVs ha hA' hl, hA.one⟩
    rw [ghNew_box, Array.toArray_toList]
    exact heap_alloc_new w _

/-- A struct out of a box. -/
theorem lo_ldb {P : Program} {o : Oper} {α : Type} {r : Rp α} {t : TypeId} {y : Operand} {b : Bx} {off : Nat} (x : α) (C : List Nat) (ho : o.op = .load t y) (hT : AggT P t r.size) (hs : toLVs ((b.avs.drop off).take r.size) = some (r.lv x))
    (hC : subN (AV.colsL ((b.avs.drop off).take r.size)) C = true) : LocalOk P o [(y, .ptr b.lab off)] [b] [] [] (.rc r C x) [] := by
  refine localOk_value fun γ ev w hi hb => ?_
  have h1 : ev y = _ := hi (y, .ptr b.lab off) (by simp)
  obtain ⟨hcol, cs, hh, hL, hone⟩ := hb b (by simp)
  have sub : ∀ (l : List AV) (vs : List Value) (k : Nat), AV.relL γ w l vs → AV.relL γ w (l.drop k) (vs.drop k) := by
    intro l
    induction l with
    | nil => intro vs k h; cases h; cases k <;> rfl
    | cons a l ih =>
      intro vs k h
      cases k with
      | zero => exact h
      | succ k => obtain ⟨v, vs', rfl, h1, h2⟩ := h; exact ih vs' k h2
  have tak : ∀ (l : List AV) (vs : List Value) (k : Nat), AV.relL γ w l vs → AV.relL γ w (l.take k) (vs.take k) := by
    intro l
    induction l with
    | nil => intro vs k h; cases h; cases k <;> rfl
    | cons a l ih =>
      intro vs k h
      obtain ⟨v, vs', rfl, h1, h2⟩ := h
      cases k with
      | zero => rfl
      | succ k => exact ⟨v, _, rfl, h1, ih vs' k h2⟩
  have hL' := tak _ _ r.size (sub _ _ off hL)
  have hA := toLVs_rel hs hL' (subN_spec hC)
  have hlen : ((cs.drop off).take r.size).length = r.size := by rw [← hA.1]; exact r.len x
  have hl := run_loadVar_agg hT (w := w) (b := γ.box b.lab) (o := off) (cs := (cs.drop off).take r.size) hlen fun i hi => by
    rw [hlen] at hi
    rw [cell_of_row w _ _ _ _ _ hh, List.getElem?_take, if_pos hi, List.getElem?_drop]
    simp
  exact ⟨_, w, γ, by simp [execOp, ho, h1, Instr.loadAt, Instr.sureAddr, hl], Tr.refl _ _ _ _, ⟨_, rfl, hA⟩, fun b hb => by cases hb⟩

theorem relL_set {γ : Gh} {w : World} {l : List AV} {vs : List Value} (h : AV.relL γ w l vs) (k : Nat) {a : AV} {v : Value} (ha : a.rel γ w v) : AV.relL γ w (l.set k a) (vs.set k v) := by
  induction l generalizing vs k with
  | nil => cases h; exact rfl
  | cons b l ih =>
    obtain ⟨u, vs', rfl, h1, h2⟩ := h
    cases k with
    | zero => exact ⟨v, vs', rfl, ha, h2⟩
    | succ k => exact ⟨u, _, rfl, h1, ih h2 k⟩
theorem tr_set {γ : Gh} {w : World} {ℓ : Nat} (hcol : γ.col (γ.box ℓ) = ℓ) (cs : Array Value) : Tr [ℓ] [] γ w γ (w.setRow (γ.box ℓ) cs) :=
  ⟨rfl, rfl, rfl, by simp, fun b hb hn => setRow_other w _ b cs (fun e => hn (by rw [e, hcol]; exact List.mem_cons_self)), fun _ _ => rfl, fun _ _ => rfl⟩
def leafOne : AV → Bool
  | .lf _ | .sl .. | .own .. | .ptr .. | .ep .. => true
  | _ => false
theorem leafOne_spec {a : AV} (h : leafOne a = true) {γ : Gh} {w : World} {v : Value} (hr : a.rel γ w v) : v.oneCell' = true ∧ v.cells = #[v] := by
  have key : v.oneCell' = true := by
    cases a with
    | lf l => exact hr.2.one
    | sl r C xs => exact LVrel.one hr
    | own r e ℓ C xs => exact (own_LV hr).one
    | ptr ℓ off => have : v = _ := hr; rw [this]; rfl
    | ep r C x off => obtain ⟨b, o, cs, hv, _⟩ := hr; rw [hv]; rfl
    | any => cases h
    | rc => cases h
    | mp => cases h
    | om => cases h
    | tup => cases h
  refine ⟨key, ?_⟩
  cases v <;> first | rfl | cases key
/-- A cell of a box is written. -/
theorem lo_st1 {P : Program} {o : Oper} {t : TypeId} {y z : Operand} {b : Bx} {off : Nat} {a : AV} (ho : o.op = .store t y z) (hsz : ∀ w, (sizeOf t).run P w = .ok 1 w) (hoff : Nat.blt off b.avs.length = true) (ha : leafOne a = true)
    (hf : a.free [b.lab] [] = true) : LocalOk P o [(y, .ptr b.lab off), (z, a)] [b] [b.lab] [] .any [⟨b.lab, b.typ, (b.avs.map (AV.clear [b.lab] [])).set off a⟩] := by
  intro γ av w hi hb next Q hk
  have h1 : av.eval y = _ := hi (y, .ptr b.lab off) (by simp)
  have h2 := hi (z, a) (by simp)
  simp only at h2
  obtain ⟨hone', hcells⟩ := leafOne_spec ha h2
  obtain ⟨hcol, cs, hh, hL, hone⟩ := hb b (by simp)
  have hoff' : off < cs.length := by rw [relL_length hL]; exact Nat.lt_of_succ_le (Nat.le_of_ble_eq_true hoff)
  have hst := run_storeCells_at P (γ.box b.lab) off b.typ [av.eval z] 0 cs.toArray w hh (by simp; omega) (by simpa using hone')
  simp only [Nat.add_zero, List.length_singleton] at hst
  have hrun : (execOp av.eval o).run P w = .ok .skip (w.setRow (γ.box b.lab) (cs.set off (av.eval z)).toArray) := by
    have e : cs.take off ++ [av.eval z] ++ cs.drop (off + 1) = cs.set off (av.eval z) := by
      rw [List.set_eq_take_append_cons_drop, if_pos hoff', List.append_assoc]; rfl
    rw [e] at hst
    simp [execOp, ho, h1, Instr.storeAt, Instr.sureAddr, storeVar, hsz, hcells, hst]
  unfold Oper.wp
  rw [hrun, Oper.upon_skip]
  have ht := tr_set (w := w) hcol (cs.set off (av.eval z)).toArray
  obtain ⟨f1, f2⟩ := AV.free_spec hf
  refine hk γ _ undef ht trivial fun b' hb' => ?_
  simp only [List.mem_cons, List.not_mem_nil, or_false] at hb'
  subst hb'
  refine ⟨hcol, cs.set off (av.eval z), setRow_heap w _ _ _ _ _ hh, relL_set (relL_clear hL ht) off (a.keep ht f1 f2 h2), fun u hu => ?_⟩
  rcases List.mem_or_eq_of_mem_set hu with h | h
  · exact hone u h
  · rw [h]; exact hone'
theorem relL_append {γ : Gh} {w : World} {l m : List AV} {vs us : List Value} (h : AV.relL γ w l vs) (k : AV.relL γ w m us) : AV.relL γ w (l ++ m) (vs ++ us) := by
  induction l generalizing vs with
  | nil => cases h; exact k
  | cons a l ih => obtain ⟨v, vs', rfl, h1, h2⟩ := h; exact ⟨v, _, rfl, h1, ih h2⟩
theorem relL_drop {γ : Gh} {w : World} : ∀ (l : List AV) (vs : List Value) (k : Nat), AV.relL γ w l vs → AV.relL γ w (l.drop k) (vs.drop k)
  | [], vs, k, h => by cases h; cases k <;> rfl
  | a :: l, vs, 0, h => h
  | a :: l, vs, k + 1, h => by obtain ⟨v, vs', rfl, h1, h2⟩ := h; exact relL_drop l vs' k h2
theorem relL_take {γ : Gh} {w : World} : ∀ (l : List AV) (vs : List Value) (k : Nat), AV.relL γ w l vs → AV.relL γ w (l.take k) (vs.take k)
  | [], vs, k, h => by cases h; cases k <;> rfl
  | a :: l, vs, 0, h => rfl
  | a :: l, vs, k + 1, h => by obtain ⟨v, vs', rfl, h1, h2⟩ := h; exact ⟨v, _, rfl, h1, relL_take l vs' k h2⟩
/-- A struct is written into a box. -/
theorem lo_str {P : Program} {o : Oper} {α : Type} {r : Rp α} {t : TypeId} {y z : Operand} {b : Bx} {off : Nat} {x : α} {C : List Nat} (as : List AV) (ho : o.op = .store t y z) (hsz : ∀ w, (sizeOf t).run P w = .ok r.size w)
    (hoff : Nat.ble (off + r.size) b.avs.length = true) (hC : memN b.lab C = false) (ha : toLVs as = some (r.lv x)) (hl : as.all (leafB C) = true) :
    LocalOk P o [(y, .ptr b.lab off), (z, .rc r C x)] [b] [b.lab] [] .any [⟨b.lab, b.typ, (b.avs.map (AV.clear [b.lab] [])).take off ++ as ++ (b.avs.map (AV.clear [b.lab] [])).drop (off + r.size)⟩] := by
  intro γ av w hi hb next Q hk
  have h1 : av.eval y = _ := hi (y, .ptr b.lab off) (by simp)
  obtain ⟨us, hv, hA⟩ := hi (z, .rc r C x) (by simp)
  simp only at hv
  obtain ⟨hcol, cs, hh, hL, hone⟩ := hb b (by simp)
  have hus : us.length = r.size := by rw [← hA.1]; exact r.len x
  have hoff' : off + r.size ≤ cs.length := by rw [relL_length hL]; exact Nat.le_of_ble_eq_true hoff
  have hst := run_storeCells_at P (γ.box b.lab) off b.typ us 0 cs.toArray w hh (by simp; omega) hA.one
  simp only [Nat.add_zero, hus] at hst
  have hrun : (execOp av.eval o).run P w = .ok .skip (w.setRow (γ.box b.lab) (cs.take off ++ us ++ cs.drop (off + r.size)).toArray) := by
    simp [execOp, ho, h1, hv, Instr.storeAt, Instr.sureAddr, storeVar, hsz, Value.cells, hus, hst]
  unfold Oper.wp
  rw [hrun, Oper.upon_skip]
  have ht := tr_set (w := w) hcol (cs.take off ++ us ++ cs.drop (off + r.size)).toArray
  have hA' := ht.all (C := C) (fun c hc h => by
    simp only [List.mem_cons, List.not_mem_nil, or_false] at h
    subst h
    rw [memN_iff.2 hc] at hC; cases hC) hA
  have hL' := relL_clear hL ht
  refine hk γ _ undef ht trivial fun b' hb' => ?_
  simp only [List.mem_cons, List.not_mem_nil, or_false] at hb'
  subst hb'
  refine ⟨hcol, cs.take off ++ us ++ cs.drop (off + r.size), setRow_heap w _ _ _ _ _ hh, relL_append (relL_append (relL_take _ _ _ hL') (relL_of_toLVs ha hA' hl)) (relL_drop _ _ _ hL'), fun u hu => ?_⟩
  simp only [List.mem_append] at hu
  rcases hu with (h | h) | h
  · exact hone u (List.mem_of_mem_take h)
  · exact hA.one u h
  · exact hone u (List.mem_of_mem_drop h)
end Go.Proofs.Ytnhnanbgphdaeaa
