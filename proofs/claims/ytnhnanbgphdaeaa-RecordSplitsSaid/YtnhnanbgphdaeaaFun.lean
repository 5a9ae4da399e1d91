/-
  Whole functions and calls of them, told by what goes in and what comes out. No condition.
-/
import Derived.Test.YtnhnanbgphdaeaaReg
namespace Go.Proofs.Ytnhnanbgphdaeaa
open Go Go.RowKit

open Classical in
noncomputable def gh0 (F : Fp) : Gh := ⟨fun b => if F b then 0 else 1, fun _ => 0⟩
def retVal : List Value → Value
  | [u] => u
  | us => .tuple us.toArray
/-- What a function does: it is handed what reads as 'ins', and hands back what reads as 'outs'; of what was there nothing has turned. Color 0: what was handed in; from 2 on: new memory. -/
def FnOk (P : Program) (f : FuncId) (ins outs : List AV) : Prop :=
  ∀ (w : World) (F : Fp) (vs : List Value), AV.relL (gh0 F) w ins vs → Calls P f vs.toArray w fun e w' => ∃ γ us, e = .returned (retVal us) ∧ Below w.heap.size w w' ∧
    (∀ b, b < w.heap.size → (γ.col b = 0 ∧ F b) ∨ γ.col b = 1) ∧ AV.relL γ w' outs us

/-! ### leaves -/

def AV.toLV : AV → Option LV
  | .lf l => some l
  | .sl r _ xs => some (.sl xs.length r.size (xs.flatMap r.lv))
  | .own r _ _ _ xs => some (.sl xs.length r.size (xs.flatMap r.lv))
  | _ => none
def subN (a b : List Nat) : Bool := a.all fun c => memN c b
theorem subN_spec {a b : List Nat} (h : subN a b = true) : ∀ c ∈ a, c ∈ b := by
  intro c hc
  simp only [subN, List.all_eq_true] at h
  exact memN_iff.1 (h c hc)
theorem own_LV {γ : Gh} {w : World} {α : Type} {r : Rp α} {e : TypeId} {ℓ : Nat} {C : List Nat} {xs : List α} {v : Value} (h : AV.rel γ w (.own r e ℓ C xs) v) : LVrel (γ.F (ℓ :: C)) w (.sl xs.length r.size (xs.flatMap r.lv)) v := by
  obtain ⟨cs, ho, hg, hA, hn⟩ := h
  have hA' : AllRel (γ.F (ℓ :: C)) w (xs.flatMap r.lv) cs := hA.mono fun b _ hb => List.mem_cons_of_mem _ hb
  have hl := r.flat xs
  obtain ⟨A, c, hv, hc, hm⟩ := own_form' (γ := γ) (w := w) (r := r) (e := e) (ℓ := ℓ) (C := C) ⟨cs, ho, hg, hA, hn⟩
  rw [hv]
  refine .sl _ _ _ A c cs hl (by rw [← hA.1]; exact hl) hc hm (fun h0 => ?_) hA'.2
  have hcells := fun g hg => ho.cells (g := g) hg
  have hlt := ho.lt
  rcases ho.2 with ⟨rfl, h00⟩ | ⟨g, cap, cur, hv', _⟩
  · omega
  · rw [hv'] at hv
    injection hv with e1 e2 e3
    subst e1
    have hob : v.ownBlock = some g := by rw [hv']; rfl
    refine ⟨g, 0, rfl, ?_, (hlt g hob).2, fun i hi => ?_⟩
    · show γ.col g ∈ ℓ :: C
      rw [(hg g hob).1]; exact List.mem_cons_self
    · have hlen : i < cs.length := by rw [← hA.1, hl]; exact hi
      rw [List.getElem?_eq_getElem hlen]
      have := hcells g hob i _ (List.getElem?_eq_getElem hlen)
      rw [addr_add] at this
      exact this
theorem toLV_rel {a : AV} {l : LV} (h : a.toLV = some l) {γ : Gh} {w : World} {v : Value} (hr : a.rel γ w v) {C : List Nat} (hC : ∀ c ∈ a.cols, c ∈ C) : LVrel (γ.F C) w l v := by
  cases a with
  | lf l' => cases h; exact hr.2.plain hr.1
  | sl r C' xs => cases h; exact LVrel.mono hr fun b _ hb => hC _ hb
  | own r e ℓ C' xs => cases h; exact (own_LV hr).mono fun b _ hb => hC _ hb
  | any => cases h
  | rc => cases h
  | ep => cases h
  | ptr => cases h
  | mp => cases h
  | om => cases h
  | tup => cases h
def toLVs : List AV → Option (List LV)
  | [] => some []
  | a :: l => match a.toLV, toLVs l with
    | some x, some r => some (x :: r)
    | _, _ => none
theorem toLVs_rel {l : List AV} {ls : List LV} (h : toLVs l = some ls) {γ : Gh} {w : World} {vs : List Value} (hr : AV.relL γ w l vs) {C : List Nat} (hC : ∀ c ∈ AV.colsL l, c ∈ C) : AllRel (γ.F C) w ls vs := by
  induction l generalizing ls vs with
  | nil => cases h; cases hr; exact .nil
  | cons a l ih =>
    obtain ⟨v, vs', rfl, h1, h2⟩ := hr
    rw [toLVs] at h
    split at h
    · rename_i x r hx hr'
      cases h
      exact .cons (toLV_rel hx h1 fun c hc => hC c (List.mem_append_left _ hc)) (ih hr' h2 fun c hc => hC c (List.mem_append_right _ hc))
    · cases h
def leafB (C : List Nat) : AV → Bool
  | .lf x => x.plain
  | .sl _ C' _ => subN C C'
  | _ => false
/-- The other way: cells that read as a record's leaves, told leaf by leaf. -/
theorem relL_of_toLVs {l : List AV} {ls : List LV} (h : toLVs l = some ls) {γ : Gh} {w : World} {vs : List Value} {C : List Nat} (hr : AllRel (γ.F C) w ls vs) (hC : l.all (leafB C) = true) : AV.relL γ w l vs := by
  induction l generalizing ls vs with
  | nil =>
    cases h
    have := hr.1
    simp at this
    exact List.eq_nil_of_length_eq_zero this.symm
  | cons a l ih =>
    rw [toLVs] at h
    simp only [List.all_cons, Bool.and_eq_true] at hC
    split at h
    · rename_i x r hx hr'
      cases h
      obtain ⟨v, vs', rfl, h1, h2⟩ := hr.head
      refine ⟨v, vs', rfl, ?_, ih hr' h2 hC.2⟩
      cases a with
      | lf y => cases hx; exact ⟨hC.1, h1.plain hC.1⟩
      | sl r' C' xs => cases hx; exact LVrel.mono h1 fun b _ hb => subN_spec hC.1 _ hb
      | any => cases hx
      | own => exact absurd hC.1 (by simp [leafB])
      | rc => cases hx
      | ep => cases hx
      | ptr => cases hx
      | mp => cases hx
      | om => cases hx
      | tup => cases hx
    · cases h

/-! ### a function -/

def enumSl : Nat → List AV → List (Nat × AV)
  | _, [] => []
  | n, a :: l => (n, a) :: enumSl (n + 1) l
theorem enumSl_rel {γ : Gh} {w : World} {l : List AV} {vs : List Value} (h : AV.relL γ w l vs) (pre post : List Value) :
    ∀ p ∈ enumSl pre.length l, p.2.rel γ w ((pre ++ vs ++ post).toArray.getD p.1 undef) := by
  induction l generalizing vs pre with
  | nil => intro p hp; cases hp
  | cons a l ih =>
    obtain ⟨v, vs', rfl, h1, h2⟩ := h
    intro p hp
    cases hp with
    | head => simpa using h1
    | tail _ hp =>
      have hp' : p ∈ enumSl (pre.length + 1) l := hp
      have := ih h2 (pre ++ [v]) p (by simpa using hp')
      simpa using this

/-- A struct's or an array's type. -/
structure AggT (P : Program) (t : TypeId) (n : Nat) : Prop where
  agg : ∀ w, (isAgg t).run P w = .ok true w
  size : ∀ w, (sizeOf t).run P w = .ok n w
theorem run_loadVar_agg {P : Program} {t : TypeId} {n : Nat} (h : AggT P t n) {w : World} {b o : Nat} {cs : List Value} (hn : cs.length = n) (hc : ∀ i, i < cs.length → w.cell? ⟨b, o + i, none⟩ = cs[i]?) :
    (loadVar t ⟨b, o, none⟩).run P w = .ok (.agg cs.toArray) w := by
  have hl : (loadCells ⟨b, o, none⟩ cs.length).run P w = .ok cs.toArray w := run_loadCells_list (P := P) w ⟨b, o, none⟩ cs fun j v hv => by
    rw [addr_add, hc j (List.getElem?_eq_some_iff.1 hv).1]; exact hv
  rw [hn] at hl
  simp [loadVar, h.agg, h.size, hl]

/-- Which results stand where. -/
def ResOk (P : Program) (E : Env) : List ResultVar → List AV → Prop
  | [], [] => True
  | .tmp t :: rs, a :: l => lookup E.sl t = some a ∧ ResOk P E rs l
  | .cell x t :: rs, .rc r C y :: l => (∃ ℓ b, lookup E.sl x = some (.ptr ℓ 0) ∧ findBx E.bx ℓ = some b ∧ toLVs b.avs = some (r.lv y) ∧ subN (AV.colsL b.avs) C = true ∧ AggT P t r.size) ∧ ResOk P E rs l
  | _, _ => False
def resF (tmps : Array Value) : ResultVar → Sem Value
  | .tmp t => pure (tmps.getD t undef)
  | .cell x t => do loadVar t (← asAddr (tmps.getD x undef))
theorem resOk_run {P : Program} {E : Env} {γ : Gh} {w : World} {a : Act} (hs : Sl γ w a E.sl) (hx : Bxs γ w E.bx) : ∀ (rs : List ResultVar) (l : List AV), ResOk P E rs l →
    ∃ us, (rs.mapM (resF a.tmps)).run P w = .ok us w ∧ AV.relL γ w l us
  | [], [], _ => ⟨[], rfl, rfl⟩
  | .tmp t :: rs, x :: l, h => by
    obtain ⟨us, hu, hr⟩ := resOk_run hs hx rs l h.2
    refine ⟨a.tmps.getD t undef :: us, ?_, _, us, rfl, hs _ (lookup_mem h.1), hr⟩
    simp only [List.mapM_cons, resF, Sem.run_bind, Sem.run_pure, Result.andThen_ok]
    rw [hu]
    rfl
  | .cell x t :: rs, .rc r C y :: l, h => by
    obtain ⟨us, hu, hr⟩ := resOk_run hs hx rs l h.2
    obtain ⟨ℓ, b, h1, h2, h3, h4, h5⟩ := h.1
    obtain ⟨hm, rfl⟩ := findBx_spec h2
    have hp : a.tmps.getD x undef = .pointer (some ⟨γ.box b.lab, 0, none⟩) := hs _ (lookup_mem h1)
    obtain ⟨hcol, cs, hh, hL, _⟩ := hx b hm
    have hA := toLVs_rel h3 hL (subN_spec h4)
    have hld := run_loadVar_agg h5 (w := w) (b := γ.box b.lab) (o := 0) (cs := cs) (by rw [← hA.1]; exact r.len y) fun i hi => by rw [cell_of_row w _ _ _ _ _ hh]; simp
    refine ⟨.agg cs.toArray :: us, ?_, _, us, rfl, ⟨cs, rfl, hA⟩, hr⟩
    have ha : (asAddr (.pointer (some ⟨γ.box b.lab, 0, none⟩))).run P w = .ok ⟨γ.box b.lab, 0, none⟩ w := rfl
    simp only [List.mapM_cons, resF, Sem.run_bind, hp, ha, hld, Sem.run_pure, Result.andThen_ok]
    rw [hu]
    rfl
  | [], _ :: _, h => h.elim
  | .cell _ _ :: _, [], h => h.elim
  | .cell _ _ :: _, .any :: _, h => h.elim
  | .cell _ _ :: _, .lf _ :: _, h => h.elim
  | .cell _ _ :: _, .sl .. :: _, h => h.elim
  | .cell _ _ :: _, .own .. :: _, h => h.elim
  | .cell _ _ :: _, .ep .. :: _, h => h.elim
  | .cell _ _ :: _, .ptr .. :: _, h => h.elim
  | .cell _ _ :: _, .mp .. :: _, h => h.elim
  | .cell _ _ :: _, .om .. :: _, h => h.elim
  | .cell _ _ :: _, .tup .. :: _, h => h.elim
  | .tmp _ :: _, [], h => h.elim
theorem results_run {P : Program} {E : Env} {γ : Gh} {w : World} {a : Act} {fn : Func} {l : List AV} (hs : Sl γ w a E.sl) (hx : Bxs γ w E.bx) (h : ResOk P E fn.results.toList l) :
    ∃ us, (results fn a.tmps).run P w = .ok (retVal us) w ∧ AV.relL γ w l us := by
  obtain ⟨us, hu, hr⟩ := resOk_run (P := P) hs hx _ _ h
  refine ⟨us, ?_, hr⟩
  have e : results fn a.tmps = (fn.results.mapM (resF a.tmps)) >>= fun vs => pure (if h : vs.size = 1 then vs[0] else .tuple vs) := by
    unfold results
    congr 2
  rw [e, ← Array.toArray_toList (xs := fn.results), List.mapM_toArray, Sem.run_bind, Sem.run_map, hu]
  simp only [Result.andThen_ok, Sem.run_pure]
  congr 1
  match us with
  | [] => rfl
  | [u] => rfl
  | u :: v :: r =>
    rw [dif_neg (by simp)]
    rfl
/-- A function, from its body. -/
theorem fn_intro {P : Program} {f : FuncId} {fn : Func} {c : Code} {ins outs : List AV} {E : Env} (hf : P.funcs[f]? = some fn) (hb : fn.body = some c) (hlen : ins.length ≤ fn.ntmps) (hres : ResOk P E fn.results.toList outs)
    (hj : ∀ cx : Cx, cx.n = fn.ntmps → J P c (Sx cx ⟨enumSl 0 ins, []⟩) fun e a w => e = .ret ∧ Sx cx E a w) : FnOk P f ins outs := by
  intro w F vs hr
  have hl := relL_length hr
  refine calls_of_wp hf hb (wp_mono (hj ⟨fn.ntmps, w, F⟩ rfl _ w ⟨gh0 F, ⟨rfl, ?_, Below.refl _ _, fun b _ => ?_⟩, ?_, fun b hb => by cases hb⟩) ?_)
  · simp [hl]; omega
  · by_cases hF : F b <;> simp [gh0, hF]
  · intro p hp
    have := enumSl_rel hr [] (List.replicate (fn.ntmps - vs.length) undef) p hp
    simp only [List.nil_append] at this
    have e : (vs ++ List.replicate (fn.ntmps - vs.length) undef).toArray = vs.toArray ++ Array.replicate (fn.ntmps - vs.toArray.size) undef := by simp
    rw [e] at this
    exact this
  · rintro e a w' ⟨rfl, γ, hB, hS, hX⟩
    obtain ⟨us, hu, hu'⟩ := results_run (P := P) (fn := fn) hS hX hres
    exact ⟨hB.defers, retVal us, hu, γ, us, rfl, hB.below, hB.old, hu'⟩

/-! ### a call -/

/-- What a caller's reading is to the function that it calls. -/
def inAV : AV → AV
  | .lf l => .lf l
  | .sl r _ xs => .sl r [0] xs
  | .own r _ _ _ xs => .sl r [0] xs
  | .rc r _ x => .rc r [0] x
  | .mp rk rv _ m => .mp rk rv [0] m
  | .om rk rv _ _ m => .mp rk rv [0] m
  | _ => .any
def inCols : AV → List Nat
  | .sl _ C _ | .rc _ C _ => C
  | .own _ _ ℓ C _ => ℓ :: C
  | .mp _ _ C _ => C
  | .om _ _ ℓ C _ => ℓ :: C
  | _ => []
theorem gh0_col (F : Fp) (b : Nat) (h : F b) : (gh0 F).col b = 0 := by simp [gh0, h]
theorem inAV_rel {γ : Gh} {w : World} {a : AV} {v : Value} {D : List Nat} (h : a.rel γ w v) (hD : ∀ c ∈ inCols a, c ∈ D) : (inAV a).rel (gh0 (γ.F D)) w v := by
  have key : ∀ (C : List Nat), (∀ c ∈ C, c ∈ D) → ∀ b, b < w.heap.size → γ.F C b → (gh0 (γ.F D)).F [0] b := fun C hC b _ hb => by
    show (gh0 (γ.F D)).col b ∈ [0]
    have hF : γ.F D b := hC _ hb
    rw [gh0_col (γ.F D) b hF]; exact List.mem_cons_self
  cases a with
  | any => trivial
  | lf l => exact h
  | sl r C xs => exact LVrel.mono h (key C hD)
  | own r e ℓ C xs => exact (own_LV h).mono (key _ hD)
  | rc r C x => obtain ⟨cs, hv, hA⟩ := h; exact ⟨cs, hv, hA.mono (key C hD)⟩
  | mp rk rv C m =>
    obtain ⟨b, es, cl, hv, hF, hb, hh, hE⟩ := h
    exact ⟨b, es, cl, hv, key C hD b hb hF, hb, hh, hE.mono (key C hD)⟩
  | om rk rv ℓ C m =>
    obtain ⟨b, es, cl, hv, ⟨hF, hbx⟩, hb, hh, hE, hn⟩ := h
    exact ⟨b, es, cl, hv, key (ℓ :: C) hD b hb (by show γ.col b ∈ ℓ :: C; rw [hF]; exact List.mem_cons_self), hb, hh, (hE.mono (fun b _ hb => List.mem_cons_of_mem _ hb)).mono (key (ℓ :: C) hD)⟩
  | ep => trivial
  | ptr => trivial
  | tup => trivial
/-- The colors of what a function hands back: what was handed in, or new memory, its colors moved by s. -/
def outC (D : List Nat) (s : Nat) : List Nat → List Nat
  | [] => []
  | c :: C => (match c with
    | 0 => D
    | c + 1 => [c + 1 + s]) ++ outC D s C
def outAV (D : List Nat) (s : Nat) : AV → AV
  | .lf l => .lf l
  | .sl r C xs => .sl r (outC D s C) xs
  | .own r e ℓ C xs => .own r e (ℓ + s) (outC D s C) xs
  | .rc r C x => .rc r (outC D s C) x
  | .mp rk rv C m => .mp rk rv (outC D s C) m
  | .om rk rv ℓ C m => .om rk rv (ℓ + s) (outC D s C) m
  | _ => .any
def outOk (D : List Nat) (s : Nat) : AV → Bool
  | .sl _ C _ | .rc _ C _ => !memN 1 C
  | .own _ _ ℓ C _ => !memN 1 C && Nat.ble 2 ℓ && !memN (ℓ + s) (outC D s C)
  | .mp _ _ C _ => !memN 1 C
  | .om _ _ ℓ C _ => !memN 1 C && Nat.ble 2 ℓ && !memN (ℓ + s) (outC D s C)
  | _ => true
def outLab (s : Nat) : AV → List Nat
  | .own _ _ ℓ _ _ => [ℓ + s]
  | .om _ _ ℓ _ _ => [ℓ + s]
  | _ => []
theorem outC_mem {D : List Nat} {s : Nat} {C : List Nat} {c : Nat} (h : c ∈ C) : (c = 0 → ∀ d ∈ D, d ∈ outC D s C) ∧ (c ≠ 0 → c + s ∈ outC D s C) := by
  induction C with
  | nil => cases h
  | cons x C ih =>
    cases h with
    | head =>
      refine ⟨?_, ?_⟩
      · rintro rfl d hd; simp [outC, hd]
      · intro hc
        cases c with
        | zero => exact absurd rfl hc
        | succ c => simp [outC]
    | tail _ h =>
      obtain ⟨h1, h2⟩ := ih h
      exact ⟨fun h0 d hd => by simp only [outC, List.mem_append]; exact .inr (h1 h0 d hd), fun h0 => by simp only [outC, List.mem_append]; exact .inr (h2 h0)⟩
open Classical in
/-- The ghost behind a call. -/
noncomputable def ghOut (γ γc : Gh) (n : Nat) (D : List Nat) (s : Nat) (V : List Nat) : Gh :=
  ⟨fun b => if b < n then γ.col b else if γc.col b = 0 then D.headD 1 else if γc.col b = 1 then 1 else γc.col b + s, fun ℓ => if ℓ ∈ V then γc.box (ℓ - s) else γ.box ℓ⟩
theorem outF {γ γc : Gh} {n : Nat} {D : List Nat} {s : Nat} {V C : List Nat} (hold : ∀ b, b < n → (γc.col b = 0 ∧ γ.F D b) ∨ γc.col b = 1) (h1 : 1 ∉ C) {b : Nat} (hb : γc.F C b) (hD : 0 ∈ C → D = [] → False ∨ b < n) :
    (ghOut γ γc n D s V).F (outC D s C) b := by
  show (ghOut γ γc n D s V).col b ∈ outC D s C
  have hb' : γc.col b ∈ C := hb
  unfold ghOut
  simp only
  by_cases hn : b < n
  · rw [if_pos hn]
    rcases hold b hn with ⟨h0, hF⟩ | h0
    · rw [h0] at hb'; exact (outC_mem hb').1 rfl _ hF
    · rw [h0] at hb'; exact absurd hb' h1
  · rw [if_neg hn]
    by_cases h0 : γc.col b = 0
    · rw [if_pos h0]
      rw [h0] at hb'
      cases D with
      | nil => rcases hD hb' rfl with h | h; exact h.elim; exact absurd h hn
      | cons d D => exact (outC_mem hb').1 rfl d List.mem_cons_self
    · rw [if_neg h0]
      by_cases h2 : γc.col b = 1
      · rw [h2] at hb'; exact absurd hb' h1
      · rw [if_neg h2]; exact (outC_mem hb').2 h0
theorem outAV_rel {γ γc : Gh} {n : Nat} {D : List Nat} {s : Nat} {V : List Nat} {w' : World} {a : AV} {v : Value} (hold : ∀ b, b < n → (γc.col b = 0 ∧ γ.F D b) ∨ γc.col b = 1) (hD : D ≠ [])
    (hok : outOk D s a = true) (hV : ∀ c ∈ outLab s a, c ∈ V) (h : a.rel γc w' v) : (outAV D s a).rel (ghOut γ γc n D s V) w' v := by
  have hF : ∀ C, 1 ∉ C → ∀ b, b < w'.heap.size → γc.F C b → (ghOut γ γc n D s V).F (outC D s C) b := fun C h1 b _ hb => outF hold h1 hb (fun _ e => absurd e hD)
  cases a with
  | any => trivial
  | lf l => exact h
  | sl r C xs => exact LVrel.mono h (hF C (fun hc => by simp only [outOk, Bool.not_eq_true'] at hok; rw [memN_iff.2 hc] at hok; cases hok))
  | rc r C x =>
    obtain ⟨cs, hv, hA⟩ := h
    exact ⟨cs, hv, hA.mono (hF C (fun hc => by simp only [outOk, Bool.not_eq_true'] at hok; rw [memN_iff.2 hc] at hok; cases hok))⟩
  | own r e ℓ C xs =>
    obtain ⟨cs, ho, hg, hA, hnot⟩ := h
    simp only [outOk, Bool.and_eq_true, Bool.not_eq_true'] at hok
    obtain ⟨⟨k1, k2⟩, k3⟩ := hok
    have hℓ : 2 ≤ ℓ := Nat.le_of_ble_eq_true k2
    refine ⟨cs, ho, fun g hgb => ?_, hA.mono (hF C (fun hc => by rw [memN_iff.2 hc] at k1; cases k1)), fun hc => by rw [memN_iff.2 hc] at k3; cases k3⟩
    obtain ⟨g1, g2⟩ := hg g hgb
    refine ⟨?_, ?_⟩
    · unfold ghOut
      simp only
      have hng : ¬ g < n := fun hlt => by rcases hold g hlt with ⟨h0, _⟩ | h0 <;> omega
      rw [if_neg hng, if_neg (by omega), if_neg (by omega), g1]
    · unfold ghOut
      simp only
      rw [if_pos (hV _ (by simp [outLab])), Nat.add_sub_cancel]
      exact g2
  | mp rk rv C m =>
    obtain ⟨b, es, cl, hv, hF', hb, hh, hE⟩ := h
    have h1 : 1 ∉ C := fun hc => by simp only [outOk, Bool.not_eq_true'] at hok; rw [memN_iff.2 hc] at hok; cases hok
    exact ⟨b, es, cl, hv, hF C h1 b hb hF', hb, hh, hE.mono (hF C h1)⟩
  | om rk rv ℓ C m =>
    obtain ⟨b, es, cl, hv, ⟨g1, g2⟩, hb, hh, hE, hnot⟩ := h
    simp only [outOk, Bool.and_eq_true, Bool.not_eq_true'] at hok
    obtain ⟨⟨k1, k2⟩, k3⟩ := hok
    have hℓ : 2 ≤ ℓ := Nat.le_of_ble_eq_true k2
    refine ⟨b, es, cl, hv, ⟨?_, ?_⟩, hb, hh, hE.mono (hF C (fun hc => by rw [memN_iff.2 hc] at k1; cases k1)), fun hc => by rw [memN_iff.2 hc] at k3; cases k3⟩
    · unfold ghOut
      simp only
      have hng : ¬ b < n := fun hlt => by rcases hold b hlt with ⟨h0, _⟩ | h0 <;> omega
      rw [if_neg hng, if_neg (by omega), if_neg (by omega), g1]
    · unfold ghOut
      simp only
      rw [if_pos (hV _ (by simp [outLab])), Nat.add_sub_cancel]
      exact g2
  | ep => trivial
  | ptr => trivial
  | tup => trivial
def retAV : List AV → AV
  | [a] => a
  | l => .tup l
theorem relL_map {γ γ' : Gh} {w w' : World} {f : AV → AV} {l : List AV} {vs : List Value} (h : AV.relL γ w l vs) (hf : ∀ a ∈ l, ∀ v, a.rel γ w v → (f a).rel γ' w' v) : AV.relL γ' w' (l.map f) vs := by
  induction l generalizing vs with
  | nil => exact h
  | cons a l ih =>
    obtain ⟨v, vs', rfl, h1, h2⟩ := h
    exact ⟨v, vs', rfl, hf a List.mem_cons_self v h1, ih h2 fun b hb => hf b (List.mem_cons_of_mem _ hb)⟩
theorem retAV_rel {γ : Gh} {w : World} {l : List AV} {us : List Value} (h : AV.relL γ w l us) : (retAV l).rel γ w (retVal us) := by
  match l, us, h with
  | [], us, h => cases h; exact ⟨[], rfl, rfl⟩
  | [a], us, h => obtain ⟨v, vs', rfl, h1, h2⟩ := h; cases h2; exact h1
  | a :: b :: l, us, h =>
    have h' := h
    obtain ⟨v, vs', rfl, h1, v2, vs2, rfl, h2, h3⟩ := h
    exact ⟨_, rfl, h'⟩
theorem lo_call {P : Program} {o : Oper} {f : FuncId} {args : List Operand} {ts : Array TypeId} {ins outs : List AV} (xs : List AV) (D : List Nat) (s : Nat)
    (ho : o.op = .call ⟨.value (.func f), args.toArray, ts⟩) (hc : ∀ as w, (callFunc f as).run P w = .ok (.enter f as) w) (ok : FnOk P f ins outs)
    (hin : xs.map inAV = ins) (hlen : xs.length = args.length) (hD : (xs.all fun a => subN (inCols a) D) = true) (hD0 : D.isEmpty = false) (hout : (outs.all (outOk D s)) = true) :
    LocalOk P o (args.zip xs) [] [] (outs.flatMap (outLab s)) (retAV (outs.map (outAV D s))) [] := by
  intro γ a w hi hb next Q hk
  have hvs : AV.relL (gh0 (γ.F D)) w ins (args.map a.eval) := by
    subst hin
    clear hb hk hout ok ho
    simp only [List.all_eq_true] at hD
    induction xs generalizing args with
    | nil => cases args <;> first | rfl | (simp at hlen)
    | cons x xs ih =>
      cases args with
      | nil => simp at hlen
      | cons y args =>
        exact ⟨_, _, rfl, inAV_rel (hi (y, x) (by simp)) (subN_spec (hD x List.mem_cons_self)),
          ih (by simpa using hlen) (fun p hp => hi p (List.mem_cons_of_mem _ hp)) (fun b hb => hD b (List.mem_cons_of_mem _ hb))⟩
  have hcall := ok w (γ.F D) _ hvs
  have hrun : (execOp a.eval o).run P w = .ok (.enter f (args.map a.eval).toArray) w := by
    simp [execOp, ho, resolve, Act.eval, Deferred.ofValue, invoke, hc]
  unfold Oper.wp
  rw [hrun, Oper.upon_enter]
  refine hcall.mono fun e w' ⟨γc, us, he, hB, hold, hr⟩ => ?_
  subst he
  have hDne : D ≠ [] := fun e => by rw [e] at hD0; cases hD0
  simp only [List.all_eq_true] at hout
  refine hk (ghOut γ γc w.heap.size D s (outs.flatMap (outLab s))) w' _ ⟨hB.os, hB.tape, hB.output, hB.size, fun b hb _ => hB.block b hb, fun b hb => ?_, fun ℓ hℓ => ?_⟩ (retAV_rel (relL_map hr fun x hx v hv => ?_)) (fun b hb => by cases hb)
  · show (if b < w.heap.size then γ.col b else _) = _
    rw [if_pos hb]
  · show (if ℓ ∈ outs.flatMap (outLab s) then _ else γ.box ℓ) = _
    rw [if_neg hℓ]
  · exact outAV_rel hold hDne (hout x hx) (fun c hc => List.mem_flatMap.2 ⟨x, hx, hc⟩) hv
end Go.Proofs.Ytnhnanbgphdaeaa
