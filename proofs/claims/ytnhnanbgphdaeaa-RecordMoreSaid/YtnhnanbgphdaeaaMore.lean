/-
  Colors under other names; records held against each other; fields of records. No condition.
-/
import Derived.Test.YtnhnanbgphdaeaaDraw
namespace Go.Proofs.Ytnhnanbgphdaeaa
open Go Go.RowKit

theorem LocalOk.cons {P : Program} {o : Oper} {ins : List (Operand × AV)} {bxs bs : List Bx} {W V : List Nat} {av : AV} (p : Operand × AV) (h : LocalOk P o ins bxs W V av bs) : LocalOk P o (p :: ins) bxs W V av bs :=
  fun γ a w hi hb => h γ a w (fun q hq => hi q (List.mem_cons_of_mem _ hq)) hb

/-! ### another name -/

def renN (x o c : Nat) : Nat := match Nat.beq c x with
  | true => o
  | false => c
theorem renN_same (x o : Nat) : renN x o x = o := by simp [renN]
theorem renN_ne {x o c : Nat} (h : c ≠ x) : renN x o c = c := by
  unfold renN
  cases hb : Nat.beq c x with
  | true => exact absurd (Nat.eq_of_beq_eq_true hb) h
  | false => rfl
def ghRen (γ : Gh) (x o : Nat) : Gh := ⟨fun b => renN x o (γ.col b), fun k => match Nat.beq k o with
  | true => γ.box x
  | false => γ.box k⟩
theorem ghRen_box_o (γ : Gh) (x o : Nat) : (ghRen γ x o).box o = γ.box x := by simp [ghRen]
theorem ghRen_box_ne (γ : Gh) {x o k : Nat} (h : k ≠ o) : (ghRen γ x o).box k = γ.box k := by
  show (match Nat.beq k o with
  | true => γ.box x
  | false => γ.box k) = _
  cases hb : Nat.beq k o with
  | true => exact absurd (Nat.eq_of_beq_eq_true hb) h
  | false => rfl
mutual
def AV.ren (x o : Nat) : AV → AV
  | .any => .any
  | .lf l => .lf l
  | .sl r C xs => .sl r (C.map (renN x o)) xs
  | .own r e ℓ C xs => match Nat.beq ℓ x, Nat.beq ℓ o with
    | true, _ => match memN o (C.map (renN x o)) with
      | true => .any
      | false => .own r e o (C.map (renN x o)) xs
    | false, true => .any
    | false, false => .own r e ℓ (C.map (renN x o)) xs
  | .rc r C y => .rc r (C.map (renN x o)) y
  | .ep r C y off => .ep r (C.map (renN x o)) y off
  | .ptr ℓ off => match Nat.beq ℓ x, Nat.beq ℓ o with
    | true, _ => .ptr o off
    | false, true => .any
    | false, false => .ptr ℓ off
  | .mp rk rv C m => .mp rk rv (C.map (renN x o)) m
  | .om rk rv ℓ C m => match Nat.beq ℓ x, Nat.beq ℓ o with
    | true, _ => match memN o (C.map (renN x o)) with
      | true => .any
      | false => .om rk rv o (C.map (renN x o)) m
    | false, true => .any
    | false, false => .om rk rv ℓ (C.map (renN x o)) m
  | .tup l => .tup (AV.renL x o l)
def AV.renL (x o : Nat) : List AV → List AV
  | [] => []
  | a :: l => a.ren x o :: AV.renL x o l
end
theorem ghRen_F {γ : Gh} {x o : Nat} {C : List Nat} {b : Nat} (h : γ.F C b) : (ghRen γ x o).F (C.map (renN x o)) b := List.mem_map_of_mem (f := renN x o) h
mutual
theorem AV.ren_rel {γ : Gh} {w : World} {x o : Nat} (a : AV) {v : Value} (h : a.rel γ w v) : (a.ren x o).rel (ghRen γ x o) w v := by
  match a with
  | .any => trivial
  | .lf l => exact h
  | .sl r C xs => exact LVrel.mono h fun b _ hb => ghRen_F hb
  | .rc r C y => obtain ⟨cs, hv, hA⟩ := h; exact ⟨cs, hv, hA.mono fun b _ hb => ghRen_F hb⟩
  | .ep r C y off => obtain ⟨b, o', cs, hv, hF, hb, hA, hc⟩ := h; exact ⟨b, o', cs, hv, ghRen_F hF, hb, hA.mono fun b _ hb => ghRen_F hb, hc⟩
  | .tup l => obtain ⟨vs, hv, hL⟩ := h; exact ⟨vs, hv, AV.renL_rel l hL⟩
  | .mp rk rv C m => obtain ⟨b, es, cl, hv, hF, hb, hh, hE⟩ := h; exact ⟨b, es, cl, hv, ghRen_F hF, hb, hh, hE.mono fun b _ hb => ghRen_F hb⟩
  | .om rk rv ℓ C m =>
    obtain ⟨b, es, cl, hv, ⟨g1, g2⟩, hb, hh, hE, hn⟩ := h
    have hE' : EsRel ((ghRen γ x o).F (C.map (renN x o))) w rk rv m es.toList := hE.mono fun b _ hb => ghRen_F hb
    rw [AV.ren]
    cases h1 : Nat.beq ℓ x with
    | true =>
      have := Nat.eq_of_beq_eq_true h1; subst this
      cases hm : memN o (C.map (renN ℓ o)) with
      | true => trivial
      | false =>
        refine ⟨b, es, cl, hv, ⟨?_, ?_⟩, hb, hh, hE', fun hc => by rw [memN_iff.2 hc] at hm; cases hm⟩
        · show renN ℓ o (γ.col b) = o
          rw [g1, renN_same]
        · rw [ghRen_box_o]; exact g2
    | false =>
      have hx : ℓ ≠ x := fun e => by rw [e] at h1; simp at h1
      cases h2 : Nat.beq ℓ o with
      | true => trivial
      | false =>
        have hlo : ℓ ≠ o := fun e => by rw [e] at h2; simp at h2
        refine ⟨b, es, cl, hv, ⟨?_, ?_⟩, hb, hh, hE', fun hc => ?_⟩
        · show renN x o (γ.col b) = ℓ
          rw [g1, renN_ne hx]
        · rw [ghRen_box_ne γ hlo]; exact g2
        · obtain ⟨c, hc, he⟩ := List.mem_map.1 hc
          by_cases hcx : c = x
          · rw [hcx, renN_same] at he; exact hlo he.symm
          · rw [renN_ne hcx] at he; rw [he] at hc; exact hn hc
  | .ptr ℓ off =>
    have hv : v = .pointer (some ⟨γ.box ℓ, off, none⟩) := h
    rw [AV.ren]
    cases h1 : Nat.beq ℓ x with
    | true =>
      have := Nat.eq_of_beq_eq_true h1; subst this
      show v = _
      rw [ghRen_box_o]; exact hv
    | false =>
      cases h2 : Nat.beq ℓ o with
      | true => trivial
      | false =>
        show v = _
        rw [ghRen_box_ne γ (fun e => by rw [e] at h2; simp at h2)]; exact hv
  | .own r e ℓ C xs =>
    obtain ⟨cs, ho, hg, hA, hn⟩ := h
    have hA' : AllRel ((ghRen γ x o).F (C.map (renN x o))) w (xs.flatMap r.lv) cs := hA.mono fun b _ hb => ghRen_F hb
    rw [AV.ren]
    cases h1 : Nat.beq ℓ x with
    | true =>
      have := Nat.eq_of_beq_eq_true h1; subst this
      cases hm : memN o (C.map (renN ℓ o)) with
      | true => trivial
      | false =>
        refine ⟨cs, ho, fun g hgb => ⟨?_, ?_⟩, hA', fun hc => by rw [memN_iff.2 hc] at hm; cases hm⟩
        · show renN ℓ o (γ.col g) = o
          rw [(hg g hgb).1, renN_same]
        · rw [ghRen_box_o]; exact (hg g hgb).2
    | false =>
      have hx : ℓ ≠ x := fun e => by rw [e] at h1; simp at h1
      cases h2 : Nat.beq ℓ o with
      | true => trivial
      | false =>
        have hlo : ℓ ≠ o := fun e => by rw [e] at h2; simp at h2
        refine ⟨cs, ho, fun g hgb => ⟨?_, ?_⟩, hA', fun hc => ?_⟩
        · show renN x o (γ.col g) = ℓ
          rw [(hg g hgb).1, renN_ne hx]
        · rw [ghRen_box_ne γ hlo]; exact (hg g hgb).2
        · obtain ⟨c, hc, he⟩ := List.mem_map.1 hc
          by_cases hcx : c = x
          · rw [hcx, renN_same] at he; exact hlo he.symm
          · rw [renN_ne hcx] at he; rw [he] at hc; exact hn hc
theorem AV.renL_rel {γ : Gh} {w : World} {x o : Nat} (l : List AV) {vs : List Value} (h : AV.relL γ w l vs) : AV.relL (ghRen γ x o) w (AV.renL x o l) vs := by
  match l with
  | [] => exact h
  | a :: l =>
    obtain ⟨v, vs', rfl, h1, h2⟩ := h
    exact ⟨v, vs', rfl, AV.ren_rel a h1, AV.renL_rel l h2⟩
end
def renBx (x o : Nat) : List Bx → List Bx
  | [] => []
  | b :: l => match Nat.beq b.lab x, Nat.beq b.lab o with
    | true, _ => ⟨o, b.typ, AV.renL x o b.avs⟩ :: renBx x o l
    | false, true => renBx x o l
    | false, false => ⟨b.lab, b.typ, AV.renL x o b.avs⟩ :: renBx x o l
def Env.ren (x o : Nat) (E : Env) : Env := ⟨E.sl.map fun p => (p.1, p.2.ren x o), renBx x o E.bx⟩
theorem le_ren {E : Env} (x o : Nat) (h : (Nat.ble 2 x && Nat.ble 2 o) = true) : EnvLe E (E.ren x o) := fun cx a w hs => by
  obtain ⟨γ, hB, hS, hX⟩ := hs
  simp only [Bool.and_eq_true] at h
  have hx := Nat.le_of_ble_eq_true h.1
  refine ⟨ghRen γ x o, ⟨hB.defers, hB.size, hB.below, fun b hb => ?_⟩, fun p hp => ?_, ?_⟩
  · show (renN x o (γ.col b) = 0 ∧ _) ∨ renN x o (γ.col b) = 1
    rcases hB.old b hb with ⟨h0, hF⟩ | h1
    · left; rw [renN_ne (by omega)]; exact ⟨h0, hF⟩
    · right; rw [renN_ne (by omega)]; exact h1
  · obtain ⟨q, hq, rfl⟩ := List.mem_map.1 hp
    exact AV.ren_rel q.2 (hS q hq)
  · have key : ∀ l, Bxs γ w l → Bxs (ghRen γ x o) w (renBx x o l) := by
      intro l
      induction l with
      | nil => intro _ b hb; cases hb
      | cons c l ih =>
        intro hl b hb
        have ih' := ih fun d hd => hl d (List.mem_cons_of_mem _ hd)
        obtain ⟨hc, cs, hh, hL, hone⟩ := hl c List.mem_cons_self
        rw [renBx] at hb
        cases h1 : Nat.beq c.lab x with
        | true =>
          rw [h1] at hb
          simp only [List.mem_cons] at hb
          rcases hb with rfl | hb
          · have e1 := Nat.eq_of_beq_eq_true h1
            refine ⟨?_, cs, ?_, AV.renL_rel _ hL, hone⟩
            · show renN x o (γ.col ((ghRen γ x o).box o)) = o
              rw [ghRen_box_o, ← e1, hc, e1, renN_same]
            · show w.heap[(ghRen γ x o).box o]? = _
              rw [ghRen_box_o, ← e1]; exact hh
          · exact ih' b hb
        | false =>
          rw [h1] at hb
          have hnx : c.lab ≠ x := fun e => by rw [e] at h1; simp at h1
          cases h2 : Nat.beq c.lab o with
          | true => rw [h2] at hb; exact ih' b hb
          | false =>
            rw [h2] at hb
            have hno : c.lab ≠ o := fun e => by rw [e] at h2; simp at h2
            simp only [List.mem_cons] at hb
            rcases hb with rfl | hb
            · refine ⟨?_, cs, ?_, AV.renL_rel _ hL, hone⟩
              · show renN x o (γ.col ((ghRen γ x o).box c.lab)) = c.lab
                rw [ghRen_box_ne γ hno, hc, renN_ne hnx]
              · show w.heap[(ghRen γ x o).box c.lab]? = _
                rw [ghRen_box_ne γ hno]; exact hh
            · exact ih' b hb
    exact key E.bx hX

/-! ### records -/

/-- A record of a record's. -/
theorem lo_fldr {P : Program} {o : Oper} {α β : Type} {r : Rp α} {r' : Rp β} {C : List Nat} {x : α} (x' : β) {t f : Nat} {fs : Array Field} {fd : Field} {y : Operand} (ho : o.op = .field t y f) (hu : P.underlying t = some (.struct fs)) (hf : fs[f]? = some fd) (hT : AggT P fd.type r'.size)
    (hs : ((r.lv x).drop fd.offset).take r'.size = r'.lv x') : LocalOk P o [(y, .rc r C x)] [] [] [] (.rc r' C x') [] := by
  refine localOk_value fun γ ev w hi _ => ?_
  obtain ⟨cs, hv, hA⟩ := hi (y, .rc r C x) (by simp)
  simp only at hv
  have hA' := (hA.drop fd.offset).take r'.size
  rw [hs] at hA'
  exact ⟨_, w, γ, by simp [execOp, ho, hv, Instr.field, run_underlying hu, hf, asAgg, part, hT.agg, hT.size], Tr.refl _ _ _ _, ⟨_, rfl, hA'⟩, fun b hb => by cases hb⟩
/-- A leaf of a record's. -/
theorem lo_fld {P : Program} {o : Oper} {α : Type} {r : Rp α} {C : List Nat} {x : α} {t f : Nat} {fs : Array Field} {fd : Field} {y : Operand} {l : LV} (a : AV) (ho : o.op = .field t y f) (hu : P.underlying t = some (.struct fs)) (hf : fs[f]? = some fd) (hT : ∀ w, (isAgg fd.type).run P w = .ok false w)
    (hs : (r.lv x)[fd.offset]? = some l) (ha : a.toLV = some l) (hC : leafB C a = true) : LocalOk P o [(y, .rc r C x)] [] [] [] a [] := by
  refine localOk_value fun γ ev w hi _ => ?_
  obtain ⟨cs, hv, hA⟩ := hi (y, .rc r C x) (by simp)
  simp only at hv
  have hlen : fd.offset < cs.length := by rw [← hA.1]; exact (List.getElem?_eq_some_iff.1 hs).1
  have hr := hA.2 fd.offset _ _ hs (List.getElem?_eq_getElem hlen)
  refine ⟨cs[fd.offset], w, γ, by simp [execOp, ho, hv, Instr.field, run_underlying hu, hf, asAgg, part, hT, hlen], Tr.refl _ _ _ _, ?_, fun b hb => by cases hb⟩
  cases a with
  | lf y => cases ha; exact ⟨hC, hr.plain hC⟩
  | sl r' C' xs => cases ha; exact LVrel.mono hr fun b _ hb => subN_spec hC _ hb
  | any => cases ha
  | own => exact absurd hC (by simp [leafB])
  | rc => cases ha
  | ep => cases ha
  | ptr => cases ha
  | mp => cases ha
  | om => cases ha
  | tup => cases ha

/-- The cell of a leaf without memory. -/
def cellOf : LV → Value
  | .int k n => .int k n
  | .bool b => .bool b
  | .str l => .string ⟨l.toArray⟩
  | .val v => v
  | .sl .. => undef
theorem cellOf_rel {F : Fp} {w : World} {l : LV} {v : Value} (h : LVrel F w l v) (hp : l.plain = true) : v = cellOf l := by
  cases h <;> first | rfl | cases hp
theorem cellsOf_rel {F : Fp} {w : World} {ls : List LV} {vs : List Value} (h : AllRel F w ls vs) (hp : ls.all LV.plain = true) : vs = ls.map cellOf := by
  induction ls generalizing vs with
  | nil => exact List.eq_nil_of_length_eq_zero h.1.symm
  | cons l ls ih =>
    obtain ⟨v, vs', rfl, h1, h2⟩ := h.head
    simp only [List.all_cons, Bool.and_eq_true] at hp
    rw [cellOf_rel h1 hp.1, ih h2 hp.2]; rfl
theorem run_eqGuard_agg' {P : Program} {op : BinOp} {t : TypeId} {x y : Operand} {xs ys : Array Value} (hm : P.eqGuardType P.depth t = false) (w : World) : (eqGuard op t x y (.agg xs) (.agg ys)).run P w = .ok () w := run_eqGuard_agg w op t x y xs ys hm
theorem lo_eqr {P : Program} {o : Oper} {α β : Type} {r : Rp α} {r' : Rp β} {C C' : List Nat} {u : α} {v : β} {t t' : TypeId} {x y : Operand} {b : Bool} (ho : o.op = .binOp .eql t x y t') (hg : P.eqGuardType P.depth t = false) (h1 : (r.lv u).all LV.plain = true) (h2 : (r'.lv v).all LV.plain = true)
    (he : ∀ w, (Op.equalIn 10000 t (.agg ((r.lv u).map cellOf).toArray) (.agg ((r'.lv v).map cellOf).toArray)).run P w = .ok b w) : LocalOk P o [(x, .rc r C u), (y, .rc r' C' v)] [] [] [] (.lf (.bool b)) [] := by
  refine localOk_value fun γ ev w hi _ => ?_
  obtain ⟨cs, hv, hA⟩ := hi (x, .rc r C u) (by simp)
  obtain ⟨cs', hv', hA'⟩ := hi (y, .rc r' C' v) (by simp)
  simp only at hv hv'
  rw [cellsOf_rel hA h1] at hv
  rw [cellsOf_rel hA' h2] at hv'
  refine ⟨.bool b, w, γ, ?_, Tr.refl _ _ _ _, mk_bool _ _ _, fun b hb => by cases hb⟩
  simp only [execOp, ho, hv, hv', Sem.run_bind, run_eqGuard_agg' hg, Result.andThen_ok, run_eql_struct, he, Sem.run_pure]
theorem lo_ner {P : Program} {o : Oper} {α β : Type} {r : Rp α} {r' : Rp β} {C C' : List Nat} {u : α} {v : β} {t t' : TypeId} {x y : Operand} {b : Bool} (ho : o.op = .binOp .neq t x y t') (hg : P.eqGuardType P.depth t = false) (h1 : (r.lv u).all LV.plain = true) (h2 : (r'.lv v).all LV.plain = true)
    (he : ∀ w, (Op.equalIn 10000 t (.agg ((r.lv u).map cellOf).toArray) (.agg ((r'.lv v).map cellOf).toArray)).run P w = .ok b w) : LocalOk P o [(x, .rc r C u), (y, .rc r' C' v)] [] [] [] (.lf (.bool (!b))) [] := by
  refine localOk_value fun γ ev w hi _ => ?_
  obtain ⟨cs, hv, hA⟩ := hi (x, .rc r C u) (by simp)
  obtain ⟨cs', hv', hA'⟩ := hi (y, .rc r' C' v) (by simp)
  simp only at hv hv'
  rw [cellsOf_rel hA h1] at hv
  rw [cellsOf_rel hA' h2] at hv'
  refine ⟨.bool (!b), w, γ, ?_, Tr.refl _ _ _ _, mk_bool _ _ _, fun b hb => by cases hb⟩
  simp only [execOp, ho, hv, hv', Sem.run_bind, run_eqGuard_agg' hg, Result.andThen_ok, run_neq_struct, he, Sem.run_pure]

/-! ### small words for what a program writes -/

def leI : List (Operand × AV) → List (Operand × AV) → Prop
  | [], [] => True
  | p :: l, q :: m => (p.1 = q.1 ∧ AV.le p.2 q.2) ∧ leI l m
  | _, _ => False
theorem leI_rel {γ : Gh} {w : World} {a : Act} : ∀ (l m : List (Operand × AV)), leI l m → (∀ p ∈ l, p.2.rel γ w (a.eval p.1)) → ∀ p ∈ m, p.2.rel γ w (a.eval p.1)
  | [], [], _, _, p, hp => by cases hp
  | q :: l, x :: m, h, hr, p, hp => by
    obtain ⟨⟨h1, h2⟩, h3⟩ := h
    cases hp with
    | head => rw [← h1]; exact h2 γ w _ (hr q List.mem_cons_self)
    | tail _ hp => exact leI_rel l m h3 (fun y hy => hr y (List.mem_cons_of_mem _ hy)) p hp
  | [], _ :: _, h, _, _, _ => h.elim
  | _ :: _, [], h, _, _, _ => h.elim
theorem LocalOk.le {P : Program} {o : Oper} {ins ins' : List (Operand × AV)} {bxs bs : List Bx} {W V : List Nat} {av : AV} (h : LocalOk P o ins bxs W V av bs) (hl : leI ins' ins) : LocalOk P o ins' bxs W V av bs :=
  fun γ a w hi hb => h γ a w (leI_rel _ _ hl hi) hb
/-- The byte that a number is. -/
def byteO (x : Int) : Option UInt8 := if 0 ≤ x ∧ x < 256 then some (UInt8.ofNat x.toNat) else none
theorem byteO_eq {x : Int} {c : UInt8} (h : byteO x = some c) : x = (c.toNat : Int) := by
  unfold byteO at h
  split at h
  · rename_i hx
    cases h
    simp
    omega
  · cases h
theorem le_byte {x : Int} {c : UInt8} (h : byteO x = some c) : AV.le (.lf (.int .u8 x)) (.lf (.int .u8 (c.toNat : Int))) := by rw [byteO_eq h]; exact fun _ _ _ hv => hv
def lenO (l : List UInt8) : Option (List UInt8) := if l.length ≤ 9223372036854775807 then some l else none
theorem lo_s2b' {P : Program} {o : Oper} {src dst e : TypeId} {x : Operand} {l l' : List UInt8} (ℓ : Nat) (ho : o.op = .convert src dst x) (hs : P.underlying src = some .string) (hd : P.underlying dst = some (.slice e)) (he : P.underlying e = some (.int .u8)) (hl : lenO l = some l') :
    LocalOk P o [(x, .lf (.str l))] [] [] [ℓ] (.sl Rp.byte [ℓ] l') [] := by
  unfold lenO at hl
  split at hl
  · rename_i h; cases hl; exact lo_s2b ℓ ho hs hd he (Nat.ble_eq_true_of_le h)
  · cases hl
theorem plain_byte : Rp.byte.Plain := fun x l h => by simp [Rp.byte] at h; subst h; rfl
theorem plain_int (k : IntKind) : (Rp.int k).Plain := fun x l h => by simp [Rp.int] at h; subst h; rfl
theorem plain_bool : Rp.bool.Plain := fun x l h => by simp [Rp.bool] at h; subst h; rfl
theorem plain_str : Rp.str.Plain := fun x l h => by simp [Rp.str] at h; subst h; rfl

theorem iteT {α : Type} {c : Bool} {x y : Option α} {r : α} (h : (if c then x else y) = some r) (hc : c = true) : x = some r := by rw [hc] at h; exact h
theorem iteF {α : Type} {c : Bool} {x y : Option α} {r : α} (h : (if c then x else y) = some r) (hc : c = false) : y = some r := by rw [hc] at h; exact h
theorem AV.le_refl (a : AV) : a.le a := fun _ _ _ h => h
theorem le_bool {b b' : Bool} (h : b = b') : AV.le (.lf (.bool b)) (.lf (.bool b')) := by rw [h]; exact AV.le_refl _
theorem le_rc {α : Type} (r : Rp α) (C C' : List Nat) (x : α) (h : subN C C' = true) : AV.le (.rc r C x) (.rc r C' x) := fun _ _ _ ⟨cs, hv, hA⟩ => ⟨cs, hv, hA.mono fun _ _ hb => subN_spec h _ hb⟩
theorem le_own {α : Type} (r : Rp α) (e : TypeId) (ℓ : Nat) (C C' : List Nat) (xs : List α) (h : subN C C' = true) (hn : memN ℓ C' = false) : AV.le (.own r e ℓ C xs) (.own r e ℓ C' xs) := fun _ _ _ ⟨cs, ho, hg, hA, _⟩ =>
  ⟨cs, ho, hg, hA.mono fun _ _ hb => subN_spec h _ hb, fun hc => by rw [memN_iff.2 hc] at hn; cases hn⟩
theorem le_slo {α : Type} (r : Rp α) (e : TypeId) (ℓ : Nat) (C C' : List Nat) (xs : List α) (h : subN (ℓ :: C) C' = true) : AV.le (.own r e ℓ C xs) (.sl r C' xs) := fun _ _ _ hv => LVrel.mono (own_LV hv) fun _ _ hb => subN_spec h _ hb
theorem le_any (a : AV) : AV.le a .any := fun _ _ _ _ => trivial
def leL : List AV → List AV → Prop
  | [], [] => True
  | a :: l, b :: m => a.le b ∧ leL l m
  | _, _ => False
theorem leL_rel {γ : Gh} {w : World} {l m : List AV} {vs : List Value} (h : leL l m) (hr : AV.relL γ w l vs) : AV.relL γ w m vs := by
  induction l generalizing m vs with
  | nil => cases m <;> first | exact hr | exact h.elim
  | cons a l ih =>
    cases m with
    | nil => exact h.elim
    | cons b m => obtain ⟨v, vs', rfl, h1, h2⟩ := hr; exact ⟨v, vs', rfl, h.1 γ w v h1, ih h.2 h2⟩
theorem FnOk.le {P : Program} {f : FuncId} {ins ins' outs : List AV} (h : FnOk P f ins outs) (hl : leL ins' ins) : FnOk P f ins' outs := fun w F vs hr => h w F vs (leL_rel hl hr)
theorem le_asb {E : Env} (ℓ i : Nat) {b : Bx} {av : AV} (av' : AV) (hb : findBx E.bx ℓ = some b) (hi : b.avs[i]? = some av) (hle : av.le av') : EnvLe E ⟨E.sl, ⟨b.lab, b.typ, b.avs.set i av'⟩ :: E.bx.filter fun c => !Nat.beq c.lab ℓ⟩ := fun cx a w hs => by
  obtain ⟨γ, hB, hS, hX⟩ := hs
  refine ⟨γ, hB, hS, fun c hc => ?_⟩
  simp only [List.mem_cons] at hc
  rcases hc with rfl | hc
  · obtain ⟨hcol, cs, hh, hL, hone⟩ := hX b (findBx_spec hb).1
    obtain ⟨v, hv, hr⟩ := relL_get hL hi
    refine ⟨hcol, cs, hh, ?_, hone⟩
    have := relL_set hL i (hle γ w v hr)
    have e : cs.set i v = cs := by
      apply List.ext_getElem?
      intro j
      rw [List.getElem?_set]
      split
      · rename_i hij; subst hij
        split
        · exact hv.symm
        · rename_i hlt; rw [List.getElem?_eq_none (by omega)]
      · rfl
    rwa [e] at this
  · exact hX c (List.mem_filter.1 hc).1
/-- An operation that reckons a bool that is known. -/
theorem lo_evb {P : Program} {o : Oper} (E : Env) {c b : Bool} (h : evalOp P E.opd (boxOf E o.op) o.op = some (.lf (.bool c))) (hc : c = b) : LocalOk P o (insOf E o.op.operands.toList) (boxOf E o.op) [] [] (.lf (.bool b)) [] := by
  subst hc
  refine localOk_value fun γ ev w hi hb => ?_
  have key : ∀ (l : List Operand), (∀ p ∈ insOf E l, p.2.rel γ w (ev p.1)) → Opds E.opd γ w ev l := by
    intro l
    induction l with
    | nil => intro _ x hx; cases hx
    | cons x l ih =>
      intro h y hy av hav
      rw [insOf] at h
      cases hx : E.opd x with
      | none =>
        rw [hx] at h
        cases hy with
        | head => rw [hx] at hav; cases hav
        | tail _ hy => exact ih h y hy av hav
      | some a =>
        rw [hx] at h
        cases hy with
        | head => rw [hx] at hav; cases hav; exact h (x, _) List.mem_cons_self
        | tail _ hy => exact ih (fun p hp => h p (List.mem_cons_of_mem _ hp)) y hy av hav
  obtain ⟨v, hr, hv⟩ := evalOp_run h (key _ hi) hb
  exact ⟨v, w, γ, hr, Tr.refl _ _ _ _, hv, fun b hb => by cases hb⟩

section
variable {P : Program} {Q : Exit → Act → World → Prop} {S M : Act → World → Prop} {l : List It} {c : Code}
theorem ji_join {R : Exit → Act → World → Prop} (h : J P c S R) (k : ∀ e a w, R e a w → behind P Q l e a w) : JI P (.c c :: l) S Q := fun a w hs => by
  rw [wpI_c]; exact wp_mono (h a w hs) k
theorem ji_loop {σ ρ : Type} (body : σ → Option (σ ⊕ ρ)) (Es : σ → Act → World → Prop) (R : ρ → Exit → Act → World → Prop)
    (hb : ∀ s o, body s = some o → J P c (Es s) (match o with
      | .inl s' => fun e a w => e = .normal ∧ Es s' a w
      | .inr r => fun e a w => e ≠ .normal ∧ R r e a w))
    {s : σ} {r : ρ} (h : whileO body s = some r) (hS : ∀ a w, S a w → Es s a w) (k : ∀ e a w, R r e a w → behind P Q l e a w) : JI P (.c (.loop c) :: l) S Q :=
  ji_join (j_loop body Es R hb h hS (fun _ _ _ hr => hr)) k
theorem k_norm (k : JI P l M Q) : ∀ e a w, (e = .normal ∧ M a w) → behind P Q l e a w := by
  rintro e a w ⟨rfl, h⟩; exact k a w h
theorem k_exit {id : Nat} (l' : List It) (he : exitI id l = some l') (k : JI P l' M Q) : ∀ e a w, (e = .exit id ∧ M a w) → behind P Q l e a w := by
  rintro e a w ⟨rfl, h⟩; exact wpX_exit he (k a w h)
theorem k_exitO {id : Nat} (he : exitI id l = none) (k : ∀ a w, M a w → Q (.exit id) a w) : ∀ e a w, (e = .exit id ∧ M a w) → behind P Q l e a w := by
  rintro e a w ⟨rfl, h⟩; exact exitI_none_spec he (k a w h)
theorem k_ret (k : ∀ a w, M a w → Q .ret a w) : ∀ e a w, (e = .ret ∧ M a w) → behind P Q l e a w := by
  rintro e a w ⟨rfl, h⟩; exact k a w h
end
theorem fn_intro' {P : Program} {f : FuncId} {fn : Func} {c : Code} {ins outs : List AV} {E : Env} (N : Nat) (hf : P.funcs[f]? = some fn) (hb : fn.body = some c) (hN : fn.ntmps = N) (hlen : Nat.ble ins.length N = true) (hres : ResOk P E fn.results.toList outs)
    (hj : ∀ (w0 : World) (F : Fp), J P c (Sx ⟨N, w0, F⟩ ⟨enumSl 0 ins, []⟩) fun e a w => e = .ret ∧ Sx ⟨N, w0, F⟩ E a w) : FnOk P f ins outs := by
  subst hN
  refine fn_intro hf hb (Nat.le_of_ble_eq_true hlen) hres fun cx hcx => ?_
  obtain ⟨n, w0, F⟩ := cx
  subst hcx
  exact hj w0 F
end Go.Proofs.Ytnhnanbgphdaeaa
