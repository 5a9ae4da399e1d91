/-
  A function's text as a list of pieces, walked from front to back: branches, blocks, exits, loops. No condition.
-/
import Derived.Test.YtnhnanbgphdaeaaCnv
namespace Go.Proofs.Ytnhnanbgphdaeaa
open Go Go.RowKit

inductive It where
  | c (x : Code)
  | e (id : Nat)
/-- A text's pieces, ahead of others. -/
def flatC : Code → List It → List It
  | .seq a b, l => flatC a (flatC b l)
  | .skip, l => l
  | x, l => .c x :: l
def exitI (id : Nat) : List It → Option (List It)
  | [] => none
  | .c _ :: l => exitI id l
  | .e k :: l => match Nat.beq k id with
    | true => some l
    | false => exitI id l
structure Sem2 where
  n : Act → World → Prop
  x : Nat → Act → World → Prop
def semI (P : Program) (Q : Exit → Act → World → Prop) : List It → Sem2
  | [] => ⟨Q .normal, fun id => Q (.exit id)⟩
  | .c x :: l => ⟨x.wp P fun e a w => match e with
    | .normal => (semI P Q l).n a w
    | .exit id => (semI P Q l).x id a w
    | e => Q e a w, (semI P Q l).x⟩
  | .e k :: l => ⟨(semI P Q l).n, fun id a w => if k = id then (semI P Q l).n a w else (semI P Q l).x id a w⟩
def wpI (P : Program) (Q : Exit → Act → World → Prop) (l : List It) (a : Act) (w : World) : Prop := (semI P Q l).n a w
def wpX (P : Program) (Q : Exit → Act → World → Prop) (id : Nat) (l : List It) (a : Act) (w : World) : Prop := (semI P Q l).x id a w
/-- What stands behind a piece. -/
def behind (P : Program) (Q : Exit → Act → World → Prop) (l : List It) : Exit → Act → World → Prop := fun e a w => match e with
  | .normal => wpI P Q l a w
  | .exit id => wpX P Q id l a w
  | e => Q e a w
def JI (P : Program) (l : List It) (S : Act → World → Prop) (Q : Exit → Act → World → Prop) : Prop := ∀ a w, S a w → wpI P Q l a w

section
variable {P : Program} {Q Q' : Exit → Act → World → Prop} {S : Act → World → Prop} {l : List It} {x y c : Code}
theorem wpI_c {a : Act} {w : World} : wpI P Q (.c x :: l) a w = x.wp P (behind P Q l) a w := rfl
theorem wpI_e {a : Act} {w : World} {id : Nat} : wpI P Q (.e id :: l) a w = wpI P Q l a w := rfl
theorem wpX_c {a : Act} {w : World} {id : Nat} : wpX P Q id (.c x :: l) a w = wpX P Q id l a w := rfl
theorem wpX_e {a : Act} {w : World} {id k : Nat} : wpX P Q id (.e k :: l) a w = if k = id then wpI P Q l a w else wpX P Q id l a w := rfl
theorem wpX_exit {id : Nat} {a : Act} {w : World} : ∀ {l l' : List It}, exitI id l = some l' → wpI P Q l' a w → wpX P Q id l a w
  | [], _, h, _ => by cases h
  | .c _ :: l, _, h, k => wpX_exit (l := l) h k
  | .e _ :: l, _, h, k => by
    rw [wpX_e]
    rw [exitI] at h
    split at h
    · rename_i hb
      cases h
      rw [if_pos (Nat.eq_of_beq_eq_true hb)]; exact k
    · rename_i hb
      rw [if_neg (fun e => by rw [e] at hb; simp at hb)]; exact wpX_exit h k
theorem flatX : ∀ (x : Code) (l : List It) (id : Nat) (a : Act) (w : World), wpX P Q id (flatC x l) a w → wpX P Q id l a w
  | .seq p q, l, id, a, w, h => flatX q l id a w (flatX p (flatC q l) id a w h)
  | .skip, _, _, _, _, h => h
  | .region _ _ _, _, _, _, _, h => h
  | .cond _ _ _, _, _, _, _, h => h
  | .block _ _, _, _, _, _, h => h
  | .loop _, _, _, _, _, h => h
  | .rangeFunc _ _ _ _, _, _, _, _, h => h
  | .exit _, _, _, _, _, h => h
  | .scope _, _, _, _, _, h => h
  | .label _, _, _, _, _, h => h
  | .goto _, _, _, _, _, h => h
  | .ret, _, _, _, _, h => h
  | .refuse _, _, _, _, _, h => h
theorem flat_sound : ∀ (x : Code) (l : List It) (a : Act) (w : World), wpI P Q (flatC x l) a w → x.wp P (behind P Q l) a w
  | .seq p q, l, a, w, h => by
    have h1 := flat_sound p (flatC q l) a w h
    refine wp_seq (wp_mono h1 fun e a' w' hq => ?_)
    cases e with
    | normal => exact flat_sound q l a' w' hq
    | exit id => exact flatX q l id a' w' hq
    | goto l => exact hq
    | ret => exact hq
    | panic ch => exact hq
    | outgrown => exact hq
  | .skip, _, _, _, h => wp_skip h
  | .region _ _ _, _, _, _, h => h
  | .cond _ _ _, _, _, _, h => h
  | .block _ _, _, _, _, h => h
  | .loop _, _, _, _, h => h
  | .rangeFunc _ _ _ _, _, _, _, h => h
  | .exit _, _, _, _, h => h
  | .scope _, _, _, _, h => h
  | .label _, _, _, _, h => h
  | .goto _, _, _, _, h => h
  | .ret, _, _, _, h => h
  | .refuse _, _, _, _, h => h
theorem ji_start (h : JI P (flatC c []) S Q) : J P c S Q := fun a w hs => wp_mono (flat_sound c [] a w (h a w hs)) fun e a w hq => by
  cases e with
  | normal => exact hq
  | exit id => exact hq
  | goto l => exact hq
  | ret => exact hq
  | panic ch => exact hq
  | outgrown => exact hq
theorem ji_nil (h : ∀ a w, S a w → Q .normal a w) : JI P [] S Q := fun a w hs => h a w hs
theorem ji_end {id : Nat} (h : JI P l S Q) : JI P (.e id :: l) S Q := fun a w hs => h a w hs
theorem ji_region {cx : Cx} {E : Env} {id : Nat} {ops : List Oper} (E' : Env) (h : RegOk P cx.n ops.toArray ops E E') (k : JI P l (Sx cx E') Q) : JI P (.c (.region id ops.toArray false) :: l) (Sx cx E) Q :=
  fun a w hs => by rw [wpI_c]; exact wp_region_lit (h cx a w _ rfl hs fun a' w' hs' => k a' w' hs')
theorem ji_condT {cx : Cx} {E : Env} {o : Operand} {b : Bool} (hl : E.opd o = some (.lf (.bool b))) (hb : b = true) (k : JI P (flatC x l) (Sx cx E) Q) : JI P (.c (.cond o x y) :: l) (Sx cx E) Q := fun a w hs => by
  rw [wpI_c]
  obtain ⟨γ, hB, hS, hX⟩ := hs
  subst hb
  exact wp_cond_true (lf_bool (Env.opd_rel hl hS)) (flat_sound x l a w (k a w ⟨γ, hB, hS, hX⟩))
theorem ji_condF {cx : Cx} {E : Env} {o : Operand} {b : Bool} (hl : E.opd o = some (.lf (.bool b))) (hb : b = false) (k : JI P (flatC y l) (Sx cx E) Q) : JI P (.c (.cond o x y) :: l) (Sx cx E) Q := fun a w hs => by
  rw [wpI_c]
  obtain ⟨γ, hB, hS, hX⟩ := hs
  subst hb
  exact wp_cond_false (lf_bool (Env.opd_rel hl hS)) (flat_sound y l a w (k a w ⟨γ, hB, hS, hX⟩))
theorem ji_ret (h : ∀ a w, S a w → Q .ret a w) : JI P (.c .ret :: l) S Q := fun a w hs => by rw [wpI_c]; exact wp_ret (h a w hs)
theorem ji_exit {id : Nat} (l' : List It) (he : exitI id l = some l') (k : JI P l' S Q) : JI P (.c (.exit id) :: l) S Q := fun a w hs => by
  rw [wpI_c]; exact wp_exit (wpX_exit he (k a w hs))
theorem exitI_none_spec {id : Nat} {a : Act} {w : World} : ∀ {l : List It}, exitI id l = none → Q (.exit id) a w → wpX P Q id l a w
  | [], _, k => k
  | .c _ :: l, h, k => exitI_none_spec (l := l) h k
  | .e _ :: l, h, k => by
    rw [exitI] at h
    split at h
    · cases h
    · rename_i hb
      rw [wpX_e, if_neg (fun e => by rw [e] at hb; simp at hb)]; exact exitI_none_spec h k
/-- An exit to beyond the list. -/
theorem ji_exitO {id : Nat} (he : exitI id l = none) (h : ∀ a w, S a w → Q (.exit id) a w) : JI P (.c (.exit id) :: l) S Q := fun a w hs => by
  rw [wpI_c]; exact wp_exit (exitI_none_spec he (h a w hs))
theorem ji_block {id : Nat} (k : JI P (flatC c (.e id :: l)) S Q) : JI P (.c (.block id c) :: l) S Q := fun a w hs => by
  rw [wpI_c]
  refine wp_block (wp_mono (flat_sound c (.e id :: l) a w (k a w hs)) fun e a' w' hq => ?_)
  cases e with
  | normal => exact hq
  | exit j =>
    have hq' : wpX P Q j (.e id :: l) a' w' := hq
    rw [wpX_e] at hq'
    by_cases hj : j = id
    · rw [if_pos hj.symm] at hq'
      simp only [Exit.inBlock, if_pos hj]; exact hq'
    · rw [if_neg (fun e => hj e.symm)] at hq'
      simp only [Exit.inBlock, if_neg hj]; exact hq'
  | goto l => exact hq
  | ret => exact hq
  | panic ch => exact hq
  | outgrown => exact hq
/-- A piece by itself, and what stands behind it. -/
theorem ji_piece {R : Exit → Act → World → Prop} (h : J P c S R) (hn : ∀ a w, R .normal a w → wpI P Q l a w) (he : ∀ e a w, e ≠ .normal → R e a w → behind P Q l e a w) : JI P (.c c :: l) S Q := fun a w hs => by
  rw [wpI_c]
  refine wp_mono (h a w hs) fun e a' w' hq => ?_
  cases e with
  | normal => exact hn a' w' hq
  | exit id => exact he (.exit id) a' w' (by simp) hq
  | goto l => exact he (.goto l) a' w' (by simp) hq
  | ret => exact he .ret a' w' (by simp) hq
  | panic ch => exact he (.panic ch) a' w' (by simp) hq
  | outgrown => exact he .outgrown a' w' (by simp) hq
/-- A piece that comes to its end. -/
theorem ji_then {M : Act → World → Prop} (h : J P c S fun e a w => e = .normal ∧ M a w) (k : JI P l M Q) : JI P (.c c :: l) S Q :=
  ji_piece h (fun a w hr => k a w hr.2) (fun _ _ _ hn hr => absurd hr.1 hn)
/-- A piece that returns. -/
theorem ji_leave {M : Act → World → Prop} (h : J P c S fun e a w => e = .ret ∧ M a w) (k : ∀ a w, M a w → Q .ret a w) : JI P (.c c :: l) S Q :=
  ji_piece h (fun _ _ hr => by cases hr.1) (fun _ a w _ hr => by obtain ⟨rfl, hm⟩ := hr; exact k a w hm)
/-- A piece that goes out to a block that stands around it. -/
theorem ji_out {M : Act → World → Prop} {id : Nat} (l' : List It) (h : J P c S fun e a w => e = .exit id ∧ M a w) (he : exitI id l = some l') (k : JI P l' M Q) : JI P (.c c :: l) S Q :=
  ji_piece h (fun _ _ hr => by cases hr.1) (fun _ a w _ hr => by obtain ⟨rfl, hm⟩ := hr; exact wpX_exit he (k a w hm))
theorem ji_outO {M : Act → World → Prop} {id : Nat} (h : J P c S fun e a w => e = .exit id ∧ M a w) (he : exitI id l = none) (k : ∀ a w, M a w → Q (.exit id) a w) : JI P (.c c :: l) S Q :=
  ji_piece h (fun _ _ hr => by cases hr.1) (fun _ a w _ hr => by obtain ⟨rfl, hm⟩ := hr; exact exitI_none_spec he (k a w hm))
end

/-! ### telling the state otherwise -/

def EnvLe (E E' : Env) : Prop := ∀ cx a w, Sx cx E a w → Sx cx E' a w
theorem le_pick {E E' : Env} (ks bs : List Nat) (h : E.pick ks bs = some E') : EnvLe E E' := fun _ _ _ hs => hs.pick h
theorem EnvLe.go {E E' : Env} {cx : Cx} {a : Act} {w : World} (h : EnvLe E E') (hs : Sx cx E a w) : Sx cx E' a w := h cx a w hs
theorem EnvLe.trans {E E1 E' : Env} (h : EnvLe E E1) (k : EnvLe E1 E') : EnvLe E E' := fun cx a w hs => k cx a w (h cx a w hs)
theorem le_as {E : Env} (t : Nat) {av : AV} (av' : AV) (hl : lookup E.sl t = some av) (hle : av.le av') : EnvLe E ⟨putSl (some t) av' E.sl, E.bx⟩ := fun cx a w hs => by
  obtain ⟨γ, hB, hS, hX⟩ := hs
  refine ⟨γ, hB, fun p hp => ?_, hX⟩
  simp only [putSl, List.mem_cons] at hp
  rcases hp with rfl | hp
  · exact hle γ w _ (hS _ (lookup_mem hl))
  · exact hS p (List.mem_filter.1 hp).1
theorem ji_le {P : Program} {l : List It} {cx : Cx} {E E' : Env} {Q : Exit → Act → World → Prop} (h : EnvLe E E') (k : JI P l (Sx cx E') Q) : JI P l (Sx cx E) Q := fun a w hs => k a w (h cx a w hs)
section
variable {P : Program} {N : Nat} {ops : Array Oper} {rest : List Oper} {E E1 E' : Env}
theorem ro_le (h : EnvLe E E1) (k : RegOk P N ops rest E1 E') : RegOk P N ops rest E E' := fun cx a w Q hn hs hQ => k cx a w Q hn (h cx a w hs) hQ
/-- A run, and what of its state is wanted further on. -/
theorem ro_runp (n : Nat) (ks bs : List Nat) (E1 : Env) (h : evalFin P N ops (rest.take n) E ks bs = some E1) (k : RegOk P N ops (rest.drop n) E1 E') : RegOk P N ops rest E E' := by
  cases h2 : evalRun P N ops (rest.take n) E with
  | none => rw [evalFin, h2] at h; cases h
  | some E2 =>
    rw [evalFin, h2] at h
    exact ro_run n E2 h2 (ro_le (le_pick ks bs h) k)
end
end Go.Proofs.Ytnhnanbgphdaeaa
