/-
  The same rules in short forms, for texts that a program writes. No condition.
-/
import Derived.Test.YtnhnanbgphdaeaaMore
namespace Go.Proofs.Ytnhnanbgphdaeaa
open Go Go.RowKit

abbrev kI (x : Int) : AV := .lf (.int .i64 x)
abbrev kU (x : Int) : AV := .lf (.int .u64 x)
abbrev k8 (x : Int) : AV := .lf (.int .u8 x)
abbrev kB (x : Bool) : AV := .lf (.bool x)
abbrev kS (x : List UInt8) : AV := .lf (.str x)
abbrev kN : AV := .lf (.val (.slice none 0 0))
theorem bnd {α β : Type} {x : Option α} {f : α → Option β} {r : β} (h : (x >>= f) = some r) : ∃ a, x = some a ∧ f a = some r := bind_some' h
theorem sj {α : Type} {a b : α} (h : some a = some b) : a = b := Option.some.inj h
def Env.keys (E : Env) : List Nat := E.sl.map (·.1)
def Env.labs (E : Env) : List Nat := E.bx.map (·.lab)
def nthO {α : Type} : List α → Nat → Option α
  | [], _ => none
  | x :: _, 0 => some x
  | _ :: l, n + 1 => nthO l n
theorem nthO_drop {α : Type} : ∀ {l : List α} {n : Nat} {x : α}, nthO l n = some x → l.drop n = x :: l.drop (n + 1)
  | [], _, _, h => by cases h
  | y :: l, 0, x, h => by cases h; rfl
  | y :: l, n + 1, x, h => by
    have := nthO_drop (l := l) (n := n) h
    simpa using this
def opdsOf (E : Env) : List Operand → Option (List AV)
  | [] => some []
  | x :: l => match E.opd x, opdsOf E l with
    | some a, some r => some (a :: r)
    | _, _ => none
theorem opdsOf_has {E : Env} : ∀ {ins : List (Operand × AV)}, opdsOf E (ins.map (·.1)) = some (ins.map (·.2)) → HasIns E ins
  | [], _ => trivial
  | p :: l, h => by
    simp only [List.map_cons, opdsOf] at h
    split at h
    · rename_i a r h1 h2
      simp only [Option.some.injEq, List.cons.injEq] at h
      obtain ⟨rfl, rfl⟩ := h
      exact ⟨h1, opdsOf_has h2⟩
    · cases h
theorem pickBx_has {E : Env} : ∀ {bxs : List Bx}, pickBx E.bx (bxs.map (·.lab)) = some bxs → HasBx E bxs
  | [], _ => trivial
  | b :: l, h => by
    simp only [List.map_cons, pickBx] at h
    split at h
    · rename_i a r h1 h2
      simp only [Option.some.injEq, List.cons.injEq] at h
      obtain ⟨rfl, rfl⟩ := h
      exact ⟨h1, pickBx_has h2⟩
    · cases h
/-- n operations that are reckoned, one with a law of its own, and what of the state is wanted behind it. -/
def stepO (P : Program) (N : Nat) (ops : Array Oper) (rest : List Oper) (n : Nat) (o : Oper) (E : Env) (xs : List Operand) (bl W V : List Nat) (av : AV) (bs : List Bx) : Option (List AV × List Bx × Env) :=
  match evalRun P N ops (rest.take n) E with
  | some E0 => match guardOf ops E0 o, okW W && okDst N o.dst, opdsOf E0 xs, pickBx E0.bx bl with
    | some true, true, some as, some bxs => some (as, bxs, E0.step W V o.dst av bs)
    | _, _, _, _ => none
  | none => none
def stepP (P : Program) (N : Nat) (ops : Array Oper) (rest : List Oper) (n : Nat) (o : Oper) (E : Env) (xs : List Operand) (bl W V : List Nat) (av : AV) (bs : List Bx) (E1 : Env) : Option (List AV × List Bx × Env) :=
  match stepO P N ops rest n o E xs bl W V av bs with
  | some (as, bxs, E2) => match E2.pick E1.keys E1.labs with
    | some E3 => some (as, bxs, E3)
    | none => none
  | none => none
def stepF (P : Program) (N : Nat) (ops : Array Oper) (rest : List Oper) (n : Nat) (o : Oper) (E : Env) (xs : List Operand) (bl W V : List Nat) (av : AV) (bs : List Bx) (E1 : Env) : Option (List AV × List Bx × Env) :=
  match stepO P N ops rest n o E xs bl W V av bs with
  | some (as, bxs, E2) => match evalFin P N ops (rest.drop (n + 1)) E2 E1.keys E1.labs with
    | some E3 => some (as, bxs, E3)
    | none => none
  | none => none
section
variable {P : Program} {N : Nat} {ops : Array Oper} {rest : List Oper} {E E' : Env} {o : Oper} {ins : List (Operand × AV)} {bxs : List Bx} {W V : List Nat} {av : AV} {bs : List Bx}
theorem stepO_ok {n : Nat} {as : List AV} {bx0 : List Bx} {E2 : Env} (ho : nthO rest n = some o) (hl : LocalOk P o ins bxs W V av bs) (ha : ins.map (·.2) = as) (hb : bxs = bx0)
    (h : stepO P N ops rest n o E (ins.map (·.1)) (bxs.map (·.lab)) W V av bs = some (as, bx0, E2)) (k : RegOk P N ops (rest.drop (n + 1)) E2 E') : RegOk P N ops rest E E' := by
  subst ha hb
  unfold stepO at h
  split at h
  · rename_i E0 h0
    refine ro_run n E0 h0 ?_
    rw [nthO_drop ho]
    split at h
    · rename_i as' bxs' h1 h2 h3 h4
      simp only [Option.some.injEq, Prod.mk.injEq] at h
      obtain ⟨rfl, rfl, rfl⟩ := h
      simp only [Bool.and_eq_true] at h2
      exact ro_step h1 hl (opdsOf_has h3) (pickBx_has h4) h2.1 h2.2 k
    · cases h
  · cases h
theorem ro_ob (n : Nat) (as : List AV) (bx0 : List Bx) (E1 : Env) (ho : nthO rest n = some o) (hl : LocalOk P o ins bxs W V av bs) (ha : ins.map (·.2) = as) (hb : bxs = bx0)
    (h : stepP P N ops rest n o E (ins.map (·.1)) (bxs.map (·.lab)) W V av bs E1 = some (as, bx0, E1)) (k : RegOk P N ops (rest.drop (n + 1)) E1 E') : RegOk P N ops rest E E' := by
  unfold stepP at h
  split at h
  · rename_i as' bxs' E2 h0
    split at h
    · rename_i E3 h3
      simp only [Option.some.injEq, Prod.mk.injEq] at h
      obtain ⟨rfl, rfl, rfl⟩ := h
      exact stepO_ok ho hl ha hb h0 (ro_le (le_pick _ _ h3) k)
    · cases h
  · cases h
theorem ro_obz (n : Nat) (as : List AV) (bx0 : List Bx) (ho : nthO rest n = some o) (hl : LocalOk P o ins bxs W V av bs) (ha : ins.map (·.2) = as) (hb : bxs = bx0)
    (h : stepF P N ops rest n o E (ins.map (·.1)) (bxs.map (·.lab)) W V av bs E' = some (as, bx0, E')) : RegOk P N ops rest E E' := by
  unfold stepF at h
  split at h
  · rename_i as' bxs' E2 h0
    split at h
    · rename_i E3 h3
      simp only [Option.some.injEq, Prod.mk.injEq] at h
      obtain ⟨rfl, rfl, rfl⟩ := h
      exact stepO_ok ho hl ha hb h0 (ro_fin' _ _ h3)
    · cases h
  · cases h
theorem ro_o (n : Nat) (as : List AV) (E1 : Env) (ho : nthO rest n = some o) (hl : LocalOk P o ins [] W V av bs) (ha : ins.map (·.2) = as)
    (h : stepP P N ops rest n o E (ins.map (·.1)) [] W V av bs E1 = some (as, [], E1)) (k : RegOk P N ops (rest.drop (n + 1)) E1 E') : RegOk P N ops rest E E' := ro_ob n as [] E1 ho hl ha rfl h k
theorem ro_oz (n : Nat) (as : List AV) (ho : nthO rest n = some o) (hl : LocalOk P o ins [] W V av bs) (ha : ins.map (·.2) = as)
    (h : stepF P N ops rest n o E (ins.map (·.1)) [] W V av bs E' = some (as, [], E')) : RegOk P N ops rest E E' := ro_obz n as [] ho hl ha rfl h
theorem ro_z (h : evalFin P N ops rest E E'.keys E'.labs = some E') : RegOk P N ops rest E E' := ro_fin' _ _ h
theorem ro_sp (n t : Nat) (b : Bool) (E1 : Env) (h : evalFin P N ops (rest.take n) E E1.keys E1.labs = some E1) (hl : lookup E1.sl t = some (.lf (.bool b)))
    (h1 : b = true → RegOk P N ops (rest.drop n) ⟨putSl (some t) (.lf (.bool true)) E1.sl, E1.bx⟩ E') (h0 : b = false → RegOk P N ops (rest.drop n) ⟨putSl (some t) (.lf (.bool false)) E1.sl, E1.bx⟩ E') : RegOk P N ops rest E E' :=
  ro_runp n _ _ E1 h (ro_split t b hl h1 h0)
def withB (t : Nat) (b : Bool) (E : Env) : Env := ⟨E.sl.map fun p => match Nat.beq p.1 t with
  | true => (p.1, .lf (.bool b))
  | false => p, E.bx⟩
/-- To the region's end, where one bool is told otherwise. -/
theorem ro_zb (t : Nat) (b b' : Bool) (hb : b = b') (hE : withB t b' E' = E') (h : evalFin P N ops rest E E'.keys E'.labs = some (withB t b E')) : RegOk P N ops rest E E' := by
  subst hb
  rw [hE] at h
  exact ro_fin' _ _ h
theorem ro_pk (n : Nat) (E1 : Env) (h : evalFin P N ops (rest.take n) E E1.keys E1.labs = some E1) (k : RegOk P N ops (rest.drop n) E1 E') : RegOk P N ops rest E E' := ro_runp n _ _ E1 h k
theorem ro_pe (E1 : Env) (h : evalFin P N ops rest E E1.keys E1.labs = some E1) (k : EnvLe E1 E') : RegOk P N ops rest E E' := fun cx a w Q hn hs hQ => ro_fin' _ _ h cx a w Q hn hs fun a' w' hs' => hQ a' w' (k cx a' w' hs')
theorem le_px (E1 : Env) (h : E.pick E1.keys E1.labs = some E1) (k : EnvLe E1 E') : EnvLe E E' := (le_pick _ _ h).trans k
theorem le_rn (x o : Nat) (h : (Nat.ble 2 x && Nat.ble 2 o) = true) (k : EnvLe (E.ren x o) E') : EnvLe E E' := (le_ren x o h).trans k
theorem le_at (t : Nat) {av : AV} (av' : AV) (hl : lookup E.sl t = some av) (hle : av.le av') (k : EnvLe ⟨putSl (some t) av' E.sl, E.bx⟩ E') : EnvLe E E' := (le_as t av' hl hle).trans k
theorem le_bt (ℓ i : Nat) {b : Bx} {av : AV} (av' : AV) (hb : findBx E.bx ℓ = some b) (hi : b.avs[i]? = some av) (hle : av.le av') (k : EnvLe ⟨E.sl, ⟨b.lab, b.typ, b.avs.set i av'⟩ :: E.bx.filter fun c => !Nat.beq c.lab ℓ⟩ E') : EnvLe E E' := (le_asb ℓ i av' hb hi hle).trans k
theorem le_z (h : E.pick E'.keys E'.labs = some E') : EnvLe E E' := le_pick _ _ h
end
section
variable {P : Program} {l l' : List It} {cx : Cx} {E E1 : Env} {Q : Exit → Act → World → Prop} {id : Nat} {ops : List Oper}
theorem ji_rz (E' : Env) (h : evalFin P cx.n ops.toArray ops E E'.keys E'.labs = some E') (k : JI P l (Sx cx E') Q) : JI P (.c (.region id ops.toArray false) :: l) (Sx cx E) Q := ji_region E' (ro_z h) k
theorem je_ret (h : EnvLe E E1) : JI P (.c .ret :: l) (Sx cx E) fun e a w => e = .ret ∧ Sx cx E1 a w := ji_ret fun _ _ hs => ⟨rfl, h.go hs⟩
theorem je_ret' (h : EnvLe E E1) : JI P (.c .ret :: l) (Sx cx E) fun e a w => e ≠ .normal ∧ e = .ret ∧ Sx cx E1 a w := ji_ret fun _ _ hs => ⟨nofun, rfl, h.go hs⟩
theorem je_nil (h : EnvLe E E1) : JI P [] (Sx cx E) fun e a w => e = .normal ∧ Sx cx E1 a w := ji_nil fun _ _ hs => ⟨rfl, h.go hs⟩
theorem je_out (he : exitI id l = none) (h : EnvLe E E1) : JI P (.c (.exit id) :: l) (Sx cx E) fun e a w => e = .exit id ∧ Sx cx E1 a w := ji_exitO he fun _ _ hs => ⟨rfl, h.go hs⟩
theorem je_out' (he : exitI id l = none) (h : EnvLe E E1) : JI P (.c (.exit id) :: l) (Sx cx E) fun e a w => e ≠ .normal ∧ e = .exit id ∧ Sx cx E1 a w := ji_exitO he fun _ _ hs => ⟨nofun, rfl, h.go hs⟩
end
section
variable {P : Program} {l : List It} {cx : Cx} {E E1 : Env} {Q : Exit → Act → World → Prop} {c : Code}
theorem je_loop {σ ρ : Type} (body : σ → Option (σ ⊕ ρ)) (Es : σ → Env) (R : ρ → Exit → Act → World → Prop)
    (hb : ∀ s o, body s = some o → J P c (Sx cx (Es s)) (match o with
      | .inl s' => fun e a w => e = .normal ∧ Sx cx (Es s') a w
      | .inr r => fun e a w => e ≠ .normal ∧ R r e a w))
    {s : σ} {r : ρ} (h : whileO body s = some r) (hS : EnvLe E (Es s)) (k : ∀ e a w, R r e a w → behind P Q l e a w) : JI P (.c (.loop c) :: l) (Sx cx E) Q :=
  ji_loop body (fun s => Sx cx (Es s)) R hb h (fun _ _ hs => hS.go hs) k
theorem ke_ret (h : EnvLe E E1) : ∀ e a w, (e = .ret ∧ Sx cx E a w) → behind P (fun e a w => e = .ret ∧ Sx cx E1 a w) l e a w := k_ret fun _ _ hs => ⟨rfl, h.go hs⟩
theorem ke_ret' (h : EnvLe E E1) : ∀ e a w, (e = .ret ∧ Sx cx E a w) → behind P (fun e a w => e ≠ .normal ∧ e = .ret ∧ Sx cx E1 a w) l e a w := k_ret fun _ _ hs => ⟨nofun, rfl, h.go hs⟩
theorem ke_out {id : Nat} (he : exitI id l = none) (h : EnvLe E E1) : ∀ e a w, (e = .exit id ∧ Sx cx E a w) → behind P (fun e a w => e = .exit id ∧ Sx cx E1 a w) l e a w := k_exitO he fun _ _ hs => ⟨rfl, h.go hs⟩
theorem ke_out' {id : Nat} (he : exitI id l = none) (h : EnvLe E E1) : ∀ e a w, (e = .exit id ∧ Sx cx E a w) → behind P (fun e a w => e ≠ .normal ∧ e = .exit id ∧ Sx cx E1 a w) l e a w := k_exitO he fun _ _ hs => ⟨nofun, rfl, h.go hs⟩
theorem ji_go {Q : Exit → Act → World → Prop} (E' : Env) (h : JI P (flatC c []) (Sx cx E') Q) : J P c (Sx cx E') Q := ji_start h
end
end Go.Proofs.Ytnhnanbgphdaeaa
