/-
  Regions, branches, loops and whole functions, told by what is known of the slots and of the boxes. No condition.
-/
import Derived.Test.YtnhnanbgphdaeaaEnv
namespace Go.Proofs.Ytnhnanbgphdaeaa
open Go Go.RowKit

def okW : List Nat → Bool
  | [] => true
  | c :: l => Nat.ble 2 c && okW l
theorem okW_spec {W : List Nat} (h : okW W = true) : ∀ c ∈ W, 2 ≤ c := by
  induction W with
  | nil => intro c hc; cases hc
  | cons d W ih =>
    simp only [okW, Bool.and_eq_true] at h
    intro c hc
    cases hc with
    | head => exact Nat.le_of_ble_eq_true h.1
    | tail _ hc => exact ih h.2 c hc
def okDst (N : Nat) : Option Nat → Bool
  | none => true
  | some d => Nat.blt d N
theorem okDst_spec {N : Nat} {d : Option Nat} (h : okDst N d = true) : ∀ k, d = some k → k < N := by
  rintro k rfl
  exact Nat.lt_of_succ_le (Nat.le_of_ble_eq_true h)

def keepSl (W V : List Nat) (l : List (Nat × AV)) : List (Nat × AV) := l.filter fun p => p.2.free W V
def AV.clear (W V : List Nat) (a : AV) : AV := match a.free W V with
  | true => a
  | false => .any
def Bx.clear (W V : List Nat) (b : Bx) : Bx := ⟨b.lab, b.typ, b.avs.map (AV.clear W V)⟩
def keepBx (W V : List Nat) (l : List Bx) : List Bx := (l.filter fun b => !memN b.lab W && !memN b.lab V).map (Bx.clear W V)
def Env.step (W V : List Nat) (d : Option Nat) (av : AV) (bs : List Bx) (E : Env) : Env := ⟨putSl d av (keepSl W V E.sl), bs ++ keepBx W V E.bx⟩

section
variable {W V : List Nat} {γ γ' : Gh} {w w' : World} {cx : Cx} {a : Act}
theorem Base.tr (h : Base cx γ a w) (t : Tr W V γ w γ' w') (hW : okW W = true) : Base cx γ' a w' := by
  have hW := okW_spec hW
  have hlt : ∀ b, b < cx.w0.heap.size → b < w.heap.size := fun b hb => Nat.lt_of_lt_of_le hb h.below.size
  have hn : ∀ b, b < cx.w0.heap.size → γ.col b ∉ W := fun b hb hc => by
    have := hW _ hc
    rcases h.old b hb with ⟨h0, _⟩ | h0 <;> omega
  refine ⟨h.defers, h.size, ⟨t.os.trans h.below.os, t.tape.trans h.below.tape, t.output.trans h.below.output, Nat.le_trans h.below.size t.size, fun b hb => ?_⟩, fun b hb => ?_⟩
  · rw [t.block b (hlt b hb) (hn b hb)]; exact h.below.block b hb
  · rw [t.col b (hlt b hb)]; exact h.old b hb
theorem Sl.tr {l : List (Nat × AV)} (h : Sl γ w a l) (t : Tr W V γ w γ' w') : Sl γ' w' a (keepSl W V l) := by
  intro p hp
  simp only [keepSl, List.mem_filter] at hp
  obtain ⟨h1, h2⟩ := AV.free_spec hp.2
  exact p.2.keep t h1 h2 (h p hp.1)
theorem relL_clear {l : List AV} {vs : List Value} (h : AV.relL γ w l vs) (t : Tr W V γ w γ' w') : AV.relL γ' w' (l.map (AV.clear W V)) vs := by
  induction l generalizing vs with
  | nil => exact h
  | cons b l ih =>
    obtain ⟨v, vs', rfl, h1, h2⟩ := h
    refine ⟨v, vs', rfl, ?_, ih h2⟩
    unfold AV.clear
    cases hf : b.free W V with
    | true => obtain ⟨f1, f2⟩ := AV.free_spec hf; exact b.keep t f1 f2 h1
    | false => trivial
theorem not_memN {c : Nat} {l : List Nat} (h : (!memN c l) = true) : c ∉ l := fun hc => by rw [memN_iff.2 hc] at h; cases h
theorem Bxs.tr {l : List Bx} (h : Bxs γ w l) (t : Tr W V γ w γ' w') : Bxs γ' w' (keepBx W V l) := by
  intro b hb
  simp only [keepBx, List.mem_map, List.mem_filter, Bool.and_eq_true] at hb
  obtain ⟨b, ⟨hm, h1, h2⟩, rfl⟩ := hb
  obtain ⟨hc, cs, hh, hr, h1c⟩ := h b hm
  have hlt : γ.box b.lab < w.heap.size := (Array.getElem?_eq_some_iff.1 hh).1
  refine ⟨?_, cs, ?_, relL_clear hr t, h1c⟩
  · show γ'.col (γ'.box b.lab) = b.lab
    rw [t.box _ (not_memN h2), t.col _ hlt]; exact hc
  · show w'.heap[γ'.box b.lab]? = _
    rw [t.box _ (not_memN h2), t.block _ hlt (by rw [hc]; exact not_memN h1)]; exact hh
end

/-- What one operation asks of its operands and of boxes, and what it leaves. -/
def LocalOk (P : Program) (o : Oper) (ins : List (Operand × AV)) (bxs : List Bx) (W V : List Nat) (av : AV) (bs : List Bx) : Prop :=
  ∀ (γ : Gh) (a : Act) (w : World), (∀ p ∈ ins, p.2.rel γ w (a.eval p.1)) → Bxs γ w bxs →
    ∀ (next : Act → World → Prop) (Q : Exit → Act → World → Prop), (∀ γ' w' v, Tr W V γ w γ' w' → av.rel γ' w' v → Bxs γ' w' bs → next (a.put o.dst v) w') → o.wp P a w next Q
theorem localOk_value {P : Program} {o : Oper} {ins : List (Operand × AV)} {bxs bs : List Bx} {W V : List Nat} {av : AV}
    (h : ∀ (γ : Gh) (ev : Operand → Value) (w : World), (∀ p ∈ ins, p.2.rel γ w (ev p.1)) → Bxs γ w bxs →
      ∃ v w' γ', (execOp ev o).run P w = .ok (.value v) w' ∧ Tr W V γ w γ' w' ∧ av.rel γ' w' v ∧ Bxs γ' w' bs) : LocalOk P o ins bxs W V av bs := by
  intro γ a w hi hb next Q hk
  obtain ⟨v, w', γ', hr, ht, hv, hb'⟩ := h γ a.eval w hi hb
  unfold Oper.wp
  rw [hr]
  exact hk γ' w' v ht hv hb'

def HasIns (E : Env) : List (Operand × AV) → Prop
  | [] => True
  | p :: l => E.opd p.1 = some p.2 ∧ HasIns E l
theorem HasIns.rel {E : Env} {l : List (Operand × AV)} (h : HasIns E l) {γ : Gh} {w : World} {a : Act} (hs : Sl γ w a E.sl) : ∀ p ∈ l, p.2.rel γ w (a.eval p.1) := by
  induction l with
  | nil => intro p hp; cases hp
  | cons q l ih =>
    intro p hp
    cases hp with
    | head => exact Env.opd_rel h.1 hs
    | tail _ hp => exact ih h.2 p hp
def HasBx (E : Env) : List Bx → Prop
  | [] => True
  | b :: l => findBx E.bx b.lab = some b ∧ HasBx E l
theorem HasBx.rel {E : Env} {l : List Bx} (h : HasBx E l) {γ : Gh} {w : World} (hs : Bxs γ w E.bx) : Bxs γ w l := by
  induction l with
  | nil => intro p hp; cases hp
  | cons q l ih =>
    intro p hp
    cases hp with
    | head => exact hs _ (findBx_spec h.1).1
    | tail _ hp => exact ih h.2 p hp

def guardOf (ops : Array Oper) (E : Env) (o : Oper) : Option Bool :=
  match o.guard with
  | none => some true
  | some (j, want) => match ops.toList[j]? with
    | some g => match g.dst with
      | some t => match lookup E.sl t, want with
        | some (.lf (.bool true)), true => some true
        | some (.lf (.bool false)), false => some true
        | some (.lf (.bool true)), false => some false
        | some (.lf (.bool false)), true => some false
        | some (.tup []), _ => some false
        | _, _ => none
      | none => none
    | none => none
theorem guardOf_spec {ops : Array Oper} {E : Env} {o : Oper} {b : Bool} (h : guardOf ops E o = some b) {γ : Gh} {w : World} {a : Act} (hs : Sl γ w a E.sl) : Region.wanted o (yielded ops a.tmps) = b := by
  unfold guardOf at h
  unfold Region.wanted
  split at h
  · rename_i hg; rw [hg]; cases h; rfl
  · rename_i j want hg
    rw [hg]
    split at h
    · rename_i g hj
      split at h
      · rename_i t ht
        have key : ∀ c, lookup E.sl t = some (.lf (.bool c)) → yielded ops a.tmps j = some c := fun c hc => by
          have hv := lf_bool (hs _ (lookup_mem hc))
          simp only at hv
          have hj' : ops[j]? = some g := by rw [← Array.getElem?_toList]; exact hj
          have htm : a.tmps[t]? = some (.bool c) := by
            rw [Array.getD_eq_getD_getElem?] at hv
            cases he : a.tmps[t]? with
            | none => rw [he] at hv; cases hv
            | some u => rw [he] at hv; simp at hv; rw [hv]
          simp [yielded, hj', ht, htm]
        split at h
        · rename_i hl; cases h; simp only [key _ hl]; rfl
        · rename_i hl; cases h; simp only [key _ hl]; rfl
        · rename_i hl; cases h; simp only [key _ hl]; rfl
        · rename_i hl; cases h; simp only [key _ hl]; rfl
        · rename_i hl
          cases h
          obtain ⟨vs, hv, hL⟩ := hs _ (lookup_mem hl)
          have hL' : vs = [] := hL
          subst hL'
          have hj' : ops[j]? = some g := by rw [← Array.getElem?_toList]; exact hj
          have : yielded ops a.tmps j = none := by
            rw [Array.getD_eq_getD_getElem?] at hv
            cases he : a.tmps[t]? with
            | none => simp [yielded, hj', ht, he]
            | some u => rw [he] at hv; simp at hv; simp [yielded, hj', ht, he, hv]
          simp only [this]
          rfl
        · cases h
      · cases h
    · cases h
/-- What was passed over. -/
theorem Sl.put_undef {γ : Gh} {w : World} {a : Act} {l : List (Nat × AV)} (h : Sl γ w a l) (d : Option Nat) : Sl γ w (a.put d undef) (putSl d (.tup []) l) := by
  cases d with
  | none => exact h
  | some d =>
    intro p hp
    simp only [putSl, List.mem_cons] at hp
    rcases hp with rfl | hp
    · refine ⟨[], ?_, rfl⟩
      by_cases hd : d < a.tmps.size
      · exact getD_put_same hd
      · simp only [Act.put, Array.getD_eq_getD_getElem?]
        rw [Array.getElem?_eq_none (by simp; omega)]
        rfl
    · have hp' := List.mem_filter.1 hp
      rw [getD_put (fun e => by have := hp'.2; rw [e] at this; simp at this)]
      exact h p hp'.1

/-- From here on in a region. -/
def RegOk (P : Program) (N : Nat) (ops : Array Oper) (rest : List Oper) (E E' : Env) : Prop :=
  ∀ (cx : Cx) (a : Act) (w : World) (Q : Exit → Act → World → Prop), cx.n = N → Sx cx E a w → (∀ a' w', Sx cx E' a' w' → Q .normal a' w') → wpList P ops Q rest a w

section
variable {P : Program} {N : Nat} {ops : Array Oper} {rest : List Oper} {E E1 E' : Env} {o : Oper}
theorem ro_nil : RegOk P N ops [] E E := fun _ _ _ _ _ hs hQ => hQ _ _ hs
theorem ro_step {ins : List (Operand × AV)} {bxs bs : List Bx} {W V : List Nat} {av : AV} (hg : guardOf ops E o = some true) (hl : LocalOk P o ins bxs W V av bs) (hi : HasIns E ins) (hb : HasBx E bxs)
    (hW : okW W = true) (hd : okDst N o.dst = true) (k : RegOk P N ops rest (E.step W V o.dst av bs) E') : RegOk P N ops (o :: rest) E E' := by
  intro cx a w Q hn hs hQ
  obtain ⟨γ, hB, hS, hX⟩ := hs
  unfold wpList
  rw [if_pos (guardOf_spec hg hS)]
  refine .inl (hl γ a w (hi.rel hS) (hb.rel hX) _ Q fun γ' w' v ht hv hbs => ?_)
  refine k cx _ _ Q hn ⟨γ', (hB.tr ht hW).put _ _, ?_, ?_⟩ hQ
  · exact (hS.tr ht).put (fun k hk => by rw [hB.size, hn]; exact okDst_spec hd k hk) hv
  · intro b hb'
    simp only [Env.step, List.mem_append] at hb'
    rcases hb' with h | h
    · exact hbs b h
    · exact hX.tr ht b h
theorem ro_skip (hg : guardOf ops E o = some false) (k : RegOk P N ops rest ⟨putSl o.dst (.tup []) E.sl, E.bx⟩ E') : RegOk P N ops (o :: rest) E E' := by
  intro cx a w Q hn hs hQ
  obtain ⟨γ, hB, hS, hX⟩ := hs
  unfold wpList
  rw [if_neg (by rw [guardOf_spec hg hS]; exact Bool.false_ne_true)]
  exact k cx _ _ Q hn ⟨γ, hB.put _ _, hS.put_undef _, hX⟩ hQ
def evalRun (P : Program) (N : Nat) (ops : Array Oper) : List Oper → Env → Option Env
  | [], E => some E
  | o :: rest, E => match guardOf ops E o with
    | some true => match okDst N o.dst, evalOp P E.opd E.bx o.op with
      | true, some av => evalRun P N ops rest ⟨putSl o.dst av E.sl, E.bx⟩
      | _, _ => none
    | some false => evalRun P N ops rest ⟨putSl o.dst (.tup []) E.sl, E.bx⟩
    | none => none
theorem ro_run' : ∀ (l : List Oper) (rest : List Oper) (E : Env), evalRun P N ops l E = some E1 → RegOk P N ops rest E1 E' → RegOk P N ops (l ++ rest) E E'
  | [], rest, E, h, k => by cases h; exact k
  | o :: l, rest, E, h, k => by
    rw [evalRun] at h
    split at h
    · rename_i hg
      split at h
      · rename_i av hd he
        intro cx a w Q hn hs hQ
        obtain ⟨γ, hB, hS, hX⟩ := hs
        obtain ⟨v, hr, hv⟩ := evalOp_run he (γ := γ) (w := w) (ev := a.eval) (fun x _ av hx => Env.opd_rel hx hS) hX
        rw [List.cons_append]
        unfold wpList
        rw [if_pos (guardOf_spec hg hS)]
        refine .inl ?_
        unfold Oper.wp
        rw [hr]
        exact ro_run' l rest _ h k cx _ _ Q hn ⟨γ, hB.put _ _, hS.put (fun k hk => by rw [hB.size, hn]; exact okDst_spec hd k hk) hv, hX⟩ hQ
      · cases h
    · rename_i hg
      rw [List.cons_append]
      exact ro_skip hg (ro_run' l rest _ h k)
    · cases h
theorem ro_run (n : Nat) (E1 : Env) (h : evalRun P N ops (rest.take n) E = some E1) (k : RegOk P N ops (rest.drop n) E1 E') : RegOk P N ops rest E E' := by
  have := ro_run' _ _ _ h k
  rwa [List.take_append_drop] at this
/-- A test that is not known: both ways. -/
theorem ro_split (t : Nat) (b : Bool) (hl : lookup E.sl t = some (.lf (.bool b))) (h1 : b = true → RegOk P N ops rest ⟨putSl (some t) (.lf (.bool true)) E.sl, E.bx⟩ E')
    (h0 : b = false → RegOk P N ops rest ⟨putSl (some t) (.lf (.bool false)) E.sl, E.bx⟩ E') : RegOk P N ops rest E E' := by
  intro cx a w Q hn hs hQ
  obtain ⟨γ, hB, hS, hX⟩ := hs
  have hv := hS _ (lookup_mem hl)
  have hput : ∀ c, b = c → Sl γ w a (putSl (some t) (.lf (.bool c)) E.sl) := by
    rintro c rfl p hp
    simp only [putSl, List.mem_cons] at hp
    rcases hp with rfl | hp
    · exact hv
    · exact hS p (List.mem_filter.1 hp).1
  cases hb : b with
  | true => exact h1 hb cx a w Q hn ⟨γ, hB, hput _ hb, hX⟩ hQ
  | false => exact h0 hb cx a w Q hn ⟨γ, hB, hput _ hb, hX⟩ hQ
/-- What is known may be told otherwise. -/
def AV.le (a b : AV) : Prop := ∀ γ w v, a.rel γ w v → b.rel γ w v
theorem ro_as (t : Nat) {av : AV} (av' : AV) (hl : lookup E.sl t = some av) (hle : av.le av') (k : RegOk P N ops rest ⟨putSl (some t) av' E.sl, E.bx⟩ E') : RegOk P N ops rest E E' := by
  intro cx a w Q hn hs hQ
  obtain ⟨γ, hB, hS, hX⟩ := hs
  refine k cx a w Q hn ⟨γ, hB, fun p hp => ?_, hX⟩ hQ
  simp only [putSl, List.mem_cons] at hp
  rcases hp with rfl | hp
  · exact hle γ w _ (hS _ (lookup_mem hl))
  · exact hS p (List.mem_filter.1 hp).1
def subSl (l : List (Nat × AV)) : List (Nat × AV) → Prop
  | [] => True
  | p :: r => lookup l p.1 = some p.2 ∧ subSl l r
theorem subSl_mem {l r : List (Nat × AV)} (h : subSl l r) : ∀ p ∈ r, p ∈ l := by
  induction r with
  | nil => intro p hp; cases hp
  | cons q r ih =>
    intro p hp
    cases hp with
    | head => exact lookup_mem h.1
    | tail _ hp => exact ih h.2 p hp
def pickSl (l : List (Nat × AV)) : List Nat → Option (List (Nat × AV))
  | [] => some []
  | k :: r => match lookup l k, pickSl l r with
    | some a, some r' => some ((k, a) :: r')
    | _, _ => none
theorem pickSl_mem {l : List (Nat × AV)} : ∀ (ks : List Nat) (r : List (Nat × AV)), pickSl l ks = some r → ∀ p ∈ r, p ∈ l
  | [], r, h, p, hp => by cases h; cases hp
  | k :: ks, r, h, p, hp => by
    rw [pickSl] at h
    split at h
    · rename_i a r' hl hr
      cases h
      cases hp with
      | head => exact lookup_mem hl
      | tail _ hp => exact pickSl_mem ks _ hr p hp
    · cases h
def pickBx (l : List Bx) : List Nat → Option (List Bx)
  | [] => some []
  | k :: r => match findBx l k, pickBx l r with
    | some a, some r' => some (a :: r')
    | _, _ => none
theorem pickBx_mem {l : List Bx} : ∀ (ks : List Nat) (r : List Bx), pickBx l ks = some r → ∀ p ∈ r, p ∈ l
  | [], r, h, p, hp => by cases h; cases hp
  | k :: ks, r, h, p, hp => by
    rw [pickBx] at h
    split at h
    · rename_i a r' hl hr
      cases h
      cases hp with
      | head => exact (findBx_spec hl).1
      | tail _ hp => exact pickBx_mem ks _ hr p hp
    · cases h
def Env.pick (E : Env) (ks bs : List Nat) : Option Env :=
  match pickSl E.sl ks, pickBx E.bx bs with
  | some s, some b => some ⟨s, b⟩
  | _, _ => none
theorem Sx.pick {cx : Cx} {a : Act} {w : World} {ks bs : List Nat} (h : E.pick ks bs = some E') (hs : Sx cx E a w) : Sx cx E' a w := by
  unfold Env.pick at h
  split at h
  · rename_i s b h1 h2
    cases h
    obtain ⟨γ, hB, hS, hX⟩ := hs
    exact ⟨γ, hB, fun p hp => hS p (pickSl_mem _ _ h1 p hp), fun p hp => hX p (pickBx_mem _ _ h2 p hp)⟩
  · cases h
theorem ro_end (ks bs : List Nat) (h : E.pick ks bs = some E') : RegOk P N ops [] E E' := fun _ _ _ _ _ hs hQ => hQ _ _ (hs.pick h)
/-- A run to the region's end. -/
theorem ro_fin (ks bs : List Nat) (E1 : Env) (h : evalRun P N ops rest E = some E1) (hp : E1.pick ks bs = some E') : RegOk P N ops rest E E' := by
  have := ro_run' rest [] E h (ro_end ks bs hp)
  rwa [List.append_nil] at this
def evalFin (P : Program) (N : Nat) (ops : Array Oper) (rest : List Oper) (E : Env) (ks bs : List Nat) : Option Env := match evalRun P N ops rest E with
  | some E1 => E1.pick ks bs
  | none => none
theorem ro_fin' (ks bs : List Nat) (h : evalFin P N ops rest E ks bs = some E') : RegOk P N ops rest E E' := by
  unfold evalFin at h
  split at h
  · rename_i E1 h1; exact ro_fin ks bs E1 h1 h
  · cases h
end

/-! ### code -/

/-- From states in S the code comes to Q. -/
def J (P : Program) (c : Code) (S : Act → World → Prop) (Q : Exit → Act → World → Prop) : Prop := ∀ a w, S a w → c.wp P Q a w

section
variable {P : Program} {S S' M : Act → World → Prop} {Q Q' : Exit → Act → World → Prop} {x y c : Code}
theorem J.mono (h : J P c S Q) (hS : ∀ a w, S' a w → S a w) (hQ : ∀ e a w, Q e a w → Q' e a w) : J P c S' Q' := fun a w hs => wp_mono (h a w (hS a w hs)) hQ
theorem J.post (h : J P c S Q) (hQ : ∀ e a w, Q e a w → Q' e a w) : J P c S Q' := h.mono (fun _ _ h => h) hQ
theorem j_seq (M : Act → World → Prop) (h : J P x S (Exit.then M Q)) (k : J P y M Q) : J P (.seq x y) S Q :=
  fun a w hs => wp_seq (wp_mono (h a w hs) fun e a w hq => by cases e <;> first | exact k a w hq | exact hq)
theorem j_skip : J P .skip S (Exit.then S Q) := fun _ _ hs => wp_skip hs
theorem j_skip' (h : ∀ a w, S a w → Q .normal a w) : J P .skip S Q := fun a w hs => wp_skip (h a w hs)
theorem j_ret (h : ∀ a w, S a w → Q .ret a w) : J P .ret S Q := fun a w hs => wp_ret (h a w hs)
theorem j_exit {id : Nat} (h : ∀ a w, S a w → Q (.exit id) a w) : J P (.exit id) S Q := fun a w hs => wp_exit (h a w hs)
theorem j_block {id : Nat} (h : J P c S (Exit.inBlock id Q)) : J P (.block id c) S Q := fun a w hs => wp_block (h a w hs)
theorem j_cond {cx : Cx} {E : Env} {o : Operand} (b : Bool) (hl : E.opd o = some (.lf (.bool b))) (h1 : b = true → J P x (Sx cx E) Q) (h0 : b = false → J P y (Sx cx E) Q) : J P (.cond o x y) (Sx cx E) Q := by
  intro a w hs
  have hs' := hs
  obtain ⟨γ, hB, hS, hX⟩ := hs'
  have hv := lf_bool (Env.opd_rel hl hS)
  cases b with
  | true => exact wp_cond_true hv (h1 rfl a w hs)
  | false => exact wp_cond_false hv (h0 rfl a w hs)
theorem j_region {cx : Cx} {E E' : Env} {id : Nat} {l : List Oper} (h : RegOk P cx.n l.toArray l E E') : J P (.region id l.toArray false) (Sx cx E) (Exit.then (Sx cx E') Q) :=
  fun a w hs => wp_region_lit (h cx a w _ rfl hs fun _ _ hs' => hs')
theorem j_region' {cx : Cx} {E E' : Env} {id : Nat} {l : List Oper} (h : RegOk P cx.n l.toArray l E E') (hQ : ∀ a w, Sx cx E' a w → Q .normal a w) : J P (.region id l.toArray false) (Sx cx E) Q :=
  fun a w hs => wp_region_lit (h cx a w _ rfl hs hQ)
/-- A loop: each round's outcome is the plain function's. -/
theorem j_loop {σ ρ : Type} (body : σ → Option (σ ⊕ ρ)) (Es : σ → Act → World → Prop) (R : ρ → Exit → Act → World → Prop)
    (hb : ∀ s o, body s = some o → J P c (Es s) (match o with
      | .inl s' => fun e a w => e = .normal ∧ Es s' a w
      | .inr r => fun e a w => e ≠ .normal ∧ R r e a w))
    {s : σ} {r : ρ} (h : whileO body s = some r) (hS : ∀ a w, S a w → Es s a w) (hQ : ∀ e a w, R r e a w → Q e a w) : J P (.loop c) S Q := by
  obtain ⟨n, hn⟩ := iterO_of h
  have key : ∀ n s, iterO body n s = some r → ∀ a w, Es s a w → Code.rounds P c (R r) n a w := by
    intro n
    induction n with
    | zero => intro s hn; cases hn
    | succ n ih =>
      intro s hn a w hs
      rw [rounds_succ]
      rw [iterO] at hn
      split at hn
      · cases hn
      · rename_i s' hbs
        refine wp_mono (hb s _ hbs a w hs) fun e a' w' hq => ?_
        obtain ⟨rfl, hE⟩ := hq
        exact ih s' hn a' w' hE
      · rename_i r' hbs
        cases hn
        refine wp_mono (hb s _ hbs a w hs) fun e a' w' hq => ?_
        cases e <;> first | exact absurd rfl hq.1 | exact hq.2
  exact fun a w hs => wp_mono (wp_loop_rounds n (key n s hn a w (hS a w hs))) hQ
end
end Go.Proofs.Ytnhnanbgphdaeaa
