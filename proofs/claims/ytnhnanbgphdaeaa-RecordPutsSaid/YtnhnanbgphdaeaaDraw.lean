/-
  Regions whose order is drawn: one walk in the order of the text serves every order, if no two operations that touch one thing may change places. Also: colors under other names. No condition.
-/
import Derived.Test.YtnhnanbgphdaeaaFlow
import Derived.Orders
namespace Go.Proofs.Ytnhnanbgphdaeaa
open Go Go.RowKit

inductive Fact where
  | sl (k : Nat) (a : AV)
  | bx (b : Bx)
def Fact.rel (γ : Gh) (a : Act) (w : World) : Fact → Prop
  | .sl k v => v.rel γ w (a.tmps.getD k undef)
  | .bx b => b.rel γ w
/-- What an operation of the region asks and leaves. -/
structure OpD where
  want : Bool
  req : List Fact
  W : List Nat
  V : List Nat
  dst : Option Nat
  prod : List Fact
def optIs (d : Option Nat) (k : Nat) : Bool := match d with
  | some x => Nat.beq x k
  | none => false
def OpD.kills (d : OpD) : Fact → Bool
  | .sl k a => optIs d.dst k || !a.free d.W d.V
  | .bx b => memN b.lab d.W || memN b.lab d.V || !(b.avs.all fun a => a.free d.W d.V)
def nextF (d : OpD) (L : List Fact) : List Fact := d.prod ++ L.filter fun f => !d.kills f

theorem relL_keep {γ γ' : Gh} {w w' : World} {W V : List Nat} {l : List AV} {vs : List Value} (h : AV.relL γ w l vs) (t : Tr W V γ w γ' w') (hf : (l.all fun a => a.free W V) = true) : AV.relL γ' w' l vs := by
  induction l generalizing vs with
  | nil => exact h
  | cons a l ih =>
    obtain ⟨v, vs', rfl, h1, h2⟩ := h
    simp only [List.all_cons, Bool.and_eq_true] at hf
    obtain ⟨f1, f2⟩ := AV.free_spec hf.1
    exact ⟨v, vs', rfl, a.keep t f1 f2 h1, ih h2 hf.2⟩
theorem Fact.keep {d : OpD} {f : Fact} {γ γ' : Gh} {a : Act} {w w' : World} (h : f.rel γ a w) (t : Tr d.W d.V γ w γ' w') (hk : d.kills f = false) (v : Value) : f.rel γ' (a.put d.dst v) w' := by
  cases f with
  | sl k av =>
    simp only [OpD.kills, Bool.or_eq_false_iff, Bool.not_eq_false'] at hk
    obtain ⟨f1, f2⟩ := AV.free_spec hk.2
    have hr := av.keep t f1 f2 h
    show av.rel γ' w' ((a.put d.dst v).tmps.getD k undef)
    cases hd : d.dst with
    | none => exact hr
    | some x =>
      rw [hd] at hk
      rw [getD_put (fun e => by rw [e] at hk; simp [optIs] at hk)]
      exact hr
  | bx b =>
    simp only [OpD.kills, Bool.or_eq_false_iff, Bool.not_eq_false'] at hk
    obtain ⟨⟨h1, h2⟩, h3⟩ := hk
    obtain ⟨hc, cs, hh, hL, hone⟩ := h
    have hlt : γ.box b.lab < w.heap.size := (Array.getElem?_eq_some_iff.1 hh).1
    have n1 : b.lab ∉ d.W := fun hm => by rw [memN_iff.2 hm] at h1; cases h1
    have n2 : b.lab ∉ d.V := fun hm => by rw [memN_iff.2 hm] at h2; cases h2
    refine ⟨by rw [t.box _ n2, t.col _ hlt]; exact hc, cs, ?_, relL_keep hL t h3, hone⟩
    rw [t.box _ n2, t.block _ hlt (by rw [hc]; exact n1)]; exact hh

/-- Of operation i, in whatever state its facts hold. -/
structure Does (P : Program) (ops : Array Oper) (cx : Cx) (i : Nat) (d : OpD) : Prop where
  oper : ∃ o, ops[i]? = some o ∧ o.dst = d.dst ∧ ∀ (γ : Gh) (a : Act) (w : World), Base cx γ a w → (∀ f ∈ d.req, f.rel γ a w) → Region.wanted o (yielded ops a.tmps) = d.want ∧
    (d.want = true → ∀ (next : Act → World → Prop) (Q : Exit → Act → World → Prop), (∀ γ' w' v, Tr d.W d.V γ w γ' w' → (∀ f ∈ d.prod, f.rel γ' (a.put d.dst v) w') → next (a.put d.dst v) w') → o.wp P a w next Q) ∧
    (d.want = false → ∀ f ∈ d.prod, f.rel γ (a.put d.dst undef) w)
  okW : okW d.W = true
  none_ : d.want = false → d.W = [] ∧ d.V = []

/-- What must have come ahead of each operation, as bits. -/
def maskOf (acc : List Nat) : List Edge → Nat
  | [] => 0
  | e :: l => match Region.binds .any e with
    | true => 2 ^ e.on ||| acc.getD e.on 0 ||| maskOf acc l
    | false => maskOf acc l
def masks : List Oper → List Nat → List Nat
  | [], acc => acc
  | o :: l, acc => masks l (acc ++ [maskOf acc o.after.toList])
/-- A set of operations that lacks nothing that must have come ahead. -/
def Closed (ops : Array Oper) (D : Nat → Prop) : Prop := ∀ (j : Nat) (o : Oper), ops[j]? = some o → D j → ∀ e ∈ o.after, Region.binds .any e = true → D e.on
theorem maskOf_spec {D : Nat → Prop} {acc : List Nat} (hacc : ∀ k m, acc[k]? = some m → D k → ∀ i, m.testBit i = true → D i) : ∀ (l : List Edge), (∀ e ∈ l, Region.binds .any e = true → D e.on) → ∀ i, (maskOf acc l).testBit i = true → D i
  | [], _, i, h => by simp [maskOf] at h
  | e :: l, hl, i, h => by
    rw [maskOf] at h
    split at h
    · rename_i hb
      have he := hl e List.mem_cons_self hb
      rw [Nat.testBit_or, Nat.testBit_or, Bool.or_eq_true, Bool.or_eq_true] at h
      rcases h with (h | h) | h
      · rw [Nat.testBit_two_pow] at h
        simp at h
        rw [← h]; exact he
      · cases hk : acc[e.on]? with
        | none => simp [List.getD, hk] at h
        | some m => simp [List.getD, hk] at h; exact hacc _ _ hk he i h
      · exact maskOf_spec hacc l (fun x hx => hl x (List.mem_cons_of_mem _ hx)) i h
    · exact maskOf_spec hacc l (fun x hx => hl x (List.mem_cons_of_mem _ hx)) i h
theorem masks_spec {ops : Array Oper} {D : Nat → Prop} (hD : Closed ops D) : ∀ (l : List Oper) (acc : List Nat), (∀ j, l[j]? = ops[acc.length + j]?) → (∀ k m, acc[k]? = some m → D k → ∀ i, m.testBit i = true → D i) →
    ∀ k m, (masks l acc)[k]? = some m → D k → ∀ i, m.testBit i = true → D i
  | [], acc, _, h => h
  | o :: l, acc, hl, h => by
    have ho : ops[acc.length]? = some o := by have := hl 0; simpa using this.symm
    refine masks_spec hD l _ (fun j => by have := hl (j + 1); simp at this; rw [this]; congr 1; simp; omega) fun k m hk hDk => ?_
    rw [List.getElem?_append] at hk
    split at hk
    · exact h k m hk hDk
    · rename_i hkl
      have hk0 : k - acc.length = 0 := by
        have := (List.getElem?_eq_some_iff.1 hk).1
        simp at this; omega
      rw [hk0] at hk
      simp at hk
      have hke : k = acc.length := by omega
      subst hke hk
      exact maskOf_spec h _ fun e he hb => hD _ o ho hDk e (by simpa using he) hb
def conflictB (di dj : OpD) : Bool := (di.req ++ di.prod).any dj.kills || (dj.req ++ dj.prod).any di.kills
/-- The walk in the order of the text. -/
def chainF : List OpD → List Fact → List (List Fact)
  | [], _ => []
  | d :: ds, L => L :: chainF ds (nextF d L)
def endF : List OpD → List Fact → List Fact
  | [], L => L
  | d :: ds, L => endF ds (nextF d L)

/-- Whence a fact comes. -/
def From (ds : List OpD) (L0 : List Fact) (n : Nat) (f : Fact) : Prop :=
  (f ∈ L0 ∧ ∀ j d, j < n → ds[j]? = some d → d.kills f = false) ∨ ∃ p dp, p < n ∧ ds[p]? = some dp ∧ f ∈ dp.prod ∧ ∀ j d, p < j → j < n → ds[j]? = some d → d.kills f = false
theorem from_next {ds : List OpD} {L0 : List Fact} {n : Nat} {d : OpD} (hd : ds[n]? = some d) {L : List Fact} (h : ∀ f ∈ L, From ds L0 n f) : ∀ f ∈ nextF d L, From ds L0 (n + 1) f := by
  intro f hf
  simp only [nextF, List.mem_append, List.mem_filter, Bool.not_eq_true'] at hf
  rcases hf with hf | ⟨hf, hk⟩
  · exact .inr ⟨n, d, by omega, hd, hf, fun j dj h1 h2 => by omega⟩
  · rcases h f hf with ⟨h0, hn⟩ | ⟨p, dp, hp, hdp, hfp, hn⟩
    · refine .inl ⟨h0, fun j dj hj hdj => ?_⟩
      by_cases hjn : j = n
      · subst hjn; rw [hd] at hdj; cases hdj; exact hk
      · exact hn j dj (by omega) hdj
    · refine .inr ⟨p, dp, by omega, hdp, hfp, fun j dj h1 h2 hdj => ?_⟩
      by_cases hjn : j = n
      · subst hjn; rw [hd] at hdj; cases hdj; exact hk
      · exact hn j dj h1 (by omega) hdj
theorem from_chain {ds0 : List OpD} {L0 : List Fact} : ∀ (ds : List OpD) (n : Nat) (L : List Fact), (∀ j, ds[j]? = ds0[n + j]?) → (∀ f ∈ L, From ds0 L0 n f) →
    (∀ j Lj, (chainF ds L)[j]? = some Lj → ∀ f ∈ Lj, From ds0 L0 (n + j) f) ∧ ∀ f ∈ endF ds L, From ds0 L0 (n + ds.length) f
  | [], n, L, _, h => ⟨fun j Lj hj => by simp [chainF] at hj, fun f hf => h f hf⟩
  | d :: ds, n, L, hds, h => by
    have hd : ds0[n]? = some d := by have := hds 0; simpa using this.symm
    obtain ⟨g1, g2⟩ := from_chain ds (n + 1) (nextF d L) (fun j => by have := hds (j + 1); simp at this; rw [this]; congr 1; omega) (from_next hd h)
    refine ⟨fun j Lj hj => ?_, fun f hf => ?_⟩
    · cases j with
      | zero => simp [chainF] at hj; subst hj; exact h
      | succ j =>
        have := g1 j Lj (by simpa [chainF] using hj)
        rwa [show n + (j + 1) = n + 1 + j by omega]
    · have := g2 f hf
      rwa [show n + (d :: ds).length = n + 1 + ds.length by simp; omega]

/-- Two that touch one thing don't change places. -/
def ordFrom (ms : List Nat) : Nat → OpD → Nat → List OpD → Bool
  | _, _, _, [] => true
  | i, di, j, dj :: l => (match conflictB di dj with
    | true => (ms.getD j 0).testBit i
    | false => true) && ordFrom ms i di (j + 1) l
def ordAll (ms : List Nat) : Nat → List OpD → Bool
  | _, [] => true
  | i, d :: l => ordFrom ms i d (i + 1) l && ordAll ms (i + 1) l
theorem ordFrom_spec {ms : List Nat} {i : Nat} {di : OpD} : ∀ (l : List OpD) (j : Nat), ordFrom ms i di j l = true → ∀ k dk, l[k]? = some dk → conflictB di dk = true → (ms.getD (j + k) 0).testBit i = true
  | [], j, _, k, dk, hk, _ => by simp at hk
  | d :: l, j, h, k, dk, hk, hc => by
    simp only [ordFrom, Bool.and_eq_true] at h
    cases k with
    | zero =>
      simp at hk; subst hk
      have := h.1
      rw [hc] at this
      exact this
    | succ k =>
      have := ordFrom_spec l (j + 1) h.2 k dk (by simpa using hk) hc
      rwa [show j + (k + 1) = j + 1 + k by omega]
theorem ordAll_spec {ms : List Nat} : ∀ (l : List OpD) (n : Nat), ordAll ms n l = true → ∀ i k di dk, i < k → l[i]? = some di → l[k]? = some dk → conflictB di dk = true → (ms.getD (n + k) 0).testBit (n + i) = true
  | [], n, _, i, k, di, dk, _, hi, _, _ => by simp at hi
  | d :: l, n, h, i, k, di, dk, hik, hi, hk, hc => by
    simp only [ordAll, Bool.and_eq_true] at h
    cases k with
    | zero => omega
    | succ k =>
      cases i with
      | zero =>
        simp at hi; subst hi
        have := ordFrom_spec l (n + 1) h.1 k dk (by simpa using hk) hc
        rwa [show n + (k + 1) = n + 1 + k by omega]
      | succ i =>
        have := ordAll_spec l (n + 1) h.2 i k di dk (by omega) (by simpa using hi) (by simpa using hk) hc
        rwa [show n + (k + 1) = n + 1 + k by omega, show n + (i + 1) = n + 1 + i by omega]
/-- What holds when the operations of D have been carried out. -/
def Holds (ds : List OpD) (L0 : List Fact) (D : Nat → Prop) (γ : Gh) (a : Act) (w : World) : Prop :=
  (∀ f ∈ L0, (∀ j d, D j → ds[j]? = some d → d.kills f = false) → f.rel γ a w) ∧
  ∀ i di, D i → ds[i]? = some di → ∀ f ∈ di.prod, (∀ j d, D j → i < j → ds[j]? = some d → d.kills f = false) → f.rel γ a w
theorem kill_conflict {di dj : OpD} {f : Fact} (hf : f ∈ di.req ∨ f ∈ di.prod) (hk : dj.kills f = true) : conflictB di dj = true ∧ conflictB dj di = true := by
  have : f ∈ di.req ++ di.prod := by simpa using hf
  have h1 : (di.req ++ di.prod).any dj.kills = true := List.any_eq_true.2 ⟨f, this, hk⟩
  exact ⟨by rw [conflictB, h1]; rfl, by rw [conflictB, h1, Bool.or_true]⟩
section
variable {P : Program} {ops : Array Oper} {ds : List OpD} {L0 : List Fact} {D : Nat → Prop} {cx : Cx}
/-- An order that is kept: of two that touch one thing, the one that comes ahead in the text has come ahead. -/
theorem order_of {ms : List Nat} (hms : ms = masks ops.toList []) (ho : ordAll ms 0 ds = true) (hD : Closed ops D) {i j : Nat} {di dj : OpD} (hij : i < j) (hi : ds[i]? = some di) (hj : ds[j]? = some dj) (hc : conflictB di dj = true) (hDj : D j) : D i := by
  have hb := ordAll_spec ds 0 ho i j di dj hij hi hj hc
  simp only [Nat.zero_add] at hb
  cases hm : ms[j]? with
  | none => simp [List.getD, hm] at hb
  | some m =>
    simp [List.getD, hm] at hb
    subst hms
    exact masks_spec hD ops.toList [] (fun j => by simp) (fun k m hk => by simp at hk) j m hm hDj i hb
theorem holds_req {ms : List Nat} (hms : ms = masks ops.toList []) (ho : ordAll ms 0 ds = true) (hD : Closed ops D) {i : Nat} {di : OpD} (hi : ds[i]? = some di) (hDi : ¬ D i) (hpre : ∀ j, j < i → (ms.getD i 0).testBit j = true → D j)
    (hfrom : ∀ f ∈ di.req, From ds L0 i f) (hprod : ∀ (j : Nat) (d : OpD) (f : Fact), ds[j]? = some d → f ∈ d.prod → d.kills f = true) {γ : Gh} {a : Act} {w : World} (h : Holds ds L0 D γ a w) : ∀ f ∈ di.req, f.rel γ a w := by
  intro f hf
  have later : ∀ j d, D j → ds[j]? = some d → d.kills f = true → j < i := fun j d hDj hj hk => by
    rcases Nat.lt_trichotomy j i with h | h | h
    · exact h
    · subst h; exact absurd hDj hDi
    · exact absurd (order_of hms ho hD h hi hj (kill_conflict (.inl hf) hk).1 hDj) hDi
  rcases hfrom f hf with ⟨h0, hn⟩ | ⟨p, dp, hp, hdp, hfp, hn⟩
  · refine h.1 f h0 fun j d hDj hj => ?_
    cases hk : d.kills f with
    | false => rfl
    | true => rw [hn j d (later j d hDj hj hk) hj] at hk; cases hk
  · have hk := hprod p dp f hdp hfp
    have hb := ordAll_spec ds 0 ho p i dp di hp hdp hi (kill_conflict (.inl hf) hk).2
    simp only [Nat.zero_add] at hb
    have hDp : D p := hpre p hp hb
    refine h.2 p dp hDp hdp f hfp fun j d hDj hpj hj => ?_
    cases hk : d.kills f with
    | false => rfl
    | true => rw [hn j d hpj (later j d hDj hj hk) hj] at hk; cases hk
theorem holds_step {ms : List Nat} (hms : ms = masks ops.toList []) (ho : ordAll ms 0 ds = true) (hD : Closed ops D) {i : Nat} {di : OpD} (hi : ds[i]? = some di) (hDi : ¬ D i) {γ γ' : Gh} {a : Act} {w w' : World} {v : Value} (h : Holds ds L0 D γ a w)
    (ht : Tr di.W di.V γ w γ' w') (hp : ∀ f ∈ di.prod, f.rel γ' (a.put di.dst v) w') : Holds ds L0 (fun j => D j ∨ j = i) γ' (a.put di.dst v) w' := by
  refine ⟨fun f hf hk => ?_, fun p dp hDp hdp f hf hk => ?_⟩
  · exact Fact.keep (h.1 f hf fun j d hDj hj => hk j d (.inl hDj) hj) ht (hk i di (.inr rfl) hi) v
  · by_cases hpi : p = i
    · subst hpi
      rw [hi] at hdp; cases hdp
      exact hp f hf
    · have hDp' : D p := hDp.resolve_right hpi
      refine Fact.keep (h.2 p dp hDp' hdp f hf fun j d hDj hpj hj => hk j d (.inl hDj) hpj hj) ht ?_ v
      rcases Nat.lt_or_ge p i with hlt | hge
      · exact hk i di (.inr rfl) hlt hi
      · cases hkk : di.kills f with
        | false => rfl
        | true => exact absurd (order_of hms ho hD (by omega) hi hdp (kill_conflict (.inr hf) hkk).2 hDp') hDi

def Listed (listed : Array Bool) : Nat → Prop := fun i => listed.getD i false = true
theorem closed_ready {listed : Array Bool} (hD : Closed ops (Listed listed)) {i : Nat} (hr : i ∈ Region.ready .any ops listed) : Closed ops fun j => Listed listed j ∨ j = i := by
  intro j o hj hDj e he hb
  rcases hDj with hDj | rfl
  · exact .inl (hD j o hj hDj e he hb)
  · obtain ⟨_, o', ho', hall⟩ := mem_ready.1 hr
    rw [hj] at ho'; cases ho'
    exact .inl (hall e he hb)
theorem listed_set {listed : Array Bool} {i : Nat} (hi : i < listed.size) (j : Nat) : Listed (listed.setIfInBounds i true) j ↔ Listed listed j ∨ j = i := by
  unfold Listed
  simp only [Array.getD_eq_getD_getElem?]
  by_cases hji : j = i
  · subst hji
    rw [Array.getElem?_setIfInBounds_self_of_lt hi]
    simp
  · rw [Array.getElem?_setIfInBounds_ne (Ne.symm hji)]
    simp [hji]
theorem all_listed {listed : Array Bool} (hs : listed.size = ops.size) (hdown : ∀ (i : Nat) (o : Oper), ops[i]? = some o → ∀ e ∈ o.after, Region.binds .any e = true → e.on < i) (hr : Region.ready .any ops listed = []) : ∀ i, i < ops.size → Listed listed i := by
  intro i
  induction i using Nat.strongRecOn with
  | _ i ih =>
    intro hi
    cases hl : listed.getD i false with
    | true => exact hl
    | false =>
      exfalso
      have : i ∈ Region.ready .any ops listed := by
        refine mem_ready.2 ⟨?_, ops[i], Array.getElem?_eq_getElem hi, fun e he hb => ?_⟩
        · have hi' : i < listed.size := by omega
          simp only [Array.getD_eq_getD_getElem?, Array.getElem?_eq_getElem hi', Option.getD_some] at hl ⊢
          exact hl
        · have := hdown i ops[i] (Array.getElem?_eq_getElem hi) e he hb
          exact ih e.on this (by omega)
      rw [hr] at this
      cases this
theorem any_of_holds {ms : List Nat} (hms : ms = masks ops.toList []) (ho : ordAll ms 0 ds = true) (hlen : ds.length = ops.size) (hdoes : ∀ i di, ds[i]? = some di → Does P ops cx i di)
    (hfrom : ∀ i di, ds[i]? = some di → ∀ f ∈ di.req, From ds L0 i f) (hprod : ∀ (j : Nat) (d : OpD) (f : Fact), ds[j]? = some d → f ∈ d.prod → d.kills f = true)
    (hdown : ∀ (i : Nat) (o : Oper), ops[i]? = some o → ∀ e ∈ o.after, Region.binds .any e = true → e.on < i) {Q : Exit → Act → World → Prop}
    (hQ : ∀ γ a w, Base cx γ a w → Holds ds L0 (fun j => j < ops.size) γ a w → Q .normal a w) :
    ∀ (fuel : Nat) (listed : Array Bool) (γ : Gh) (a : Act) (w : World), listed.size = ops.size → Closed ops (Listed listed) → (listed.toList.filter (· == false)).length ≤ fuel →
      Base cx γ a w → Holds ds L0 (Listed listed) γ a w → wpAny P .any ops Q fuel listed a w := by
  have fin : ∀ (listed : Array Bool) (γ : Gh) (a : Act) (w : World), listed.size = ops.size → Region.ready .any ops listed = [] → Base cx γ a w → Holds ds L0 (Listed listed) γ a w → Q .normal a w := by
    intro listed γ a w hs hr hB hH
    have hall := all_listed hs hdown hr
    have hlt : ∀ j d, ds[j]? = some d → j < ops.size := fun j d hj => by rw [← hlen]; exact (List.getElem?_eq_some_iff.1 hj).1
    exact hQ γ a w hB ⟨fun f hf hk => hH.1 f hf fun j d _ hj => hk j d (hlt j d hj) hj, fun i di _ hdi f hf hk => hH.2 i di (hall i (hlt i di hdi)) hdi f hf fun j d _ hij hj => hk j d (hlt j d hj) hij hj⟩
  intro fuel
  induction fuel with
  | zero =>
    intro listed γ a w hs hD hcnt hB hH
    have hr : Region.ready .any ops listed = [] := by
      cases hre : Region.ready .any ops listed with
      | nil => rfl
      | cons i l =>
        exfalso
        have hi : i ∈ Region.ready .any ops listed := by rw [hre]; exact List.mem_cons_self
        obtain ⟨hun, o, hoi, _⟩ := mem_ready.1 hi
        have hil : i < listed.size := by rw [hs]; exact (Array.getElem?_eq_some_iff.1 hoi).1
        have hm : false ∈ listed.toList := by
          simp only [Array.getD_eq_getD_getElem?, Array.getElem?_eq_getElem hil, Option.getD_some] at hun
          rw [← hun]; simp
        have : false ∈ listed.toList.filter (· == false) := List.mem_filter.2 ⟨hm, rfl⟩
        rw [List.eq_nil_of_length_eq_zero (Nat.le_zero.1 hcnt)] at this
        cases this
    exact ⟨hr, fin listed γ a w hs hr hB hH⟩
  | succ fuel ih =>
    intro listed γ a w hs hD hcnt hB hH
    refine ⟨fun hr => fin listed γ a w hs hr hB hH, fun i hi => ?_⟩
    obtain ⟨hun, o, hoi, hall⟩ := mem_ready.1 hi
    have hilt : i < ops.size := (Array.getElem?_eq_some_iff.1 hoi).1
    have hil : i < listed.size := by omega
    have hid : i < ds.length := by omega
    have hdi : ds[i]? = some ds[i] := List.getElem?_eq_getElem hid
    have hnot : ¬ Listed listed i := by
      unfold Listed
      simp only [Array.getD_eq_getD_getElem?, Array.getElem?_eq_getElem hil, Option.getD_some] at hun ⊢
      rw [hun]; exact Bool.false_ne_true
    obtain ⟨o', ho', hdst, hdo⟩ := (hdoes i _ hdi).oper
    rw [hoi] at ho'; cases ho'
    have hreq := holds_req hms ho hD hdi hnot (fun j hj hb => by
      have hm := masks_spec (closed_ready hD hi) ops.toList [] (fun j => by simp) (fun k m hk => by simp at hk)
      cases hk : ms[i]? with
      | none => simp [List.getD, hk] at hb
      | some m =>
        simp [List.getD, hk] at hb
        subst hms
        rcases hm i m hk (.inr rfl) j hb with h | h
        · exact h
        · omega) (hfrom i _ hdi) hprod hH
    obtain ⟨hw, hT, hF⟩ := hdo γ a w hB hreq
    have next : ∀ (γ' : Gh) (w' : World) (v : Value), Tr (ds[i]).W (ds[i]).V γ w γ' w' → (∀ f ∈ (ds[i]).prod, f.rel γ' (a.put (ds[i]).dst v) w') → wpAny P .any ops Q fuel (listed.setIfInBounds i true) (a.put o.dst v) w' := by
      intro γ' w' v ht hp
      have hcnt' : ((listed.setIfInBounds i true).toList.filter (· == false)).length ≤ fuel := by
        have hli : listed.toList[i]? = some false := by
          rw [Array.getElem?_toList, Array.getElem?_eq_getElem hil]
          simp only [Array.getD_eq_getD_getElem?, Array.getElem?_eq_getElem hil, Option.getD_some] at hun
          rw [hun]
        have key : ∀ (l : List Bool) (i : Nat), l[i]? = some false → ((l.set i true).filter (· == false)).length + 1 = (l.filter (· == false)).length := by
          intro l
          induction l with
          | nil => intro i h; simp at h
          | cons x l ihl =>
            intro i h
            cases i with
            | zero => simp at h; subst h; simp
            | succ i =>
              have := ihl i (by simpa using h)
              cases x <;> simp at this ⊢ <;> omega
        have := key listed.toList i hli
        rw [Array.toList_setIfInBounds]
        omega
      rw [hdst]
      have hB' := (hB.tr ht (hdoes i _ hdi).okW).put (ds[i]).dst v
      have hH' := holds_step hms ho hD hdi hnot hH ht hp
      have hset : ∀ j, Listed (listed.setIfInBounds i true) j ↔ Listed listed j ∨ j = i := listed_set hil
      have hD' : Closed ops (Listed (listed.setIfInBounds i true)) := fun j o hj hDj e he hb => (hset _).2 (closed_ready hD hi j o hj ((hset j).1 hDj) e he hb)
      exact ih _ γ' _ w' (by simp [hs]) hD' hcnt' hB' ⟨fun f hf hk => hH'.1 f hf fun j d hDj hj => hk j d ((hset j).2 hDj) hj, fun p dp hDp hdp f hf hk => hH'.2 p dp ((hset p).1 hDp) hdp f hf fun j d hDj hpj hj => hk j d ((hset j).2 hDj) hpj hj⟩
    unfold wpOp
    rw [hoi]
    simp only
    cases hwant : (ds[i]).want with
    | true =>
      rw [if_pos (by rw [hw, hwant])]
      refine .inl (hT hwant _ Q fun γ' w' v ht hp => ?_)
      rw [← hdst]
      exact next γ' w' v ht hp
    | false =>
      rw [if_neg (by rw [hw, hwant]; exact Bool.false_ne_true)]
      obtain ⟨e1, e2⟩ := (hdoes i _ hdi).none_ hwant
      exact next γ w undef (by rw [e1, e2]; exact Tr.refl _ _ _ _) (hF hwant)

end

/-! ### the region -/

def factsOf (E : Env) : List Fact := E.sl.map (fun p => Fact.sl p.1 p.2) ++ E.bx.map Fact.bx
def envOf : List Fact → Env
  | [] => ⟨[], []⟩
  | .sl k a :: l => ⟨(k, a) :: (envOf l).sl, (envOf l).bx⟩
  | .bx b :: l => ⟨(envOf l).sl, b :: (envOf l).bx⟩
theorem envOf_mem {L : List Fact} : (∀ p ∈ (envOf L).sl, Fact.sl p.1 p.2 ∈ L) ∧ ∀ b ∈ (envOf L).bx, Fact.bx b ∈ L := by
  induction L with
  | nil =>
    refine ⟨?_, ?_⟩
    · intro p hp; cases hp
    · intro b hb; cases hb
  | cons f L ih =>
    cases f with
    | sl k a =>
      refine ⟨fun p hp => ?_, fun b hb => List.mem_cons_of_mem _ (ih.2 b hb)⟩
      cases hp with
      | head => exact List.mem_cons_self
      | tail _ hp => exact List.mem_cons_of_mem _ (ih.1 p hp)
    | bx b =>
      refine ⟨fun p hp => List.mem_cons_of_mem _ (ih.1 p hp), fun c hc => ?_⟩
      cases hc with
      | head => exact List.mem_cons_self
      | tail _ hc => exact List.mem_cons_of_mem _ (ih.2 c hc)
/-- What the walk is told of an operation: it reckons; or a law of its own (the boxes that it asks, what it writes, what it leaves). -/
inductive DStep where
  | ev
  | ex (bl : List Nat) (W V : List Nat) (av : AV) (bs : List Bx)
def reqOf : List (Operand × AV) → List Fact
  | [] => []
  | (.tmp k, a) :: l => .sl k a :: reqOf l
  | _ :: l => reqOf l
def slOf (d : Option Nat) (a : AV) : List Fact := match d with
  | some k => [.sl k a]
  | none => []
def guardReq (ops : Array Oper) (E : Env) (o : Oper) : List Fact := match o.guard with
  | none => []
  | some (j, _) => match ops.toList[j]? with
    | some g => match g.dst with
      | some t => match lookup E.sl t with
        | some a => [.sl t a]
        | none => []
      | none => []
    | none => []
def insOf (E : Env) : List Operand → List (Operand × AV)
  | [] => []
  | x :: l => match E.opd x with
    | some a => (x, a) :: insOf E l
    | none => insOf E l
def boxOf (E : Env) : Op → List Bx
  | .load _ x => match E.opd x with
    | some (.ptr ℓ _) => match findBx E.bx ℓ with
      | some b => [b]
      | none => []
    | _ => []
  | _ => []
def opdOf (P : Program) (ops : Array Oper) (E : Env) (o : Oper) (s : DStep) : Option (OpD × List (List (Operand × AV) × List Bx)) := match guardOf ops E o with
  | some true => match s with
    | .ev => match evalOp P E.opd (boxOf E o.op) o.op with
      | some av => some (⟨true, guardReq ops E o ++ (reqOf (insOf E o.op.operands.toList) ++ (boxOf E o.op).map .bx), [], [], o.dst, slOf o.dst av⟩, [])
      | none => none
    | .ex bl W V av bs => match pickBx E.bx bl with
      | some bxs => some (⟨true, guardReq ops E o ++ (reqOf (insOf E o.op.operands.toList) ++ bxs.map .bx), W, V, o.dst, slOf o.dst av ++ bs.map .bx⟩, [(insOf E o.op.operands.toList, bxs)])
      | none => none
  | some false => match s with
    | .ev => some (⟨false, guardReq ops E o, [], [], o.dst, slOf o.dst (.tup [])⟩, [])
    | .ex .. => none
  | none => none
/-- The walk, operation by operation. -/
def drawRun (P : Program) (N : Nat) (ops : Array Oper) : List Oper → List DStep → List Fact → Option (List OpD × List Fact × List (List (Operand × AV) × List Bx))
  | [], _, L => some ([], L, [])
  | o :: l, ss, L => match opdOf P ops (envOf L) o (ss.headD .ev) with
    | some (d, i) => match okDst N o.dst && okW d.W && d.prod.all d.kills with
      | true => match drawRun P N ops l ss.tail (nextF d L) with
        | some (ds, L', is) => some (d :: ds, L', i ++ is)
        | none => none
      | false => none
    | none => none
def downB : Nat → List Oper → Bool
  | _, [] => true
  | i, o :: l => (o.after.toList.all fun e => !Region.binds .any e || Nat.blt e.on i) && downB (i + 1) l
def drawFin (P : Program) (N : Nat) (ops : List Oper) (ss : List DStep) (E : Env) (ks bs : List Nat) : Option (Env × List (List (Operand × AV) × List Bx)) :=
  match drawRun P N ops.toArray ops ss (factsOf E) with
  | some (ds, L, is) => match ordAll (masks ops []) 0 ds && downB 0 ops with
    | true => match (envOf L).pick ks bs with
      | some E' => some (E', is)
      | none => none
    | false => none
  | none => none
/-- The laws that the walk was told of, each at what stood there. -/
def LawsOk (P : Program) : List Oper → List DStep → List (List (Operand × AV) × List Bx) → Prop
  | _ :: l, .ev :: ss, is => LawsOk P l ss is
  | o :: l, .ex _ W V av bs :: ss, (ins, bxs) :: is => (LocalOk P o ins bxs W V av bs ∧ LawsOk P l ss is)
  | _, [], _ => True
  | _, _, [] => True
  | [], _, _ => True
theorem reqOf_rel {γ : Gh} {a : Act} {w : World} {E : Env} : ∀ (l : List Operand), (∀ f ∈ reqOf (insOf E l), f.rel γ a w) → (∀ p ∈ insOf E l, p.2.rel γ w (a.eval p.1)) ∧ Opds E.opd γ w a.eval l
  | [], _ => ⟨fun p hp => by simp [insOf] at hp, fun x hx => by cases hx⟩
  | x :: l, h => by
    rw [insOf] at h ⊢
    cases hx : E.opd x with
    | none =>
      rw [hx] at h
      obtain ⟨h1, h2⟩ := reqOf_rel l h
      refine ⟨h1, fun y hy av hav => ?_⟩
      cases hy with
      | head => rw [hx] at hav; cases hav
      | tail _ hy => exact h2 y hy av hav
    | some av =>
      rw [hx] at h
      simp only at h
      have hhd : av.rel γ w (a.eval x) := by
        cases x with
        | tmp k => exact h (.sl k av) (by simp [reqOf])
        | const v => exact constAV_rel hx γ w
        | global g => cases hx
        | func f => cases hx; exact ⟨rfl, .val _ rfl⟩
      obtain ⟨h1, h2⟩ := reqOf_rel (γ := γ) (a := a) (w := w) (E := E) l (fun f hf => h f (by cases x <;> simp [reqOf, hf]))
      refine ⟨fun p hp => ?_, fun y hy av' hav => ?_⟩
      · cases hp with
        | head => exact hhd
        | tail _ hp => exact h1 p hp
      · cases hy with
        | head => rw [hx] at hav; cases hav; exact hhd
        | tail _ hy => exact h2 y hy av' hav
theorem guardReq_spec {ops : Array Oper} {E : Env} {o : Oper} {b : Bool} (h : guardOf ops E o = some b) {γ : Gh} {w : World} {a : Act} (hs : ∀ f ∈ guardReq ops E o, f.rel γ a w) : Region.wanted o (yielded ops a.tmps) = b := by
  have h0 := h
  unfold guardOf at h
  unfold guardReq at hs
  split at h
  · rename_i hg
    cases h
    unfold Region.wanted; rw [hg]
  · rename_i j want hg
    rw [hg] at hs
    simp only at hs
    split at h
    · rename_i g hj
      rw [hj] at hs
      simp only at hs
      split at h
      · rename_i t ht
        rw [ht] at hs
        simp only at hs
        cases hl : lookup E.sl t with
        | none => rw [hl] at h; cases want <;> cases h
        | some av =>
          rw [hl] at hs
          have hav : av.rel γ w (a.tmps.getD t undef) := hs (.sl t av) List.mem_cons_self
          have h1 : guardOf ops ⟨[(t, av)], []⟩ o = some b := by
            unfold guardOf
            rw [hg]
            simp only
            rw [hj]
            simp only
            rw [ht]
            simp only
            have : lookup [(t, av)] t = some av := by simp [lookup]
            rw [this]
            rw [hl] at h
            exact h
          exact guardOf_spec (γ := γ) (w := w) h1 (fun p hp => by simp at hp; subst hp; exact hav)
      · cases h
    · cases h
theorem slOf_rel {cx : Cx} {γ : Gh} {a : Act} {w w' : World} {γ' : Gh} {d : Option Nat} {av : AV} {v : Value} (hB : Base cx γ a w) (hd : okDst cx.n d = true) (hv : av.rel γ' w' v) : ∀ f ∈ slOf d av, f.rel γ' (a.put d v) w' := by
  intro f hf
  cases d with
  | none => cases hf
  | some k =>
    simp only [slOf, List.mem_cons, List.not_mem_nil, or_false] at hf
    subst hf
    show av.rel γ' w' ((a.put (some k) v).tmps.getD k undef)
    rw [getD_put_same (by rw [hB.size]; exact okDst_spec hd k rfl)]
    exact hv
theorem insOf_sub {L : List Fact} {f : Fact} : ∀ (l : List Operand), f ∈ reqOf (insOf (envOf L) l) → f ∈ L
  | [], h => by cases h
  | x :: l, h => by
    rw [insOf] at h
    cases hx : (envOf L).opd x with
    | none => rw [hx] at h; exact insOf_sub l h
    | some av =>
      rw [hx] at h
      cases x with
      | tmp k =>
        simp only [reqOf, List.mem_cons] at h
        rcases h with rfl | h
        · exact envOf_mem.1 (k, av) (lookup_mem hx)
        · exact insOf_sub l h
      | const v => exact insOf_sub l h
      | global g => exact insOf_sub l h
      | func g => exact insOf_sub l h
theorem guardReq_sub {ops : Array Oper} {L : List Fact} {o : Oper} {f : Fact} (h : f ∈ guardReq ops (envOf L) o) : f ∈ L := by
  unfold guardReq at h
  split at h
  · cases h
  · split at h
    · split at h
      · split at h
        · rename_i hl
          simp only [List.mem_cons, List.not_mem_nil, or_false] at h
          subst h
          exact envOf_mem.1 (_, _) (lookup_mem hl)
        · cases h
      · cases h
    · cases h
theorem boxOf_sub {L : List Fact} {op : Op} {b : Bx} (h : b ∈ boxOf (envOf L) op) : Fact.bx b ∈ L := by
  unfold boxOf at h
  split at h
  · split at h
    · split at h
      · rename_i b' hb
        simp only [List.mem_cons, List.not_mem_nil, or_false] at h
        subst h
        exact envOf_mem.2 _ (findBx_spec hb).1
      · cases h
    · cases h
  · cases h
theorem opdOf_does {P : Program} {ops : Array Oper} {cx : Cx} {L : List Fact} {o : Oper} {s : DStep} {d : OpD} {i : List (List (Operand × AV) × List Bx)} {n : Nat} (h : opdOf P ops (envOf L) o s = some (d, i)) (hn : ops[n]? = some o) (hd : okDst cx.n o.dst = true)
    (hl : ∀ bl W V av bs, s = .ex bl W V av bs → ∀ ins bxs, i = [(ins, bxs)] → LocalOk P o ins bxs W V av bs) (hW : okW d.W = true) : Does P ops cx n d ∧ ∀ f ∈ d.req, f ∈ L := by
  unfold opdOf at h
  split at h
  · rename_i hg
    split at h
    · split at h
      · rename_i av he
        cases h
        refine ⟨⟨⟨o, hn, rfl, fun γ a w hB hreq => ⟨guardReq_spec hg fun f hf => hreq f (List.mem_append_left _ hf), fun _ next Q hk => ?_, fun h => by cases h⟩⟩, hW, fun h => by cases h⟩, fun f hf => ?_⟩
        · obtain ⟨h1, h2⟩ := reqOf_rel (γ := γ) (a := a) (w := w) (E := envOf L) o.op.operands.toList fun f hf => hreq f (List.mem_append_right _ (List.mem_append_left _ hf))
          obtain ⟨v, hr, hv⟩ := evalOp_run he h2 (fun b hb => hreq (.bx b) (List.mem_append_right _ (List.mem_append_right _ (List.mem_map_of_mem hb))))
          unfold Oper.wp
          rw [hr]
          exact hk γ w v (Tr.refl _ _ _ _) (slOf_rel hB hd hv)
        · simp only [List.mem_append] at hf
          rcases hf with hf | hf | hf
          · exact guardReq_sub hf
          · exact insOf_sub _ hf
          · obtain ⟨b, hb, rfl⟩ := List.mem_map.1 hf
            exact boxOf_sub hb
      · cases h
    · rename_i bl W V av bs
      split at h
      · rename_i bxs hbx
        cases h
        have hlaw := hl bl W V av bs rfl _ _ rfl
        refine ⟨⟨⟨o, hn, rfl, fun γ a w hB hreq => ⟨guardReq_spec hg fun f hf => hreq f (List.mem_append_left _ hf), fun _ next Q hk => ?_, fun h => by cases h⟩⟩, hW, fun h => by cases h⟩, fun f hf => ?_⟩
        · obtain ⟨h1, h2⟩ := reqOf_rel (γ := γ) (a := a) (w := w) (E := envOf L) o.op.operands.toList fun f hf => hreq f (List.mem_append_right _ (List.mem_append_left _ hf))
          refine hlaw γ a w h1 (fun b hb => hreq (.bx b) (List.mem_append_right _ (List.mem_append_right _ (List.mem_map_of_mem hb)))) next Q fun γ' w' v ht hv hbs => hk γ' w' v ht fun f hf => ?_
          simp only [List.mem_append] at hf
          rcases hf with hf | hf
          · exact slOf_rel hB hd hv f hf
          · obtain ⟨b, hb, rfl⟩ := List.mem_map.1 hf
            exact hbs b hb
        · simp only [List.mem_append] at hf
          rcases hf with hf | hf | hf
          · exact guardReq_sub hf
          · exact insOf_sub _ hf
          · obtain ⟨b, hb, rfl⟩ := List.mem_map.1 hf
            exact envOf_mem.2 _ (pickBx_mem _ _ hbx b hb)
      · cases h
  · rename_i hg
    split at h
    · cases h
      refine ⟨⟨⟨o, hn, rfl, fun γ a w hB hreq => ⟨guardReq_spec hg hreq, fun h => (by cases h), fun _ => slOf_rel hB hd ⟨[], rfl, rfl⟩⟩⟩, hW, fun _ => ⟨rfl, rfl⟩⟩, fun f hf => guardReq_sub hf⟩
    · cases h
  · cases h
theorem drawRun_spec {P : Program} {ops : Array Oper} {cx : Cx} : ∀ (l : List Oper) (ss : List DStep) (L : List Fact) (n : Nat) (ds : List OpD) (L' : List Fact) (is : List (List (Operand × AV) × List Bx)), drawRun P cx.n ops l ss L = some (ds, L', is) →
    (∀ j, l[j]? = ops[n + j]?) → LawsOk P l ss is →
    ds.length = l.length ∧ L' = endF ds L ∧ ∀ k d, ds[k]? = some d → Does P ops cx (n + k) d ∧ (∀ f ∈ d.prod, d.kills f = true) ∧ ∃ Lk, (chainF ds L)[k]? = some Lk ∧ ∀ f ∈ d.req, f ∈ Lk
  | [], ss, L, n, ds, L', is, h, _, _ => by
    cases h
    exact ⟨rfl, rfl, fun k d hk => by simp at hk⟩
  | o :: l, ss, L, n, ds, L', is, h, hl, hlaw => by
    have hn : ops[n]? = some o := by have := hl 0; simpa using this.symm
    rw [drawRun] at h
    split at h
    · rename_i d i hd
      split at h
      · rename_i hc
        simp only [Bool.and_eq_true] at hc
        obtain ⟨⟨hc1, hc2⟩, hc3⟩ := hc
        split at h
        · rename_i ds' L2 is' hr
          cases h
          have hsplit : (∀ bl W V av bs, ss.headD .ev = .ex bl W V av bs → ∀ ins bxs, i = [(ins, bxs)] → LocalOk P o ins bxs W V av bs) ∧ LawsOk P l ss.tail is' := by
            cases ss with
            | nil =>
              refine ⟨fun bl W V av bs he => by simp at he, ?_⟩
              cases l <;> cases is' <;> trivial
            | cons s ss =>
              cases s with
              | ev =>
                have hi : i = [] := by
                  simp only [List.headD_cons, opdOf] at hd
                  split at hd
                  · split at hd
                    · cases hd; rfl
                    · cases hd
                  · cases hd; rfl
                  · cases hd
                subst hi
                refine ⟨fun bl W V av bs he => by simp at he, ?_⟩
                simpa [LawsOk] using hlaw
              | ex bl W V av bs =>
                simp only [List.headD_cons, opdOf] at hd
                split at hd
                · split at hd
                  · cases hd
                    simp only [List.cons_append, List.nil_append, LawsOk] at hlaw
                    refine ⟨fun bl' W' V' av' bs' he ins bxs hi => ?_, hlaw.2⟩
                    simp at he
                    obtain ⟨rfl, rfl, rfl, rfl, rfl⟩ := he
                    simp at hi
                    obtain ⟨rfl, rfl⟩ := hi
                    exact hlaw.1
                  · cases hd
                · cases hd
                · cases hd
          obtain ⟨g1, g2, g3⟩ := drawRun_spec l ss.tail (nextF d L) (n + 1) ds' L' is' hr (fun j => by have := hl (j + 1); simp at this; rw [this]; congr 1; omega) hsplit.2
          obtain ⟨e1, e2⟩ := opdOf_does hd hn hc1 hsplit.1 hc2
          refine ⟨by simp [g1], g2, fun k d' hk => ?_⟩
          cases k with
          | zero =>
            simp at hk; subst hk
            exact ⟨e1, fun f hf => by simp only [List.all_eq_true] at hc3; exact hc3 f hf, L, by simp [chainF], e2⟩
          | succ k =>
            have := g3 k d' (by simpa using hk)
            rw [show n + (k + 1) = n + 1 + k by omega]
            exact ⟨this.1, this.2.1, by simpa [chainF] using this.2.2⟩
        · cases h
      · cases h
    · cases h
theorem downB_spec : ∀ (l : List Oper) (n : Nat), downB n l = true → ∀ k o, l[k]? = some o → ∀ e ∈ o.after, Region.binds .any e = true → e.on < n + k
  | [], n, _, k, o, hk => by simp at hk
  | x :: l, n, h, k, o, hk => by
    simp only [downB, Bool.and_eq_true, List.all_eq_true] at h
    cases k with
    | zero =>
      simp at hk; subst hk
      intro e he hb
      have := h.1 e (by simpa using he)
      rw [hb] at this
      exact Nat.lt_of_succ_le (Nat.le_of_ble_eq_true this)
    | succ k =>
      have := downB_spec l (n + 1) h.2 k o (by simpa using hk)
      rwa [show n + (k + 1) = n + 1 + k by omega]
theorem ji_draw {P : Program} {cx : Cx} {E : Env} {id : Nat} {ops : List Oper} {l : List It} {Q : Exit → Act → World → Prop} (E' : Env) (ss : List DStep) (is : List (List (Operand × AV) × List Bx)) (ks bs : List Nat)
    (hm : P.follows .mixedOrders = true) (h : drawFin P cx.n ops ss E ks bs = some (E', is)) (hl : LawsOk P ops ss is) (k : JI P l (Sx cx E') Q) : JI P (.c (.region id ops.toArray true) :: l) (Sx cx E) Q := by
  intro a w hs
  rw [wpI_c]
  obtain ⟨γ, hB, hS, hX⟩ := hs
  unfold drawFin at h
  split at h
  · rename_i ds L is' hrun
    split at h
    · rename_i hc
      split at h
      · rename_i E2 hp
        cases h
        simp only [Bool.and_eq_true] at hc
        obtain ⟨g1, g2, g3⟩ := drawRun_spec ops ss (factsOf E) 0 ds L is hrun (fun j => by simp) hl
        have hfc := from_chain (ds0 := ds) (L0 := factsOf E) ds 0 (factsOf E) (fun j => by simp) (fun f hf => .inl ⟨hf, fun j d hj => by omega⟩)
        refine wp_region_any hm (any_of_holds (cx := cx) (L0 := factsOf E) rfl (by simpa using hc.1) (by simpa using g1) (fun i di hi => by have := (g3 i di hi).1; rwa [Nat.zero_add] at this) (fun i di hi f hf => ?_) (fun j d f hj hf => (g3 j d hj).2.1 f hf)
          (fun i o ho e he hb => by have := downB_spec ops 0 hc.2 i o (by simpa using ho) e he hb; omega) (fun γ' a' w' hB' hH => ?_) _ _ γ a { w with drawn := w.drawn + 1 } (by simp) (fun j o hj hD => ?_) ?_ ?_ ?_)
        · obtain ⟨_, _, Lk, hLk, hin⟩ := g3 i di hi
          have := hfc.1 i Lk hLk f (hin f hf)
          rwa [Nat.zero_add] at this
        · -- what the walk's end knows
          have hend : ∀ f ∈ L, f.rel γ' a' w' := fun f hf => by
            rw [g2] at hf
            rcases hfc.2 f hf with ⟨h0, hn⟩ | ⟨p, dp, hp', hdp, hfp, hn⟩
            · exact hH.1 f h0 fun j d hj hjd => hn j d (by simp only [List.size_toArray] at hj; omega) hjd
            · exact hH.2 p dp (by simp only [List.size_toArray]; omega) hdp f hfp fun j d hj hpj hjd => hn j d hpj (by simp only [List.size_toArray] at hj; omega) hjd
          refine k a' w' (Sx.pick hp ⟨γ', hB', fun p hp' => ?_, fun b hb => ?_⟩)
          · exact hend _ (envOf_mem.1 p hp')
          · exact hend _ (envOf_mem.2 b hb)
        · unfold Listed at hD
          simp only [Array.getD_eq_getD_getElem?] at hD
          by_cases hj' : j < ops.length <;> simp [hj'] at hD
        · simp only [Array.toList_replicate]
          exact Nat.le_trans (List.length_filter_le _ _) (by simp)
        · exact ⟨hB.defers, hB.size, hB.below.drew, hB.old⟩
        · refine ⟨fun f hf _ => ?_, fun i di hD => ?_⟩
          · simp only [factsOf, List.mem_append, List.mem_map] at hf
            rcases hf with ⟨p, hp', rfl⟩ | ⟨b, hb, rfl⟩
            · have ht : Tr [] [] γ w γ w.drew := ⟨rfl, rfl, rfl, Nat.le_refl _, fun _ _ _ => rfl, fun _ _ => rfl, fun _ _ => rfl⟩
              exact p.2.keep ht (fun c _ h => by cases h) (fun c _ h => by cases h) (hS p hp')
            · have ht : Tr [] [] γ w γ w.drew := ⟨rfl, rfl, rfl, Nat.le_refl _, fun _ _ _ => rfl, fun _ _ => rfl, fun _ _ => rfl⟩
              obtain ⟨hcol, cs, hh, hL, hone⟩ := hX b hb
              refine ⟨hcol, cs, hh, relL_keep hL ht ?_, hone⟩
              simp only [List.all_eq_true]
              intro x _
              simp [AV.free, memN]
          · exfalso
            unfold Listed at hD
            simp only [Array.getD_eq_getD_getElem?] at hD
            by_cases hj' : i < ops.length <;> simp [hj'] at hD
      · cases h
    · cases h
  · cases h
end Go.Proofs.Ytnhnanbgphdaeaa
