/-
  What is known of a frame and of boxes at a place of a function's text, and how operations that only reckon change it. No condition.
-/
import Derived.Test.YtnhnanbgphdaeaaCore
namespace Go.Proofs.Ytnhnanbgphdaeaa
open Go Go.RowKit

structure Bx where
  lab : Nat
  typ : TypeId
  avs : List AV
def Bx.rel (γ : Gh) (w : World) (b : Bx) : Prop :=
  γ.col (γ.box b.lab) = b.lab ∧ ∃ cs : List Value, w.heap[γ.box b.lab]? = some (.cells cs.toArray b.typ (0, 0)) ∧ AV.relL γ w b.avs cs ∧ ∀ u ∈ cs, u.oneCell' = true

structure Env where
  sl : List (Nat × AV)
  bx : List Bx

def memN (c : Nat) : List Nat → Bool
  | [] => false
  | x :: l => Nat.beq c x || memN c l
theorem memN_iff {c : Nat} {l : List Nat} : memN c l = true ↔ c ∈ l := by
  induction l with
  | nil => simp [memN]
  | cons x l ih => simp [memN, ih]
def AV.free (W V : List Nat) (a : AV) : Bool := a.cols.all (fun c => !memN c W) && a.labs.all (fun c => !memN c V)
theorem AV.free_spec {W V : List Nat} {a : AV} (h : a.free W V = true) : (∀ c ∈ a.cols, c ∉ W) ∧ ∀ c ∈ a.labs, c ∉ V := by
  unfold AV.free at h
  simp only [Bool.and_eq_true, List.all_eq_true, Bool.not_eq_true'] at h
  refine ⟨fun c hc hw => ?_, fun c hc hw => ?_⟩
  · have := h.1 c hc; rw [memN_iff.2 hw] at this; cases this
  · have := h.2 c hc; rw [memN_iff.2 hw] at this; cases this

def lookup : List (Nat × AV) → Nat → Option AV
  | [], _ => none
  | p :: l, k => match Nat.beq p.1 k with
    | true => some p.2
    | false => lookup l k
theorem lookup_mem {l : List (Nat × AV)} {k : Nat} {a : AV} (h : lookup l k = some a) : (k, a) ∈ l := by
  induction l with
  | nil => cases h
  | cons p l ih =>
    rw [lookup] at h
    split at h
    · rename_i hb
      have := Nat.eq_of_beq_eq_true hb
      obtain ⟨p1, p2⟩ := p
      cases h
      simp only at this
      subst this
      exact List.mem_cons_self
    · exact List.mem_cons_of_mem _ (ih h)
def constAV : Value → Option AV
  | .int k n => some (.lf (.int k n))
  | .bool b => some (.lf (.bool b))
  | .string s => some (.lf (.str s.data.toList))
  | .slice none n c => some (.lf (.val (.slice none n c)))
  | .nilFunc => some (.lf (.val .nilFunc))
  | .pointer none => some (.lf (.val (.pointer none)))
  | .map none => some (.lf (.val (.map none)))
  | .nilIface => some (.lf (.val .nilIface))
  | _ => none
theorem constAV_rel {v : Value} {a : AV} (h : constAV v = some a) (γ : Gh) (w : World) : a.rel γ w v := by
  unfold constAV at h
  split at h
  all_goals cases h
  · exact ⟨rfl, .int _ _⟩
  · exact ⟨rfl, .bool _⟩
  · rename_i s
    refine ⟨rfl, ?_⟩
    have := LVrel.str (F := fun _ => False) (w := w) s.data.toList
    simpa using this
  all_goals exact ⟨rfl, .val _ rfl⟩
def Env.opd (E : Env) : Operand → Option AV
  | .tmp t => lookup E.sl t
  | .const v => constAV v
  | .func f => some (.lf (.val (.func (.func f) #[] #[])))
  | .global _ => none

structure Cx where
  n : Nat
  w0 : World
  F : Fp
structure Base (cx : Cx) (γ : Gh) (a : Act) (w : World) : Prop where
  defers : a.defers = []
  size : a.tmps.size = cx.n
  below : Below cx.w0.heap.size cx.w0 w
  old : ∀ b, b < cx.w0.heap.size → (γ.col b = 0 ∧ cx.F b) ∨ γ.col b = 1
def Sl (γ : Gh) (w : World) (a : Act) (l : List (Nat × AV)) : Prop := ∀ p ∈ l, p.2.rel γ w (a.tmps.getD p.1 undef)
def Bxs (γ : Gh) (w : World) (l : List Bx) : Prop := ∀ b ∈ l, b.rel γ w
/-- The state: what is known of the slots and of the boxes. -/
def Sx (cx : Cx) (E : Env) (a : Act) (w : World) : Prop := ∃ γ, Base cx γ a w ∧ Sl γ w a E.sl ∧ Bxs γ w E.bx

theorem Env.opd_rel {E : Env} {x : Operand} {av : AV} (h : E.opd x = some av) {γ : Gh} {w : World} {a : Act} (hs : Sl γ w a E.sl) : av.rel γ w (a.eval x) := by
  cases x with
  | tmp t => exact hs _ (lookup_mem h)
  | const v => exact constAV_rel h γ w
  | global g => cases h
  | func f => cases h; exact ⟨rfl, .val _ rfl⟩

def putSl (d : Option Nat) (av : AV) (l : List (Nat × AV)) : List (Nat × AV) :=
  match d with
  | none => l
  | some d => (d, av) :: l.filter fun p => !Nat.beq p.1 d
def dropSl (d : Option Nat) (l : List (Nat × AV)) : List (Nat × AV) :=
  match d with
  | none => l
  | some d => l.filter fun p => !Nat.beq p.1 d
theorem getD_put {a : Act} {d k : Nat} {v : Value} (h : k ≠ d) : (a.put (some d) v).tmps.getD k undef = a.tmps.getD k undef := by
  simp only [Act.put, Array.getD_eq_getD_getElem?]
  rw [Array.getElem?_setIfInBounds_ne (Ne.symm h)]
theorem getD_put_same {a : Act} {d : Nat} {v : Value} (h : d < a.tmps.size) : (a.put (some d) v).tmps.getD d undef = v := by
  simp only [Act.put, Array.getD_eq_getD_getElem?]
  rw [Array.getElem?_setIfInBounds_self_of_lt h]
  rfl
theorem put_defers (a : Act) (d : Option Nat) (v : Value) : (a.put d v).defers = a.defers := by cases d <;> rfl
theorem put_size (a : Act) (d : Option Nat) (v : Value) : (a.put d v).tmps.size = a.tmps.size := by cases d <;> simp [Act.put]
theorem Base.put {cx : Cx} {γ : Gh} {a : Act} {w : World} (h : Base cx γ a w) (d : Option Nat) (v : Value) : Base cx γ (a.put d v) w :=
  ⟨(put_defers a d v).trans h.defers, (put_size a d v).trans h.size, h.below, h.old⟩
theorem Sl.drop {γ : Gh} {w : World} {a : Act} {l : List (Nat × AV)} (h : Sl γ w a l) (d : Option Nat) (v : Value) : Sl γ w (a.put d v) (dropSl d l) := by
  cases d with
  | none => exact h
  | some d =>
    intro p hp
    simp only [dropSl, List.mem_filter, Bool.not_eq_true'] at hp
    rw [getD_put (fun e => by rw [e] at hp; simp at hp)]
    exact h p hp.1
theorem Sl.put {γ : Gh} {w : World} {a : Act} {l : List (Nat × AV)} (h : Sl γ w a l) {d : Option Nat} {v : Value} {av : AV} (hd : ∀ k, d = some k → k < a.tmps.size) (hv : av.rel γ w v) : Sl γ w (a.put d v) (putSl d av l) := by
  cases d with
  | none => exact h
  | some d =>
    intro p hp
    simp only [putSl, List.mem_cons] at hp
    rcases hp with rfl | hp
    · simp only; rw [getD_put_same (hd d rfl)]; exact hv
    · exact h.drop (some d) v p hp

/-! ### operations that only reckon -/

def kindsEq (j k : IntKind) : Bool := match j, k with
  | .i8, .i8 | .i16, .i16 | .i32, .i32 | .i64, .i64 | .u8, .u8 | .u16, .u16 | .u32, .u32 | .u64, .u64 => true
  | _, _ => false
theorem kindsEq_spec {j k : IntKind} (h : kindsEq j k = true) : j = k := by cases j <;> cases k <;> first | rfl | cases h
def andI (k : IntKind) (x y : Int) : Int := k.wrap (BitVec.ofInt k.bits x &&& BitVec.ofInt k.bits y).toNat
def orI (k : IntKind) (x y : Int) : Int := k.wrap (BitVec.ofInt k.bits x ||| BitVec.ofInt k.bits y).toNat
def xorI (k : IntKind) (x y : Int) : Int := k.wrap (BitVec.ofInt k.bits x ^^^ BitVec.ofInt k.bits y).toNat
def andNotI (k : IntKind) (x y : Int) : Int := k.wrap (BitVec.ofInt k.bits x &&& ~~~ BitVec.ofInt k.bits y).toNat
def shlI (k : IntKind) (x y : Int) : Int := k.wrap (x * 2 ^ (min y.toNat k.bits))
def shrI (k : IntKind) (x y : Int) : Int := x.fdiv (2 ^ (min y.toNat k.bits))
def binInt (op : BinOp) (k : IntKind) (x y : Int) : Option LV :=
  match op with
  | .add => some (.int k (k.wrap (x + y)))
  | .sub => some (.int k (k.wrap (x - y)))
  | .mul => some (.int k (k.wrap (x * y)))
  | .and => some (.int k (andI k x y))
  | .or => some (.int k (orI k x y))
  | .xor => some (.int k (xorI k x y))
  | .andNot => some (.int k (andNotI k x y))
  | .eql => some (.bool (x == y))
  | .neq => some (.bool (x != y))
  | .lss => some (.bool (decide (x < y)))
  | .leq => some (.bool (decide (x ≤ y)))
  | .gtr => some (.bool (decide (x > y)))
  | .geq => some (.bool (decide (x ≥ y)))
  | .quo => match y with
    | .ofNat (n + 1) => some (.int k (k.wrap (x.tdiv (.ofNat (n + 1)))))
    | _ => none
  | .rem => match y with
    | .ofNat (n + 1) => some (.int k (x.tmod (.ofNat (n + 1))))
    | _ => none
  | .shl | .shr => none
theorem binInt_run {op : BinOp} {k : IntKind} {x y : Int} {l : LV} (h : binInt op k x y = some l) (P : Program) (w : World) (t : TypeId) :
    ∃ v, (binOp op t (.int k x) (.int k y)).run P w = .ok v w ∧ l.plain = true ∧ LVrel (fun _ => False) w l v := by
  have hk : ¬ (k ≠ k) := fun h => h rfl
  unfold binInt at h
  split at h
  case h_14 =>
    split at h
    · rename_i n
      cases h
      have hn : ¬ (Int.ofNat (n + 1) = 0) := by simp; omega
      exact ⟨_, by simp only [binOp, Op.intDiv]; rw [if_neg hk, if_neg hn]; rfl, rfl, .int _ _⟩
    · cases h
  case h_15 =>
    split at h
    · rename_i n
      cases h
      have hn : ¬ (Int.ofNat (n + 1) = 0) := by simp; omega
      exact ⟨_, by simp only [binOp, Op.intDiv]; rw [if_neg hk, if_neg hn]; rfl, rfl, .int _ _⟩
    · cases h
  all_goals first
    | (cases h; done)
    | (cases h; exact ⟨_, by simp only [binOp]; rw [if_neg hk]; rfl, rfl, .int _ _⟩)
    | (cases h; exact ⟨_, by simp only [binOp]; rw [if_neg hk]; rfl, rfl, .bool _⟩)
    | (cases h; exact ⟨_, by simp only [binOp, Op.intBits]; rw [if_neg hk]; rfl, rfl, .int _ _⟩)

def findBx : List Bx → Nat → Option Bx
  | [], _ => none
  | b :: l, k => match Nat.beq b.lab k with
    | true => some b
    | false => findBx l k
theorem findBx_spec {l : List Bx} {k : Nat} {b : Bx} (h : findBx l k = some b) : b ∈ l ∧ b.lab = k := by
  induction l with
  | nil => cases h
  | cons c l ih =>
    rw [findBx] at h
    split at h
    · rename_i hb; cases h; exact ⟨List.mem_cons_self, Nat.eq_of_beq_eq_true hb⟩
    · obtain ⟨h1, h2⟩ := ih h; exact ⟨List.mem_cons_of_mem _ h1, h2⟩
def binStr (op : BinOp) (x y : List UInt8) : Option LV :=
  match op with
  | .eql => some (.bool (x == y))
  | .neq => some (.bool (!(x == y)))
  | .lss => some (.bool (Op.bytesLess x y))
  | .leq => some (.bool (Op.bytesLess x y || x == y))
  | .gtr => some (.bool (!(Op.bytesLess x y || x == y)))
  | .geq => some (.bool (!(Op.bytesLess x y)))
  | _ => none
def binBool (op : BinOp) (d : Option TypeDesc) (x y : Bool) : Option LV :=
  match op, d with
  | .eql, some .bool => some (.bool (x == y))
  | .neq, some .bool => some (.bool (!(x == y)))
  | _, _ => none
def fieldOff (P : Program) (s : TypeId) (f : Nat) : Option Nat :=
  match P.underlying s with
  | some (.struct fs) => match fs[f]? with
    | some fd => match P.info? fd.type with
      | some i => match Nat.beq i.size 0 with
        | true => none
        | false => some fd.offset
      | none => none
    | none => none
  | _ => none
def oneCellType (P : Program) (t : TypeId) : Bool :=
  match P.underlying t with
  | some (.struct _) | some (.array _ _) | none => false
  | some _ => true
def lenAV (d : Option TypeDesc) (x : AV) : Option AV :=
  match d, x with
  | some (.slice _), .sl _ _ xs => some (.lf (.int .i64 xs.length))
  | some (.slice _), .own _ _ _ _ xs => some (.lf (.int .i64 xs.length))
  | some (.slice _), .lf (.val (.slice _ n _)) => some (.lf (.int .i64 n))
  | some .string, .lf (.str l) => some (.lf (.int .i64 l.length))
  | _, _ => none
def callAV (P : Program) (ρ : Operand → Option AV) (c : Callee) (args : List Operand) (ts : List TypeId) : Option AV :=
  match c, args, ts with
  | .builtin .len, [x], [t] => match ρ x with
    | some av => lenAV (P.underlying t) av
    | none => none
  | .builtin .min, [x, y], _ => match ρ x, ρ y with
    | some (.lf (.int k m)), some (.lf (.int j n)) => match kindsEq k j with
      | true => some (.lf (.int k (if n < m then n else m)))
      | false => none
    | _, _ => none
  | .builtin .max, [x, y], _ => match ρ x, ρ y with
    | some (.lf (.int k m)), some (.lf (.int j n)) => match kindsEq k j with
      | true => some (.lf (.int k (if m < n then n else m)))
      | false => none
    | _, _ => none
  | _, _, _ => none
def evalOp (P : Program) (ρ : Operand → Option AV) (bx : List Bx) : Op → Option AV
  | .move x | .assign x => ρ x
  | .pick c a b => match ρ c with
    | some (.lf (.bool true)) => ρ a
    | some (.lf (.bool false)) => ρ b
    | _ => none
  | .binOp op t x y _ => match ρ x, ρ y with
    | some (.lf (.int k m)), some (.lf (.int j n)) => match kindsEq k j with
      | true => (binInt op k m n).map .lf
      | false => none
    | some (.lf (.str l)), some (.lf (.str m)) => (binStr op l m).map .lf
    | some (.lf (.bool a)), some (.lf (.bool b)) => (binBool op (P.underlying t) a b).map .lf
    | _, _ => none
  | .unOp op _ x => match op, ρ x with
    | .not, some (.lf (.bool b)) => some (.lf (.bool (!b)))
    | .neg, some (.lf (.int k n)) => some (.lf (.int k (k.wrap (0 - n))))
    | _, _ => none
  | .convert s d x => match P.underlying s, P.underlying d, ρ x with
    | some _, some (.int k), some (.lf (.int _ n)) => some (.lf (.int k (k.wrap n)))
    | some .string, some .string, some (.lf (.str l)) => some (.lf (.str l))
    | _, _, _ => none
  | .extract x i => match ρ x with
    | some (.tup l) => l[i]?
    | _ => none
  | .call c => callAV P ρ c.callee c.args.toList c.argTypes.toList
  | .fieldAddr s x f => match fieldOff P s f, ρ x with
    | some o, some (.ptr ℓ off) => some (.ptr ℓ (off + o))
    | some o, some (.ep r C y off) => some (.ep r C y (off + o))
    | _, _ => none
  | .load t x => match oneCellType P t, ρ x with
    | true, some (.ptr ℓ off) => match findBx bx ℓ with
      | some b => b.avs[off]?
      | none => none
    | true, some (.ep r _ y off) => match (r.lv y)[off]? with
      | some l => match l.plain with
        | true => some (.lf l)
        | false => none
      | none => none
    | _, _ => none
  | _ => none

theorem relL_get {γ : Gh} {w : World} {l : List AV} {vs : List Value} (h : AV.relL γ w l vs) {i : Nat} {a : AV} (hi : l[i]? = some a) : ∃ v, vs[i]? = some v ∧ a.rel γ w v := by
  induction l generalizing vs i with
  | nil => cases hi
  | cons b l ih =>
    obtain ⟨v, vs', rfl, h1, h2⟩ := h
    cases i with
    | zero => cases hi; exact ⟨v, rfl, h1⟩
    | succ i => exact ih h2 hi
theorem relL_length {γ : Gh} {w : World} {l : List AV} {vs : List Value} (h : AV.relL γ w l vs) : vs.length = l.length := by
  induction l generalizing vs with
  | nil => cases h; rfl
  | cons b l ih => obtain ⟨v, vs', rfl, h1, h2⟩ := h; simp [ih h2]
theorem lf_int {γ : Gh} {w : World} {k : IntKind} {n : Int} {v : Value} (h : AV.rel γ w (.lf (.int k n)) v) : v = .int k n := by cases h.2; rfl
theorem lf_bool {γ : Gh} {w : World} {b : Bool} {v : Value} (h : AV.rel γ w (.lf (.bool b)) v) : v = .bool b := by cases h.2; rfl
theorem lf_str {γ : Gh} {w : World} {l : List UInt8} {v : Value} (h : AV.rel γ w (.lf (.str l)) v) : v = .string ⟨l.toArray⟩ := by cases h.2; rfl
theorem lf_val {γ : Gh} {w : World} {u v : Value} (h : AV.rel γ w (.lf (.val u)) v) : v = u := by cases h.2; rfl
theorem mk_int (γ : Gh) (w : World) (k : IntKind) (n : Int) : AV.rel γ w (.lf (.int k n)) (.int k n) := ⟨rfl, .int _ _⟩
theorem mk_bool (γ : Gh) (w : World) (b : Bool) : AV.rel γ w (.lf (.bool b)) (.bool b) := ⟨rfl, .bool _⟩
theorem mk_str (γ : Gh) (w : World) (l : List UInt8) : AV.rel γ w (.lf (.str l)) (.string ⟨l.toArray⟩) := ⟨rfl, .str _⟩
theorem sl_form {γ : Gh} {w : World} {α : Type} {r : Rp α} {C : List Nat} {xs : List α} {v : Value} (h : AV.rel γ w (.sl r C xs) v) : ∃ A c, v = .slice A xs.length c ∧ xs.length ≤ c ∧ c ≤ maxLen := by
  have h' : LVrel (γ.F C) w (.sl xs.length r.size (xs.flatMap r.lv)) v := h
  cases h' with
  | sl _ _ _ A c cs _ _ hc hm => exact ⟨A, c, rfl, hc, hm⟩
theorem own_form' {γ : Gh} {w : World} {α : Type} {r : Rp α} {e : TypeId} {ℓ : Nat} {C : List Nat} {xs : List α} {v : Value} (h : AV.rel γ w (.own r e ℓ C xs) v) : ∃ A c, v = .slice A xs.length c ∧ xs.length ≤ c ∧ c ≤ maxLen := by
  obtain ⟨cs, ho, _⟩ := h
  rcases ho.2 with ⟨rfl, h0⟩ | ⟨g, cap, cur, rfl, _, _, hc, hm, _⟩
  · rw [h0]; exact ⟨none, 0, rfl, Nat.le_refl _, Nat.zero_le _⟩
  · exact ⟨_, _, rfl, hc, hm⟩
theorem binStr_run {op : BinOp} {x y : List UInt8} {l : LV} (h : binStr op x y = some l) (P : Program) (w : World) (t : TypeId) :
    ∃ v, (binOp op t (.string ⟨x.toArray⟩) (.string ⟨y.toArray⟩)).run P w = .ok v w ∧ l.plain = true ∧ LVrel (fun _ => False) w l v := by
  unfold binStr at h
  split at h
  all_goals first
    | (cases h; done)
    | (cases h; exact ⟨_, by simp only [binOp, Op.stringOp, ByteArray.toList_mk]; rfl, rfl, .bool _⟩)
theorem binBool_run {P : Program} {op : BinOp} {t : TypeId} {x y : Bool} {l : LV} (h : binBool op (P.underlying t) x y = some l) (w : World) :
    ∃ v, (binOp op t (.bool x) (.bool y)).run P w = .ok v w ∧ l.plain = true ∧ LVrel (fun _ => False) w l v := by
  unfold binBool at h
  split at h
  all_goals first
    | (cases h; done)
    | (rename_i hu; cases h
       have hd : ∀ d : Nat, (Op.equalIn (d + 1) t (.bool x) (.bool y)).run P w = .ok (x == y) w := fun d => by simp [Op.equalIn, run_underlying hu]
       exact ⟨_, by simp only [binOp]; simp [Op.equal, Op.maxDepth, hd 9999], rfl, .bool _⟩)
theorem lenAV_run {P : Program} {t : TypeId} {x av : AV} (h : lenAV (P.underlying t) x = some av) {γ : Gh} {w : World} {v : Value} (hx : x.rel γ w v) (ty : TypeId) :
    ∃ u, (Builtin.len_ #[t] ty #[v]).run P w = .ok u w ∧ av.rel γ w u := by
  unfold lenAV at h
  split at h
  · rename_i hu; cases h
    obtain ⟨A, c, rfl, _⟩ := sl_form hx
    exact ⟨_, by simp [Builtin.len_, run_underlying hu, goInt], mk_int _ _ _ _⟩
  · rename_i hu; cases h
    obtain ⟨A, c, rfl, _⟩ := own_form' hx
    exact ⟨_, by simp [Builtin.len_, run_underlying hu, goInt], mk_int _ _ _ _⟩
  · rename_i hu; cases h
    rw [lf_val hx]
    exact ⟨_, by simp [Builtin.len_, run_underlying hu, goInt], mk_int _ _ _ _⟩
  · rename_i hu; cases h
    rw [lf_str hx]
    exact ⟨_, by simp [Builtin.len_, run_underlying hu, goInt, ByteArray.size_mk'], mk_int _ _ _ _⟩
  · cases h

/-- What stands in the slots that an operation looks at. -/
def Opds (ρ : Operand → Option AV) (γ : Gh) (w : World) (ev : Operand → Value) (l : List Operand) : Prop := ∀ x ∈ l, ∀ av, ρ x = some av → av.rel γ w (ev x)

theorem eqg_int (P : Program) (op : BinOp) (t : TypeId) (x y : Operand) (k : IntKind) (n : Int) (b : Value) (w : World) : (eqGuard op t x y (.int k n) b).run P w = .ok () w := by
  unfold eqGuard
  split <;> rfl
theorem eqg_str (P : Program) (op : BinOp) (t : TypeId) (x y : Operand) (s : ByteArray) (b : Value) (w : World) : (eqGuard op t x y (.string s) b).run P w = .ok () w := by
  unfold eqGuard
  split <;> rfl
theorem eqg_bool (P : Program) (op : BinOp) (t : TypeId) (x y : Operand) (s : Bool) (b : Value) (w : World) : (eqGuard op t x y (.bool s) b).run P w = .ok () w := by
  unfold eqGuard
  split <;> rfl
theorem fieldOff_spec {P : Program} {s : TypeId} {f o : Nat} (h : fieldOff P s f = some o) : ∃ fs fd i, P.underlying s = some (.struct fs) ∧ fs[f]? = some fd ∧ P.info? fd.type = some i ∧ i.size ≠ 0 ∧ fd.offset = o := by
  unfold fieldOff at h
  split at h
  · rename_i fs hs
    split at h
    · rename_i fd hf
      split at h
      · rename_i i hi
        split at h
        · cases h
        · rename_i hb; cases h; exact ⟨fs, fd, i, hs, hf, hi, fun e => by rw [e] at hb; simp at hb, rfl⟩
      · cases h
    · cases h
  · cases h
theorem addr_add (b o n : Nat) : (⟨b, o, none⟩ : Addr).add n = ⟨b, o + n, none⟩ := by unfold Addr.add; split <;> simp_all
theorem run_fieldAt {P : Program} {s : TypeId} {f o : Nat} (h : fieldOff P s f = some o) (b off : Nat) (w : World) : (Instr.fieldAt s (.pointer (some ⟨b, off, none⟩)) f).run P w = .ok (.pointer (some ⟨b, off + o, none⟩)) w := by
  obtain ⟨fs, fd, i, hs, hf, hi, hn, rfl⟩ := fieldOff_spec h
  simp [Instr.fieldAt, run_underlying hs, hf, Instr.sureAddr, fieldPlace, sizeOf, typeInfo, hi, hn, addr_add]
theorem run_loadAt_one {P : Program} {t : TypeId} (h : oneCellType P t = true) {b off : Nat} {w : World} {v : Value} (hc : w.cell? ⟨b, off, none⟩ = some v) : (Instr.loadAt t (.pointer (some ⟨b, off, none⟩))).run P w = .ok v w := by
  unfold oneCellType at h
  split at h
  · cases h
  · cases h
  · cases h
  · rename_i d h1 h2 hu
    have hi : (isAgg t).run P w = .ok false w := by
      cases d <;> simp [isAgg, run_underlying hu] <;> first | (exact h1 _ rfl) | (exact h2 _ _ rfl) | rfl
    simp [Instr.loadAt, Instr.sureAddr, loadVar, hi, load, Sem.run, hc]
theorem Bx.cell {γ : Gh} {w : World} {b : Bx} (h : b.rel γ w) {off : Nat} {a : AV} (ha : b.avs[off]? = some a) : ∃ v, w.cell? ⟨γ.box b.lab, off, none⟩ = some v ∧ a.rel γ w v := by
  obtain ⟨_, cs, hh, hr, _⟩ := h
  obtain ⟨v, hv, ha⟩ := relL_get hr ha
  exact ⟨v, by rw [cell_of_row w _ off _ _ _ hh]; simpa using hv, ha⟩
theorem run_min2 (P : Program) (w : World) (k j : IntKind) (m n : Int) (ts : Array TypeId) (ty : TypeId) : (Builtin.min_ ts ty #[.int k m, .int j n]).run P w = .ok (.int k (if n < m then n else m)) w := by
  simp [Builtin.min_, Builtin.min2]
theorem run_max2 (P : Program) (w : World) (k j : IntKind) (m n : Int) (ts : Array TypeId) (ty : TypeId) : (Builtin.max_ ts ty #[.int k m, .int j n]).run P w = .ok (.int k (if m < n then n else m)) w := by
  simp [Builtin.max_, Builtin.max2]
theorem run_builtin_call {P : Program} {ev : Operand → Value} {o : Oper} {b : Builtin} {args : List Operand} {ts : List TypeId} {c : Call} (ho : o.op = .call c) (hc : c.callee = .builtin b) (ha : c.args.toList = args) (ht : c.argTypes.toList = ts) {w w' : World} {v : Value}
    (h : ∀ consts, (Go.builtin b ts.toArray o.type consts (args.map ev).toArray).run P w = .ok (.value v) w') : (execOp ev o).run P w = .ok (.value v) w' := by
  obtain ⟨callee, args', ts'⟩ := c
  simp only at hc ha ht
  subst hc
  have e1 : args' = args.toArray := by rw [← ha]
  have e2 : ts' = ts.toArray := by rw [← ht]
  subst e1 e2
  simp only [execOp, ho, resolve, Sem.run_bind, Sem.run_pure, Result.andThen_ok, invoke, List.map_toArray]
  exact h _

theorem callAV_run {P : Program} {ρ : Operand → Option AV} {o : Oper} {c : Call} {av : AV} (ho : o.op = .call c) (h : callAV P ρ c.callee c.args.toList c.argTypes.toList = some av)
    {γ : Gh} {w : World} {ev : Operand → Value} (hρ : Opds ρ γ w ev c.args.toList) : ∃ v, (execOp ev o).run P w = .ok (.value v) w ∧ av.rel γ w v := by
  generalize ha : c.args.toList = args at h hρ
  generalize ht : c.argTypes.toList = ts at h
  generalize hc : c.callee = cal at h
  unfold callAV at h
  split at h
  · rename_i x t
    split at h
    · rename_i a hx
      obtain ⟨v, hv, hr⟩ := lenAV_run h (hρ x List.mem_cons_self a hx) o.type
      exact ⟨v, run_builtin_call ho hc ha ht fun consts => by simp [builtin, hv], hr⟩
    · cases h
  · rename_i x y
    split at h
    · rename_i k m j n hx hy
      split at h
      · rename_i hk
        cases h
        have h1 := lf_int (hρ x List.mem_cons_self _ hx)
        have h2 := lf_int (hρ y (List.mem_cons_of_mem _ List.mem_cons_self) _ hy)
        exact ⟨_, run_builtin_call ho hc ha ht fun consts => by simp [builtin, h1, h2, run_min2], mk_int _ _ _ _⟩
      · cases h
    · cases h
  · rename_i x y
    split at h
    · rename_i k m j n hx hy
      split at h
      · rename_i hk
        cases h
        have h1 := lf_int (hρ x List.mem_cons_self _ hx)
        have h2 := lf_int (hρ y (List.mem_cons_of_mem _ List.mem_cons_self) _ hy)
        exact ⟨_, run_builtin_call ho hc ha ht fun consts => by simp [builtin, h1, h2, run_max2], mk_int _ _ _ _⟩
      · cases h
    · cases h
  · cases h

theorem evalOp_run {P : Program} {ρ : Operand → Option AV} {bx : List Bx} {o : Oper} {av : AV} (h : evalOp P ρ bx o.op = some av) {γ : Gh} {w : World} {ev : Operand → Value}
    (hρ : Opds ρ γ w ev o.op.operands.toList) (hb : Bxs γ w bx) : ∃ v, (execOp ev o).run P w = .ok (.value v) w ∧ av.rel γ w v := by
  generalize hop : o.op = op at h hρ
  unfold evalOp at h
  split at h
  case h_1 x => exact ⟨_, by simp [execOp, hop], hρ x (by simp [Op.operands]) _ h⟩
  case h_2 x => exact ⟨_, by simp [execOp, hop], hρ x (by simp [Op.operands]) _ h⟩
  case h_3 c a b =>
    split at h
    · rename_i hc
      have := lf_bool (hρ c (by simp [Op.operands]) _ hc)
      exact ⟨_, by simp [execOp, hop, this, asBool], hρ a (by simp [Op.operands]) _ h⟩
    · rename_i hc
      have := lf_bool (hρ c (by simp [Op.operands]) _ hc)
      exact ⟨_, by simp [execOp, hop, this, asBool], hρ b (by simp [Op.operands]) _ h⟩
    · cases h
  case h_4 bop t x y yt =>
    split at h
    · rename_i k m j n hx hy
      have h1 := lf_int (hρ x (by simp [Op.operands]) _ hx)
      have h2 := lf_int (hρ y (by simp [Op.operands]) _ hy)
      split at h
      · rename_i hk
        have := kindsEq_spec hk
        subst this
        cases hl : binInt bop k m n with
        | none => rw [hl] at h; cases h
        | some l =>
          rw [hl] at h; cases h
          obtain ⟨v, hv, hp, hr⟩ := binInt_run hl P w t
          exact ⟨v, by simp [execOp, hop, h1, h2, eqg_int, hv], hp, hr⟩
      · cases h
    · rename_i l m hx hy
      have h1 := lf_str (hρ x (by simp [Op.operands]) _ hx)
      have h2 := lf_str (hρ y (by simp [Op.operands]) _ hy)
      cases hl : binStr bop l m with
      | none => rw [hl] at h; cases h
      | some l' =>
        rw [hl] at h; cases h
        obtain ⟨v, hv, hp, hr⟩ := binStr_run hl P w t
        exact ⟨v, by simp [execOp, hop, h1, h2, eqg_str, hv], hp, hr⟩
    · rename_i a b hx hy
      have h1 := lf_bool (hρ x (by simp [Op.operands]) _ hx)
      have h2 := lf_bool (hρ y (by simp [Op.operands]) _ hy)
      cases hl : binBool bop (P.underlying t) a b with
      | none => rw [hl] at h; cases h
      | some l' =>
        rw [hl] at h; cases h
        obtain ⟨v, hv, hp, hr⟩ := binBool_run hl w
        exact ⟨v, by simp [execOp, hop, h1, h2, eqg_bool, hv], hp, hr⟩
    · cases h
  case h_5 uop t x =>
    split at h
    · rename_i b hx
      cases h
      have h1 := lf_bool (hρ x (by simp [Op.operands]) _ hx)
      exact ⟨_, by simp [execOp, hop, h1, Op.unary], mk_bool _ _ _⟩
    · rename_i k n hx
      cases h
      have h1 := lf_int (hρ x (by simp [Op.operands]) _ hx)
      exact ⟨_, by simp [execOp, hop, h1, Op.unary, Op.intArith], mk_int _ _ _ _⟩
    · cases h
  case h_6 s d x =>
    split at h
    · rename_i k _ n hs hd hx
      cases h
      have h1 := lf_int (hρ x (by simp [Op.operands]) _ hx)
      exact ⟨_, by simp [execOp, hop, h1, convert, run_underlying hs, run_underlying hd, Conv.intToInt], mk_int _ _ _ _⟩
    · rename_i l hs hd hx
      cases h
      have h1 := lf_str (hρ x (by simp [Op.operands]) _ hx)
      exact ⟨_, by simp [execOp, hop, h1, convert, run_underlying hs, run_underlying hd], mk_str _ _ _⟩
    · cases h
  case h_7 x i =>
    split at h
    · rename_i l hx
      obtain ⟨vs, hv, hL⟩ := hρ x (by simp [Op.operands]) _ hx
      obtain ⟨v, hv', hr⟩ := relL_get hL h
      exact ⟨v, by simp [execOp, hop, hv, Instr.extract, hv'], hr⟩
    · cases h
  case h_8 c => exact callAV_run hop h (fun x hx => hρ x (by simp only [Op.operands, Call.operands]; simp; exact .inr (by simpa using hx)))
  case h_9 s x f =>
    split at h
    · rename_i n ℓ off hf hx
      cases h
      have h1 : ev x = _ := hρ x (by simp [Op.operands]) _ hx
      exact ⟨_, by simp [execOp, hop, h1, run_fieldAt hf], rfl⟩
    · rename_i n α r C y off hf hx
      cases h
      obtain ⟨b, o', cs, hv, hF, hlt, hA, hc⟩ := hρ x (by simp [Op.operands]) _ hx
      exact ⟨_, by simp [execOp, hop, hv, run_fieldAt hf]; rfl, b, o', cs, by rw [Nat.add_assoc], hF, hlt, hA, hc⟩
    · cases h
  case h_10 t x =>
    split at h
    · rename_i ℓ off ht hx
      have h1 : ev x = _ := hρ x (by simp [Op.operands]) _ hx
      split at h
      · rename_i b hfb
        obtain ⟨hm, rfl⟩ := findBx_spec hfb
        obtain ⟨v, hv, hr⟩ := Bx.cell (hb b hm) h
        exact ⟨v, by simp [execOp, hop, h1, run_loadAt_one ht hv], hr⟩
      · cases h
    · rename_i α r C y off ht hx
      obtain ⟨b, o', cs, hv, hF, hlt, hA, hc⟩ := hρ x (by simp [Op.operands]) _ hx
      split at h
      · rename_i l hl
        split at h
        · rename_i hp
          cases h
          have hlen : off < cs.length := by rw [← hA.1]; exact (List.getElem?_eq_some_iff.1 hl).1
          have hr := hA.2 off l _ hl (List.getElem?_eq_getElem hlen)
          have hcell := hc off hlen
          rw [List.getElem?_eq_getElem hlen] at hcell
          exact ⟨_, by simp [execOp, hop, hv, run_loadAt_one ht hcell], hp, hr.plain hp⟩
        · cases h
      · cases h
    · cases h
  case h_11 => cases h
end Go.Proofs.Ytnhnanbgphdaeaa
