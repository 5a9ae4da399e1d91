/-
  What every proof here stands on. No condition.
-/
import Derived.MapKept
import Derived.DeepKeys
import Derived.Lib.AppendZeros
import Derived.Lib.Bytealg
import Derived.Lib.AppendStr
import Derived.RangeFuncRecord
import Derived.RangeFuncSeq
import Derived.RangeFuncBound
import Derived.Lib.SlBytesConst
import Derived.Test.YtglkepeofhonlaaGreatDoorK1
namespace Go.Proofs.YtglkepeofhonlaaGreatDoor
open Go Go.RowKit
set_option linter.unusedVariables false
set_option linter.unusedSectionVars false
def mget {κ ν : Type} [DecidableEq κ] : List (κ × ν) → κ → Option ν
 | [], _ => none
 | p :: m, k => if k = p.1 then some p.2 else mget m k
def mput {κ ν : Type} [DecidableEq κ] : List (κ × ν) → κ → ν → List (κ × ν)
 | [], k, x => [(k, x)]
 | p :: m, k, x => if k = p.1 then (k, x) :: m else p :: mput m k x
theorem zgT {κ ν : Type} [DecidableEq κ] (m : List (κ × ν)) (k j : κ) (x : ν) : mget (mput m k x) j = if j = k then some x else mget m j := by
 induction m with
 | nil => simp only [mput, mget]
 | cons p m ih =>
  rw [mput]
  by_cases h : k = p.1
  ·rw [if_pos h, mget, mget]
   by_cases hj : j = k
   ·rw [if_pos hj, if_pos hj]
   ·rw [if_neg hj, if_neg hj, if_neg (by rw [← h]; exact hj)]
  ·rw [if_neg h, mget, mget, ih]
   by_cases hj : j = p.1
   ·have : j ≠ k := fun e => h (by rw [← e, hj])
    rw [if_pos hj, if_pos hj, if_neg this]
   ·rw [if_neg hj, if_neg hj]
theorem zzr {κ ν : Type} [DecidableEq κ] {m : List (κ × ν)} {k : κ} (h : mget m k = none) : k ∉ m.map Prod.fst := by
 induction m with
 | nil => simp
 | cons p m ih =>
  rw [mget] at h
  split at h
  ·cases h
  ·rename_i hk
   simp only [List.map_cons, List.mem_cons, not_or]
   exact ⟨hk, ih h⟩
theorem zqL {κ ν : Type} [DecidableEq κ] (m : List (κ × ν)) (k : κ) (x : ν) : (mput m k x).map Prod.fst = match mget m k with
  | none => m.map Prod.fst ++ [k]
  | some _ => m.map Prod.fst := by
 induction m with
 | nil => rfl
 | cons p m ih =>
  rw [mput, mget]
  by_cases hk : k = p.1
  ·rw [if_pos hk, if_pos hk]; simp [hk]
  ·rw [if_neg hk, if_neg hk, List.map_cons, ih]
   cases mget m k <;> rfl
theorem zsI {κ ν : Type} [DecidableEq κ] {m : List (κ × ν)} (h : (m.map Prod.fst).Nodup) (k : κ) (x : ν) : ((mput m k x).map Prod.fst).Nodup := by
 rw [zqL]
 cases hg : mget m k with
 | none => exact List.nodup_append.2 ⟨h, by simp, fun a ha b hb e => by
   simp only [List.mem_singleton] at hb
   subst hb e
   exact zzr hg ha⟩
 | some y => exact h
theorem zBj {κ ν : Type} {cl : Nat} : StOk ([] : List (κ × ν)) #[] cl := ⟨fun x hx => by simp at hx, by simp, by simp⟩
def zkR {κ ν : Type} [DecidableEq κ] (k : κ) : List (κ × ν) → List MapEntry → Nat → Option (Nat × Value)
 | p :: m, e :: es, i => if k = p.1 then some (i, e.val) else zkR k m es (i + 1)
 | _, _, _ => none
def asV {α : Type} (r : Rp α) (x : α) (D : List Nat) (a : AV) : Prop := ∀ γ w v, a.rel γ w v → VRel (γ.F D) w r x v
theorem ztK {v : Value} (h : v.oneCell' = true) : v.cells = #[v] := by cases v <;> first | rfl | cases h
theorem zzN {α : Type} {F : Fp} {w : World} {r : Rp α} {x : α} {l : LV} {v : Value} (hr : r.agg = false) (hl : r.lv x = [l]) (h : zbC F w l v) : VRel F w r x v := by
 have hc := ztK h.one
 refine ⟨?_, ⟨fun e => ?_, fun _ => hc⟩⟩
 ·rw [hl, hc]
  exact .cons h .nil
 ·rw [hr] at e; cases e
theorem zxa {α : Type} {F : Fp} {w : World} {r : Rp α} {x : α} {l : LV} {v : Value} (hr : r.agg = false) (hl : r.lv x = [l]) (h : VRel F w r x v) : zbC F w l v := by
 have h1 := h.1
 rw [hl, h.2.2 hr] at h1
 exact h1.2 0 l v rfl rfl
theorem zfi {α : Type} {r : Rp α} {x : α} {l : LV} (hr : r.agg = false) (hl : r.lv x = [l]) : asV r x [] (.lf l) := fun γ w v h => zzN hr hl (h.2.plain h.1)
theorem zdH {α : Type} {r : Rp α} {x : α} {C : List Nat} (hr : r.agg = true) : asV r x C (.rc r C x) := fun γ w v ⟨cs, hv, hA⟩ => by
 subst hv
 refine ⟨by simpa [Value.cells] using hA, ⟨fun _ => ⟨cs, rfl⟩, fun e => ?_⟩⟩
 rw [hr] at e; cases e
theorem asV.sub {α : Type} {r : Rp α} {x : α} {D D' : List Nat} {a : AV} (h : asV r x D a) (hs : subN D D' = true) : asV r x D' a := fun γ w v hv => (h γ w v hv).mono fun b _ hb => zbi hs _ hb
def elAV {α : Type} (r : Rp α) (C : List Nat) (x : α) (a : AV) : Prop := ∀ γ w v, VRel (γ.F C) w r x v → a.rel γ w v
theorem zBE {α : Type} {r : Rp α} {C : List Nat} {x : α} (hr : r.agg = true) : elAV r C x (.rc r C x) := fun γ w v h => by
 obtain ⟨cs, rfl⟩ := h.2.1 hr
 exact ⟨cs, rfl, by simpa [Value.cells] using h.1⟩
theorem zmh {α : Type} {r : Rp α} {C : List Nat} {x : α} {l : LV} (hr : r.agg = false) (hl : r.lv x = [l]) (hp : l.plain = true) : elAV r C x (.lf l) := fun γ w v h => ⟨hp, (zxa hr hl h).plain hp⟩
structure KeyT (P : Program) {κ : Type} [DecidableEq κ] (kt : TypeId) (r : Rp κ) : Prop where
 check : ∀ (w : World) (e : Bool) (F : Fp) (k : κ) (v : Value), VRel F w r k v → (Instr.checkKey e 10000 kt v).run P w = .ok () w
 find : ∀ (w : World) (F F' : Fp) (k : κ) (v : Value) (ν : Type) (rv : Rp ν) (m : List (κ × ν)) (es : List MapEntry), VRel F w r k v → zdE F' w r rv m es → (Instr.findKey kt v es).run P w = .ok (zkR k m es 0) w
 stays : ∀ (w : World) (F F' : Fp) (k : κ) (v v' : Value), VRel F w r k v → VRel F' w r k v' → Instr.sameBits 10000 v v' = true
theorem zts {α : Type} {F : Fp} {w : World} {r : Rp α} {x : α} {l : LV} {v : Value} (hr : r.agg = false) (hl : r.lv x = [l]) (hp : l.plain = true) (h : VRel F w r x v) : v = zbY l := zsc (zxa hr hl h) hp
theorem zAi {P : Program} {κ ν : Type} [DecidableEq κ] {kt : TypeId} {d : TypeDesc} {r : Rp κ} {rv : Rp ν} (hu : P.underlying kt = some d) (hs : ∀ (F F' : Fp) (w : World) (a b : κ) (u v : Value), VRel F w r a u → VRel F' w r b v → Instr.sameNow d u v = some (decide (a = b)))
  (w : World) (F F' : Fp) (k : κ) (v : Value) (m : List (κ × ν)) (es : List MapEntry) (hk : VRel F w r k v) (he : zdE F' w r rv m es) : (Instr.findKey kt v es).run P w = .ok (zkR k m es 0) w := by
 have key : ∀ i, Instr.findNow d v es i = some (zkR k m es i) := by
  induction he with
  | nil => intro i; rfl
  | cons h1 h2 _ ih =>
   intro i
   rw [Instr.findNow, hs _ _ w _ _ _ _ hk h1, zkR]
   split
   ·rename_i h; rw [if_pos (by simpa using h)]
   ·rename_i h; rw [if_neg (by simpa using h), ih]
   ·rename_i h; cases h
 simp [Instr.findKey, run_underlying hu, key 0]
def zAZ : TypeDesc → Bool
 | .int _ | .bool | .string => true
 | _ => false
theorem zgH {P : Program} {t : TypeId} {d : TypeDesc} (hu : P.underlying t = some d) (hd : zAZ d = true) (e : Bool) (n : Nat) (v : Value) (w : World) : (Instr.checkKey e (n + 1) t v).run P w = .ok () w := by
 rw [Instr.checkKey]
 simp only [Sem.run_bind, run_underlying hu, Result.andThen_ok]
 cases d <;> first | (cases v <;> rfl; done) | cases hd
theorem zlu (n : Nat) {l : LV} (h : l.plain = true) (hv : ∀ v, l ≠ .val v) : Instr.sameBits n (zbY l) (zbY l) = true := by
 cases l with
 | int k a => cases n <;> simp [Instr.sameBits, zbY]
 | bool b => cases n <;> simp [Instr.sameBits, zbY]
 | str s =>
  have : (({ data := s.toArray } : ByteArray) == { data := s.toArray }) = true := by rw [beq_toListBytes]; simp
  cases n <;> simp [Instr.sameBits, zbY, this]
 | sl => cases h
 | val v => exact absurd rfl (hv v)
theorem zxz {P : Program} {κ : Type} [DecidableEq κ] {kt : TypeId} {d : TypeDesc} {r : Rp κ} (hu : P.underlying kt = some d) (hd : zAZ d = true) (lf : κ → LV) (hr : r.agg = false) (hl : ∀ x, r.lv x = [lf x]) (hp : ∀ x, (lf x).plain = true) (hv : ∀ x v, lf x ≠ .val v)
  (hs : ∀ a b, Instr.sameNow d (zbY (lf a)) (zbY (lf b)) = some (decide (a = b))) : KeyT P kt r := by
 have hc : ∀ {F : Fp} {w : World} {x : κ} {v : Value}, VRel F w r x v → v = zbY (lf x) := fun {F w x v} h => zts hr (hl x) (hp x) h
 refine ⟨fun w e F x v h => zgH hu hd e 9999 v w, fun w F F' x v ν rv m es h he => zAi hu (fun F F' w a b u v h1 h2 => ?_) w F F' x v m es h he, fun w F F' x v v' h h' => ?_⟩
 ·rw [hc h1, hc h2]; exact hs a b
 ·rw [hc h, hc h']; exact zlu _ (hp x) (hv x)
theorem zAx {P : Program} {kt : TypeId} {k : IntKind} (hu : P.underlying kt = some (.int k)) : KeyT P kt (Rp.int k) :=
 zxz hu rfl (fun x => .int k x) rfl (fun _ => rfl) (fun _ => rfl) (fun _ _ => nofun) fun a b => by simp only [Instr.sameNow, zbY, if_true, Option.some.injEq]; by_cases h : a = b <;> simp [h]
theorem ztr {α : Type} {F : Fp} {w : World} {r : Rp α} {x : α} {v : Value} (hr : r.agg = true) (hp : (r.lv x).all LV.plain = true) (h : VRel F w r x v) : v = .agg ((r.lv x).map zbY).toArray := by
 obtain ⟨cs, rfl⟩ := h.2.1 hr
 have h1 := h.1
 simp only [Value.cells] at h1
 rw [← zvF h1 hp]
theorem znt {P : Program} : ∀ (fs : List Field) (ls : List LV) (off : Nat), zmI P off fs ls = true → ls.all LV.plain = true ∧ ∀ l ∈ ls, ∀ v, l ≠ .val v
 | [], [], _, _ => ⟨rfl, nofun⟩
 | f :: fs, l :: ls, off, h => by
  simp only [zmI, Bool.and_eq_true] at h
  obtain ⟨⟨⟨⟨_, _⟩, _⟩, hk⟩, h2⟩ := h
  obtain ⟨i1, i2⟩ := znt fs ls _ h2
  have : l.plain = true ∧ ∀ v, l ≠ .val v := by
   unfold zmk at hk
   split at hk <;> first | exact ⟨rfl, nofun⟩ | cases hk
  refine ⟨by simp [this.1, i1], fun x hx => ?_⟩
  cases hx with
  | head => exact this.2
  | tail _ hx => exact i2 x hx
 | [], _ :: _, _, h => by cases h
 | _ :: _, [], _, h => by cases h
theorem zmP {P : Program} {xs : Array Value} (e : Bool) (n : Nat) (w : World) : ∀ (fs : List Field) (ls : List LV) (off : Nat), zmI P off fs ls = true → (∀ i, i < ls.length → xs[off + i]? = (ls.map zbY)[i]?) →
  (forIn (m := Sem) fs PUnit.unit fun f _ => if f.name ≠ "_" then (do let p ← part f.type xs f.offset; Instr.checkKey e (n + 1) f.type p; pure (ForInStep.yield PUnit.unit)) else pure (ForInStep.yield PUnit.unit)).run P w = .ok PUnit.unit w
 | [], [], _, _, _ => rfl
 | f :: fs, l :: ls, off, h, hx => by
  simp only [zmI, Bool.and_eq_true] at h
  obtain ⟨⟨⟨⟨a1, a2⟩, a3⟩, a4⟩, a5⟩ := h
  have hn : f.name ≠ "_" := by simpa using a1
  have ho := Nat.eq_of_beq_eq_true a2
  have p1 := run_part_plain a3 (xs := xs) (off := f.offset) (v := zbY l) (w := w) (by rw [ho]; simpa using hx 0 (by simp))
  have hc : (Instr.checkKey e (n + 1) f.type (zbY l)).run P w = .ok () w := by
   generalize hu : P.underlying f.type = u at a4
   unfold zmk at a4
   split at a4 <;> first | (exact zgH hu rfl e n _ w) | cases a4
  have ih := zmP e n w fs ls (off + 1) a5 (fun i hi => by have := hx (i + 1) (by simpa using hi); simpa [Nat.add_assoc, Nat.add_comm 1 i] using this)
  simp only [List.forIn_cons, hn, ne_eq, not_false_eq_true, if_true, Sem.run_bind, p1, hc, Result.andThen_ok, Sem.run_pure]
  exact ih
 | [], _ :: _, _, h, _ => by cases h
 | _ :: _, [], _, h, _ => by cases h
theorem zoA {P : Program} {t : TypeId} {fs : Array Field} {ls : List LV} (hu : P.underlying t = some (.struct fs)) (h : zmI P 0 fs.toList ls = true) (e : Bool) (n : Nat) (w : World) :
  (Instr.checkKey e (n + 1 + 1) t (.agg (ls.map zbY).toArray)).run P w = .ok () w := by
 rw [Instr.checkKey]
 simp only [Sem.run_bind, run_underlying hu, Result.andThen_ok]
 rw [← Array.forIn_toList]
 have := zmP (P := P) (xs := (ls.map zbY).toArray) e n w fs.toList ls 0 h (fun i _ => by simp)
 rw [this]
 rfl
theorem zrk {P : Program} {κ ν : Type} [DecidableEq κ] {kt : TypeId} {r : Rp κ} {rv : Rp ν} {w : World} {F' : Fp} {k : κ} {v : Value} {m : List (κ × ν)} {es : List MapEntry}
  (hq : ∀ (b : κ) (u : Value), VRel F' w r b u → (Op.equal kt v u).run P w = .ok (decide (k = b)) w) (he : zdE F' w r rv m es) : ∀ i, (Instr.findAsking kt v es i).run P w = .ok (zkR k m es i) w := by
 induction he with
 | nil => intro i; rfl
 | cons h1 h2 _ ih =>
  intro i
  rw [Instr.findAsking, zkR]
  simp only [Sem.run_bind, hq _ _ h1, Result.andThen_ok]
  split
  ·rename_i h; rw [if_pos (by simpa using h)]; rfl
  ·rename_i h; rw [if_neg (by simpa using h)]; exact ih (i + 1)
theorem zud {P : Program} {κ : Type} [DecidableEq κ] {kt : TypeId} {fs : Array Field} {r : Rp κ} (hu : P.underlying kt = some (.struct fs)) (hp : P.stoodInHeld kt = false) (hr : r.agg = true) (hf : ∀ x, zmI P 0 fs.toList (r.lv x) = true)
  (he : ∀ a b, eqL (r.lv a) (r.lv b) = decide (a = b)) : KeyT P kt r := by
 have hv : ∀ {F : Fp} {w : World} {x : κ} {v : Value}, VRel F w r x v → v = .agg ((r.lv x).map zbY).toArray := fun {F w x v} h => ztr hr (znt _ _ _ (hf x)).1 h
 refine ⟨fun w e F x v h => ?_, fun w F F' x v ν rv m es h hes => ?_, fun w F F' x v v' h h' => ?_⟩
 ·rw [hv h]; exact zoA hu (hf x) e 9998 w
 ·rw [hv h]
  cases hes with
  | nil => simp [Instr.findKey, run_underlying hu, Instr.findNow, zkR]
  | cons h1 h2 h3 =>
   have hq : ∀ (b : κ) (u : Value), VRel F' w r b u → (Op.equal kt (.agg ((r.lv x).map zbY).toArray) u).run P w = .ok (decide (x = b)) w := fun b u hu' => by
    rw [hv hu']
    exact eqT hu hp (hf x) (hf b) (he x b) w
   have := zrk hq (.cons h1 h2 h3) 0
   simp only [Instr.findKey, Sem.run_bind, run_underlying hu, Result.andThen_ok, Instr.findNow, Instr.sameNow]
   exact this
 ·rw [hv h, hv h']
  obtain ⟨p1, p2⟩ := znt _ _ _ (hf x)
  show Instr.sameBits (9999 + 1) _ _ = true
  simp only [Instr.sameBits, BEq.rfl, Bool.true_and, List.all_eq_true]
  intro p hp'
  have hz : ∀ (l : List Value) (q : Value × Value), q ∈ l.zip l → q.1 = q.2 ∧ q.1 ∈ l := by
   intro l
   induction l with
   | nil => intro q hq; cases hq
   | cons a l ih =>
    intro q hq
    cases hq with
    | head => exact ⟨rfl, List.mem_cons_self⟩
    | tail _ hq => exact ⟨(ih q hq).1, List.mem_cons_of_mem _ (ih q hq).2⟩
  obtain ⟨e1, e2⟩ := hz _ p hp'
  obtain ⟨l, hl, e3⟩ := List.mem_map.1 (by simpa using e2)
  obtain ⟨pa, pb⟩ := p
  simp only at e1 e3 ⊢
  subst e1
  rw [← e3]
  exact zlu _ (by simp only [List.all_eq_true] at p1; exact p1 l hl) (p2 l hl)
theorem zkx {P : Program} {w : World} {b : Nat} {es : Array MapEntry} {cl : Nat} (h : w.heap[b]? = some (.map es cl)) : (getObj b).run P w = .ok (.map es cl) w := by simp [getObj, Sem.run, h]
theorem ztd {P : Program} {w : World} {b : Nat} {es : Array MapEntry} {cl : Nat} (ob : Obj) (h : w.heap[b]? = some (.map es cl)) : (setObj b ob).run P w = .ok () { w with heap := w.heap.setIfInBounds b ob } := by simp [setObj, Sem.run, h]
section
variable {P : Program} {o : Oper} {κ ν : Type} {rk : Rp κ} {rv : Rp ν} {C D : List Nat} {m : List (κ × ν)} {t kt et : TypeId}
def isMp (rk : Rp κ) (rv : Rp ν) (m : List (κ × ν)) (D : List Nat) (a : AV) : Prop := ∀ γ w v, a.rel γ w v → AV.rel γ w (.mp rk rv D m) v
theorem zBI (rk : Rp κ) (rv : Rp ν) (m : List (κ × ν)) (C : List Nat) : isMp rk rv m C (.mp rk rv C m) := fun _ _ _ h => h
theorem zjY (rk : Rp κ) (rv : Rp ν) (m : List (κ × ν)) (ℓ : Nat) (C : List Nat) : isMp rk rv m (ℓ :: C) (.om rk rv ℓ C m) := fun γ w v ⟨b, es, cl, hv, ⟨g1, _⟩, hb, hh, hE, _⟩ =>
 ⟨b, es, cl, hv, by rw [g1]; exact List.mem_cons_self, hb, hh, hE.mono fun _ _ h => List.mem_cons_of_mem _ h⟩
theorem zyD (ℓ : Nat) (C C' : List Nat) (m : List (κ × ν)) (h : subN C C' = true) (hn : memN ℓ C' = false) : AV.le (.om rk rv ℓ C m) (.om rk rv ℓ C' m) := fun _ _ _ ⟨b, es, cl, hv, g, hb, hh, hE, _⟩ =>
 ⟨b, es, cl, hv, g, hb, hh, hE.mono fun _ _ h' => zbi h _ h', fun hc => by rw [zcf.2 hc] at hn; cases hn⟩
theorem zuL {F : Fp} {w : World} {es : List MapEntry} (h : zdE F w rk rv m es) : m.length = es.length := by
 induction h with
 | nil => rfl
 | cons _ _ _ ih => simp [ih]
theorem zBU {x : Operand} {a : AV} (ho : o.op = .call ⟨.builtin .len, #[x], #[t]⟩) (hu : P.underlying t = some (.map kt et)) (hm : isMp rk rv m D a) : zL P o [(x, a)] [] [] [] (.lf (.int .i64 (m.length : Int))) [] := by
 refine zR fun γ ev w hi _ => ?_
 obtain ⟨b', es, cl, hv, hF, hb, hh, hE⟩ := hm γ w _ (hi (x, a) (by simp))
 simp only at hv
 refine ⟨.int .i64 (m.length : Int), w, γ, ?_, Tr.refl _ _ _ _, zjL _ _ _ _, fun b hb => by cases hb⟩
 refine zcu (args := [x]) (ts := [t]) ho rfl rfl rfl fun consts => ?_
 simp [builtin, Builtin.len_, run_underlying hu, hv, zkx hh.1, goInt, zuL hE]
theorem znB (ℓ : Nat) (ho : o.op = .makeMap t none) : zL P o [] [] [] [ℓ] (.om rk rv ℓ [] []) [] := by
 refine zR fun γ ev w hi _ => ?_
 refine ⟨.map (some w.heap.size), w.alloc (.map #[] 0), _, ?_, zpw γ w ℓ _, ⟨w.heap.size, #[], 0, rfl, ⟨zlE _ _ _ _, zfe _ _ _ _⟩, by simp, ⟨heap_alloc_new w _, zBj⟩, .nil, by simp⟩, fun b hb => by cases hb⟩
 simp [execOp, ho, Instr.makeMap]
end
structure MapT (P : Program) {κ ν : Type} [DecidableEq κ] (t kt et : TypeId) (rk : Rp κ) (rv : Rp ν) (x0 : ν) : Prop where
 u : P.underlying t = some (.map kt et)
 key : KeyT P kt rk
 zero : ∃ i z, P.info? et = some i ∧ i.zero = some z ∧ zokL (rv.lv x0) z.cells.toList = true ∧ (rv.agg = true → ∃ cs : List Value, z = .agg cs.toArray) ∧ (rv.agg = false → z.cells = #[z])
def aggB : Value → Bool
 | .agg _ => true
 | _ => false
def zvB (P : Program) {ν : Type} (et : TypeId) (rv : Rp ν) (x0 : ν) : Bool := match P.info? et with
 | some i => match i.zero with
  | some z => zokL (rv.lv x0) z.cells.toList && (if rv.agg then aggB z else z.oneCell')
  | none => false
 | none => false
theorem MapT.ofB {P : Program} {κ ν : Type} [DecidableEq κ] {t kt et : TypeId} {rk : Rp κ} {rv : Rp ν} {x0 : ν} (hu : P.underlying t = some (.map kt et)) (hk : KeyT P kt rk) (h : zvB P et rv x0 = true) : MapT P t kt et rk rv x0 := by
 refine ⟨hu, hk, ?_⟩
 unfold zvB at h
 split at h
 ·rename_i i hi
  split at h
  ·rename_i z hz
   simp only [Bool.and_eq_true] at h
   refine ⟨i, z, hi, hz, h.1, fun e => ?_, fun e => ?_⟩
   ·have h2 := h.2
    rw [e, if_pos rfl] at h2
    cases z <;> first | cases h2; done | skip
    rename_i cs
    exact ⟨cs.toList, by simp⟩
   ·have h2 := h.2
    rw [e] at h2
    exact ztK h2
  ·cases h
 ·cases h
section
variable {P : Program} {o : Oper} {κ ν : Type} [DecidableEq κ] {rk : Rp κ} {rv : Rp ν} {C D : List Nat} {m : List (κ × ν)} {t kt et : TypeId} {x0 : ν}
theorem zsk {F : Fp} {w : World} {es : List MapEntry} (k : κ) (h : zdE F w rk rv m es) : ∀ i, (mget m k = none ∧ zkR k m es i = none) ∨
  ∃ x j e, mget m k = some x ∧ zkR k m es i = some (i + j, e.val) ∧ es[j]? = some e ∧ VRel F w rk k e.key ∧ VRel F w rv x e.val ∧
   ∀ kv xv y, VRel F w rk k kv → VRel F w rv y xv → zdE F w rk rv (mput m k y) (es.modify j fun e => { e with key := kv, val := xv }) := by
 induction h with
 | nil => intro i; exact .inl ⟨rfl, rfl⟩
 | @cons p m e es h1 h2 h3 ih =>
  intro i
  by_cases hk : k = p.1
  ·refine .inr ⟨p.2, 0, e, by rw [mget, if_pos hk], by rw [zkR, if_pos hk]; rfl, rfl, by rw [hk]; exact h1, h2, fun kv xv y g1 g2 => ?_⟩
   rw [mput, if_pos hk]
   simp only [List.modify_zero_cons]
   exact .cons g1 g2 h3
  ·rcases ih (i + 1) with ⟨g1, g2⟩ | ⟨x, j, e', g1, g2, g3, g4, g5, g6⟩
   ·exact .inl ⟨by rw [mget, if_neg hk, g1], by rw [zkR, if_neg hk, g2]⟩
   ·refine .inr ⟨x, j + 1, e', by rw [mget, if_neg hk, g1], by rw [zkR, if_neg hk, g2]; congr 2; omega, by simpa using g3, g4, g5, fun kv xv y q1 q2 => ?_⟩
    rw [mput, if_neg hk]
    simp only [List.modify_succ_cons]
    exact .cons h1 h2 (g6 kv xv y q1 q2)
theorem zdE.snoc {F : Fp} {w : World} {es : List MapEntry} (h : zdE F w rk rv m es) {k : κ} {x : ν} {e : MapEntry} (hn : mget m k = none) (h1 : VRel F w rk k e.key) (h2 : VRel F w rv x e.val) : zdE F w rk rv (mput m k x) (es ++ [e]) := by
 induction h with
 | nil => exact .cons h1 h2 .nil
 | @cons p m e' es g1 g2 g3 ih =>
  rw [mget] at hn
  split at hn
  ·cases hn
  ·rename_i hk
   rw [mput, if_neg hk]
   exact .cons g1 g2 (ih hn)
theorem ztc {F F' : Fp} {w : World} {b : Nat} {es : Array MapEntry} {cl : Nat} {k : κ} {kv : Value} (hT : MapT P t kt et rk rv x0) (hh : w.heap[b]? = some (.map es cl)) (hE : zdE F w rk rv m es.toList) (hk : VRel F' w rk k kv) (ok : Bool) :
  ∃ v, (Instr.lookup t (.map (some b)) kv ok).run P w = .ok (if ok then .tuple #[v, .bool (mget m k).isSome] else v) w ∧ VRel F w rv ((mget m k).getD x0) v := by
 obtain ⟨i, z, hi, hz, hzo, hza, hzb⟩ := hT.zero
 have hf := hT.key.find w F' F k kv ν rv m es.toList hk hE
 have hc := hT.key.check w es.isEmpty F' k kv hk
 have hzero : (zeroValue et).run P w = .ok z w := by simp [zeroValue, typeInfo, hi, hz]
 rcases zsk k hE 0 with ⟨g1, g2⟩ | ⟨x, j, e, g1, g2, g3, g4, g5, _⟩
 ·refine ⟨z, ?_, ?_⟩
  ·unfold Instr.lookup
   simp only [Sem.run_bind, run_underlying hT.u, Result.andThen_ok, zkx hh, Sem.run_pure, hc, hf, g2, g1, hzero, Option.isSome_none]
  ·rw [g1]; exact ⟨zqz hzo F w, hza, hzb⟩
 ·refine ⟨e.val, ?_, ?_⟩
  ·unfold Instr.lookup
   simp only [Sem.run_bind, run_underlying hT.u, Result.andThen_ok, zkx hh, Sem.run_pure, hc, hf, g2, g1, Option.isSome_some]
  ·rw [g1]; exact g5
theorem zpT {x z : Operand} {a b : AV} {k : κ} (ea : AV) (ho : o.op = .lookup t x z false) (hT : MapT P t kt et rk rv x0) (hm : isMp rk rv m D a) (hk : asV rk k C b) (he : elAV rv D ((mget m k).getD x0) ea) :
  zL P o [(x, a), (z, b)] [] [] [] ea [] := by
 refine zR fun γ ev w hi _ => ?_
 obtain ⟨b', es, cl, hv, hF, hb, hh, hE⟩ := hm γ w _ (hi (x, a) (by simp))
 have h2 := hk γ w _ (hi (z, b) (by simp))
 simp only at hv h2
 obtain ⟨v, hr, hV⟩ := ztc hT hh.1 hE h2 false
 exact ⟨v, w, γ, by simp [execOp, ho, hv, hr], Tr.refl _ _ _ _, he γ w v hV, fun b hb => by cases hb⟩
theorem zsy {x z : Operand} {a b : AV} {k : κ} (ea : AV) (ho : o.op = .lookup t x z true) (hT : MapT P t kt et rk rv x0) (hm : isMp rk rv m D a) (hk : asV rk k C b) (he : elAV rv D ((mget m k).getD x0) ea) :
  zL P o [(x, a), (z, b)] [] [] [] (.tup [ea, .lf (.bool (mget m k).isSome)]) [] := by
 refine zR fun γ ev w hi _ => ?_
 obtain ⟨b', es, cl, hv, hF, hb, hh, hE⟩ := hm γ w _ (hi (x, a) (by simp))
 have h2 := hk γ w _ (hi (z, b) (by simp))
 simp only at hv h2
 obtain ⟨v, hr, hV⟩ := ztc hT hh.1 hE h2 true
 exact ⟨_, w, γ, by simp [execOp, ho, hv, hr], Tr.refl _ _ _ _, ⟨[v, .bool (mget m k).isSome], rfl, v, _, rfl, he γ w v hV, _, _, rfl, zva _ _ _, rfl⟩, fun b hb => by cases hb⟩
theorem zwO {F F' F2 : Fp} {w : World} {b : Nat} {es : Array MapEntry} {cl : Nat} {k : κ} {x : ν} {kv xv : Value} (hO : StOk m es cl) (hT : MapT P t kt et rk rv x0) (hh : w.heap[b]? = some (.map es cl)) (hE : zdE F w rk rv m es.toList) (hk : VRel F' w rk k kv) (hF' : ∀ b, F' b → F b) (hx : VRel F2 w rv x xv) (hF2 : ∀ b, F2 b → F b) :
  ∃ es' cl', (Instr.mapUpdate t (.map (some b)) kv xv).run P w = .ok () { w with heap := w.heap.setIfInBounds b (.map es' cl') } ∧ zdE F w rk rv (mput m k x) es'.toList ∧ StOk (mput m k x) es' cl' := by
 have hk1 := hk.mono (G := F) fun b _ h => hF' b h
 have hx1 := hx.mono (G := F) fun b _ h => hF2 b h
 have hf := hT.key.find w F' F k kv ν rv m es.toList hk hE
 have hc := hT.key.check w false F' k kv hk
 rcases zsk k hE 0 with ⟨g1, g2⟩ | ⟨y, j, e, g1, g2, g3, g4, g5, g6⟩
 ·refine ⟨es.push { key := kv, val := xv, born := cl }, cl + 1, ?_, ?_, fun y hy => ?_, ?_, zsI hO.2.2 _ _⟩
  ·unfold Instr.mapUpdate
   simp only [Sem.run_bind, run_underlying hT.u, Result.andThen_ok, zkx hh, hc, hf, g2]
   exact ztd _ hh
  ·rw [Array.toList_push]; exact hE.snoc g1 hk1 hx1
  ·rw [Array.toList_push] at hy
   rcases List.mem_append.1 hy with hy | hy
   ·exact Nat.lt_succ_of_lt (hO.1 y hy)
   ·simp only [List.mem_singleton] at hy; subst hy; exact Nat.lt_succ_self _
  ·rw [Array.toList_push, List.map_append]
   refine List.nodup_append.2 ⟨hO.2.1, by simp, fun a ha b hb e => ?_⟩
   simp only [List.map_cons, List.map_nil, List.mem_singleton] at hb
   subst hb e
   obtain ⟨y, hy, e⟩ := List.mem_map.1 ha
   exact Nat.lt_irrefl _ (e ▸ hO.1 y hy)
 ·have hbs : ((es.modify j fun e => { e with key := kv, val := xv }).toList.map (·.born)) = es.toList.map (·.born) := by
   rw [Array.toList_modify]
   apply List.ext_getElem?
   intro i
   simp only [List.getElem?_map, List.getElem?_modify]
   cases es.toList[i]? with
   | none => rfl
   | some e0 => simp only [Option.map_some]; split <;> rfl
  refine ⟨es.modify j fun e => { e with key := kv, val := xv }, cl, ?_, ?_, fun y hy => ?_, by rw [hbs]; exact hO.2.1, zsI hO.2.2 _ _⟩
  ·have hst := hT.key.stays w F F' k e.key kv g4 hk
   have hge : ((es[j]?).map (·.key)).getD kv = e.key := by
    have : es[j]? = some e := by rw [← g3]; simp
    rw [this]; rfl
   unfold Instr.mapUpdate
   simp only [Sem.run_bind, run_underlying hT.u, Result.andThen_ok, zkx hh, hc, hf, g2, Nat.zero_add, hge, Instr.keyThatStays, hst, if_true, Sem.run_pure]
   exact ztd _ hh
  ·rw [Array.toList_modify]; exact g6 kv xv x hk1 hx1
  ·have : y.born ∈ es.toList.map (·.born) := by rw [← hbs]; exact List.mem_map_of_mem hy
   obtain ⟨z, hz, e⟩ := List.mem_map.1 this
   rw [← e]; exact hO.1 z hz
theorem zBn {γ : Gh} {w : World} {ℓ b : Nat} (hcol : γ.col b = ℓ) (ob : Obj) : Tr [ℓ] [] γ w γ { w with heap := w.heap.setIfInBounds b ob } :=
 ⟨rfl, rfl, rfl, by simp, fun c hb hn => by
  have : b ≠ c := fun e => hn (by rw [← e, hcol]; exact List.mem_cons_self)
  simp [this], fun _ _ => rfl, fun _ _ => rfl, fun b h1 h2 => absurd h2 (by simp; omega)⟩
theorem zfV {N : Lim} {ops : Array Oper} {rest : List Oper} {E E' : Env} {ℓ : Nat} {y z u : Operand} {ak av : AV} {C C1 : List Nat}
  (ks : List Nat) (k : κ) (x : ν) (C2 : List Nat) (hT : MapT P t kt et rk rv x0) (hg : zfB ops E o = some true) (ho : o.op = .mapUpdate t y z u ∨ o.op = .insert t y z u) (hd : o.dst = none) (hy : E.opd y = some (.om rk rv ℓ C m)) (hz : E.opd z = some ak) (hu : E.opd u = some av)
  (hka : asV rk k C1 ak) (hva : asV rv x D av) (hk : E.pick ks [] = some ⟨ks.map fun k => (k, .om rk rv ℓ C m), []⟩) (hC : (subN C C2 && subN C1 C2 && subN D C2 && !memN ℓ C2 && Nat.ble 2 ℓ) = true)
  (k2 : zcd P N ops rest ⟨(ks.map fun j => (j, .om rk rv ℓ C2 (mput m k x))) ++ (E.step [ℓ] [] none .any []).sl, (E.step [ℓ] [] none .any []).bx⟩ E') : zcd P N ops (o :: rest) E E' := by
 intro cx a' w Q hn hs hQ
 simp only [Bool.and_eq_true] at hC
 obtain ⟨⟨⟨⟨hC1, hC2⟩, hC3⟩, hC4⟩, hC5⟩ := hC
 obtain ⟨γ, hB, hS, hX⟩ := hs
 have hsl : ∀ kk ∈ ks, AV.rel γ w (.om rk rv ℓ C m) (a'.tmps.getD kk undef) := by
  have hS1 : Sl γ w a' (ks.map fun k => (k, AV.om rk rv ℓ C m)) := by
   have hk' := hk
   unfold Env.pick at hk'
   split at hk'
   ·rename_i s b h1 h2
    simp only [Option.some.injEq, Env.mk.injEq] at hk'
    rw [← hk'.1]
    exact fun p hp => hS p (zkv _ _ h1 p hp)
   ·cases hk'
  intro kk hkk
  exact hS1 (kk, .om rk rv ℓ C m) (List.mem_map.2 ⟨kk, hkk, rfl⟩)
 obtain ⟨b, es, cl, hv, ⟨g1, g2⟩, hb, hh, hE, hnC⟩ := Env.opd_rel hy hS
 have hkr := hka γ w _ (Env.opd_rel hz hS)
 have hxr := hva γ w _ (Env.opd_rel hu hS)
 have hE2 : zdE (γ.F C2) w rk rv m es.toList := hE.mono fun b _ h => zbi hC1 _ h
 obtain ⟨es', cl', hrun, hE', hO'⟩ := zwO hh.2 hT hh.1 hE2 hkr (fun b h => zbi hC2 _ h) hxr (fun b h => zbi hC3 _ h)
 have hrun' : (execOp a'.eval o).run P w = .ok .skip { w with heap := w.heap.setIfInBounds b (.map es' cl') } := by
  rcases ho with ho | ho <;> simp [execOp, ho, hv, hrun]
 have ht := zBn (w := w) g1 (.map es' cl')
 have hnot : ∀ c ∈ C2, c ∉ [ℓ] := fun c hc h => by
  simp only [List.mem_cons, List.not_mem_nil, or_false] at h
  subst h
  exact zdz hC4 hc
 refine zhN (zeA hg hS) (zqe hrun' ?_)
 rw [hd]
 refine k2 cx _ _ Q hn ⟨γ, (hB.tr ht (W := [ℓ]) (V := []) (by simp [okW, hC5]) rfl).put _ _ (fun k hk => by first | cases hk | (rw [hd] at hk; cases hk)), ?_, hX.tr ht⟩ hQ
 intro p hp
 rcases List.mem_append.1 hp with hp | hp
 ·obtain ⟨kk, hkk, rfl⟩ := List.mem_map.1 hp
  obtain ⟨b', es2, cl2, hv2, ⟨q1, q2⟩, _⟩ := hsl kk hkk
  have hbb : b' = b := by rw [← q2, g2]
  subst hbb
  exact ⟨b', es', cl', hv2, ⟨q1, q2⟩, by simpa using hb, ⟨by simp [hb], hO'⟩, ht.es hnot hE', fun hc => zdz hC4 hc⟩
 ·exact ((hS.tr ht) : Sl _ _ _ _) p hp
theorem zdE.app {F : Fp} {w : World} {m1 m2 : List (κ × ν)} {l1 l2 : List MapEntry} (h : zdE F w rk rv m1 l1) (k : zdE F w rk rv m2 l2) : zdE F w rk rv (m1 ++ m2) (l1 ++ l2) := by
 induction h with
 | nil => exact k
 | cons h1 h2 _ ih => exact .cons h1 h2 ih
theorem zdE.split {F : Fp} {w : World} {e : MapEntry} {l2 : List MapEntry} : ∀ {l1 : List MapEntry} {m : List (κ × ν)}, zdE F w rk rv m (l1 ++ e :: l2) → ∃ m1 p m2, m = m1 ++ p :: m2 ∧ zdE F w rk rv m1 l1 ∧ VRel F w rk p.1 e.key ∧ VRel F w rv p.2 e.val ∧ zdE F w rk rv m2 l2
 | [], _, h => by cases h with | cons h1 h2 h3 => exact ⟨[], _, _, rfl, .nil, h1, h2, h3⟩
 | _ :: l1, _, h => by
  cases h with
  | cons h1 h2 h3 =>
   obtain ⟨m1, p, m2, rfl, g1, g2, g3, g4⟩ := h3.split (l1 := l1)
   exact ⟨_ :: m1, p, m2, rfl, .cons h1 h2 g1, g2, g3, g4⟩
end
end Go.Proofs.YtglkepeofhonlaaGreatDoor
namespace Go.Proofs.YtglkepeofhonlaaGreatDoor
open Go Go.RowKit
theorem zuh {P : Program} {o : Oper} {t e : TypeId} {x : Operand} {n : Nat} (ho : o.op = .call ⟨.builtin .cap, #[x], #[t]⟩) (hu : P.underlying t = some (.slice e)) :
  zL P o [(x, .lf (.val (.slice none n 0)))] [] [] [] (.lf (.int .i64 0)) [] := by
 refine zR fun γ ev w hi _ => ?_
 have h1 := znz (hi (x, .lf (.val (.slice none n 0))) (by simp))
 simp only at h1
 refine ⟨.int .i64 0, w, γ, zcu (args := [x]) (ts := [t]) ho rfl rfl rfl fun consts => ?_, Tr.refl _ _ _ _, zjL _ _ _ _, fun b hb => by cases hb⟩
 simp [builtin, h1, Builtin.cap_, run_underlying hu, goInt]
theorem zwD {w : World} {e : TypeId} {size n : Nat} {v : Value} {cs : List Value} (h : w.ownsRow 0 e size v n cs) {j : Nat} (hj : j ≤ n) :
  ∃ A c, v = .slice A n c ∧ n ≤ c ∧ w.ownsRow 0 e size (.slice (if c = 0 then A else A.map (·.add (0 * size))) j (c - 0)) j (cs.take (j * size)) ∧
   Value.ownBlock (.slice (if c = 0 then A else A.map (·.add (0 * size))) j (c - 0)) = v.ownBlock := by
 have hle : j * size ≤ n * size := Nat.mul_le_mul_right _ hj
 rcases h.2 with ⟨rfl, hz⟩ | ⟨g, cap, cur, rfl, hg, hh, hnc, hcm, hcs, htake⟩
 ·subst hz
  have : j = 0 := by omega
  subst this
  exact ⟨none, 0, rfl, Nat.le_refl _, ⟨by simp, .inl ⟨rfl, rfl⟩⟩, rfl⟩
 ·have e1 : (if cap = 0 then (some ⟨g, 0, none⟩ : Option Addr) else (some (⟨g, 0, none⟩ : Addr)).map (·.add (0 * size))) = some ⟨g, 0, none⟩ := by
   split
   ·rfl
   ·simp [zjn]
  refine ⟨_, cap, rfl, hnc, ?_, by rw [e1]; rfl⟩
  rw [e1]
  refine ⟨by rw [List.length_take, h.1]; omega, .inr ⟨g, cap, cur, rfl, hg, hh, by omega, hcm, hcs, ?_⟩⟩
  rw [← htake, List.take_take, Nat.min_eq_left hle]
theorem zyG {P : Program} {o : Oper} {α : Type} {r : Rp α} {xs ys : List α} {C : List Nat} {j : Int} {k : IntKind} {t e : TypeId} {x y : Operand} {bytes ℓ : Nat}
  (ho : o.op = .slice t x none (some y) none) (hT : ElT P t e r.size bytes) (hy : cut xs 0 j = some ys) :
  zL P o [(x, .own r e ℓ C xs), (y, .lf (.int k j))] [] [ℓ] [] (.own r e ℓ C ys) [] := by
 refine zR fun γ ev w hin _ => ?_
 obtain ⟨cs, hown, hgb, hA, hnC⟩ := hin (x, .own r e ℓ C xs) (by simp)
 have h2 := zfI (hin (y, .lf (.int k j)) (by simp))
 simp only at hown hgb h2
 obtain ⟨c0, c1, c2, rfl⟩ := zly hy
 have hl := zyl hy
 obtain ⟨A, c, hv, hc, hown', hblk⟩ := zwD hown (j := j.toNat) (by omega)
 have hr := zqp hT w A xs.length c hc none (some (.int k j)) 0 j (.inl ⟨rfl, rfl⟩) (.inr ⟨k, rfl⟩) (by omega) c1 c2
 rw [show (0 : Int).toNat = 0 from rfl, Nat.sub_zero j.toNat] at hr
 refine ⟨_, w, γ, by simp only [execOp, ho, hv, h2, Option.map_none, Option.map_some, Sem.run_bind, hr]; rfl, Tr.refl _ _ _ _, ⟨cs.take (j.toNat * r.size), ?_, fun g hg => hgb g ?_, ?_, hnC⟩, fun b hb => by cases hb⟩
 ·rw [hl, show (0 : Int).toNat = 0 from rfl, Nat.sub_zero]; exact hown'
 ·rw [← hblk]; exact hg
 ·have := hA.take (j.toNat * r.size)
  rw [show (0 : Int).toNat = 0 from rfl, Nat.sub_zero, List.drop_zero, r.flat_take]
  exact this
theorem zzk {P : Program} {o : Oper} {k : IntKind} {t e : TypeId} {x y : Operand} {size bytes : Nat} (ho : o.op = .slice t x none (some y) none) (hT : ElT P t e size bytes) :
  zL P o [(x, .lf (.val (.slice none 0 0))), (y, .lf (.int k 0))] [] [] [] (.lf (.val (.slice none 0 0))) [] := by
 refine zR fun γ ev w hin _ => ?_
 have h1 := znz (hin (x, .lf (.val (.slice none 0 0))) (by simp))
 have h2 := zfI (hin (y, .lf (.int k 0)) (by simp))
 simp only at h1 h2
 have hr := zqp hT w none 0 0 (Nat.le_refl _) none (some (.int k 0)) 0 0 (.inl ⟨rfl, rfl⟩) (.inr ⟨k, rfl⟩) (by omega) (by omega) (by omega)
 exact ⟨_, w, γ, by simp only [execOp, ho, h1, h2, Option.map_none, Option.map_some, Sem.run_bind, hr]; rfl, Tr.refl _ _ _ _, ⟨rfl, .val _ rfl⟩, fun b hb => by cases hb⟩
theorem znX (z : Array Value) (n : Nat) : Builtin.zeroCells z n = madeCells z (n * z.size) := rfl
theorem zBQ {P : Program} {o : Oper} {α : Type} {r : Rp α} {x0 : α} {k kn : IntKind} {n : Int} {xs : List α} {t tn e : TypeId} {x y : Operand} {bytes : Nat} (ℓ : Nat)
  (ho : o.op = .call ⟨.builtin .append, #[x, y], #[t, tn]⟩) (htn : P.underlying tn = some (.int kn)) (hT : ZeT P t e r bytes x0) (hb : Nat.blt 0 bytes = true) (hm : mkO bytes x0 n n = some xs) :
  zL P o [(x, .lf (.val (.slice none 0 0))), (y, .lf (.int k n))] [] [] [ℓ] (.own r e ℓ [] xs) [] := by
 refine zR fun γ ev w hin _ => ?_
 have h1 := znz (hin (x, .lf (.val (.slice none 0 0))) (by simp))
 have h2 := zfI (hin (y, .lf (.int k n)) (by simp))
 simp only at h1 h2
 unfold mkO at hm
 split at hm
 case isFalse => cases hm
 rename_i hh
 obtain ⟨h0, _, hlim⟩ := hh
 cases hm
 obtain ⟨m, rfl⟩ : ∃ m : Nat, n = m := ⟨n.toNat, by omega⟩
 obtain ⟨i, z, hi', hz, hs, hby, hzs, hzo⟩ := hT.ex
 have hbp : 0 < bytes := Nat.lt_of_succ_le (Nat.le_of_ble_eq_true hb)
 have hL : (LIM : Int) = 140737488355328 := rfl
 have hlim' : m * bytes ≤ 140737488355328 := by
  have : ((m * bytes : Nat) : Int) ≤ 140737488355328 := by rw [Int.natCast_mul]; omega
  omega
 have hmb : m ≤ m * bytes := Nat.le_mul_of_pos_right _ hbp
 rcases Nat.eq_zero_or_pos m with rfl | hpos
 ·refine ⟨.slice none 0 0, w, { γ with box := fun q => γ.box q }, zcu (args := [x, y]) (ts := [t, tn]) ho rfl rfl rfl fun consts => ?_, ⟨rfl, rfl, rfl, Nat.le_refl _, fun _ _ _ => rfl, fun _ _ => rfl, fun _ _ => rfl, fun b h1 h2 => absurd h2 (Nat.not_lt.2 h1)⟩, ⟨[], World.ownsRow_nil w 0 e r.size, (fun g hg => nomatch hg), zab.nil, by simp⟩, fun b hb => by cases hb⟩
  have hw : IntKind.i64.wrap 0 = 0 := rfl
  simp [builtin, h1, h2, Builtin.append_, run_underlying hT.u, run_underlying htn, sizeOf, typeInfo, hi', asInt, asIntOf, hw]
 ·have hr := Go.Lib.run_append_nil_zeros (P := P) w t tn o.type e i z k kn hT.u htn hi' hz m hpos (by rw [hs]; exact r.pos) (by omega) (by rw [hby]; omega)
  have hge := grownCap_ge w m 0 e
  have hcm : grownCap w m 0 e ≤ maxLen := grownCap_le_maxLen w m 0 e (by unfold maxLen; omega)
  have hnew := heap_alloc_new w.drew (.cells (Builtin.zeroCells z.cells m ++ Builtin.zeroCells z.cells (grownCap w m 0 e - m)) e)
  have hzl : (Builtin.zeroCells z.cells m).toList.length = m * r.size := by rw [Array.length_toList, size_zeroCells, hzs]
  refine ⟨.slice (some ⟨w.heap.size, 0, none⟩) m (grownCap w m 0 e), w.drew.alloc (.cells (Builtin.zeroCells z.cells m ++ Builtin.zeroCells z.cells (grownCap w m 0 e - m)) e), zdM γ w.heap.size ℓ w.heap.size,
   zcu (args := [x, y]) (ts := [t, tn]) ho rfl rfl rfl fun consts => by simp only [builtin, List.map_cons, List.map_nil, h1, h2, Sem.run_bind, hr]; rfl,
   ⟨rfl, rfl, rfl, by simp, fun b hb _ => heap_alloc_old w.drew _ hb, fun b hb => by simp [zdM, hb], fun k hk => ?_, fun b hb _ h => .inr (by simp [zdM, Nat.not_lt.2 hb] at h; simp [h])⟩, ⟨(Builtin.zeroCells z.cells m).toList, ?_, fun g hg => ?_, ?_, by simp⟩, fun b hb => by cases hb⟩
  ·simp only [List.mem_cons, List.not_mem_nil, or_false] at hk
   simp [zdM, hk]
  ·rw [List.length_replicate, Int.toNat_natCast]
   refine ⟨hzl, .inr ⟨w.heap.size, _, _, rfl, Nat.zero_le _, hnew, hge, hcm, ?_, ?_⟩⟩
   ·rw [Array.size_append, size_zeroCells, size_zeroCells, hzs, ← Nat.add_mul]; congr 1; omega
   ·rw [Array.toList_append, ← hzl]; exact List.take_left
  ·cases hg
   simp [zdM]
  ·rw [Int.toNat_natCast]
   have := zpV hzs hzo ((zdM γ w.heap.size ℓ w.heap.size).F []) (w.drew.alloc (.cells (Builtin.zeroCells z.cells m ++ Builtin.zeroCells z.cells (grownCap w m 0 e - m)) e)) m m (Nat.le_refl _)
   rw [List.take_of_length_le (by rw [Array.length_toList, size_madeCells]; exact Nat.le_refl _)] at this
   have e : (Builtin.zeroCells z.cells m).toList = (madeCells z.cells (m * r.size)).toList := by rw [znX, hzs]
   rw [e]
   exact this
structure ByT (P : Program) (t e : TypeId) : Prop where
 u : P.underlying t = some (.slice e)
 ex : ∃ i, P.info? e = some i ∧ i.zero = some (.int .u8 0) ∧ i.size = 1 ∧ i.bytes = 1
def byB (P : Program) (e : TypeId) : Bool := match P.info? e with
 | some i => (match i.zero with
  | some (.int .u8 n) => decide (n = 0)
  | _ => false) && Nat.beq i.size 1 && Nat.beq i.bytes 1
 | none => false
theorem ByT.ofB {P : Program} {t e : TypeId} (hu : P.underlying t = some (.slice e)) (h : byB P e = true) : ByT P t e := by
 unfold byB at h
 split at h
 ·rename_i i hi
  simp only [Bool.and_eq_true] at h
  obtain ⟨⟨h1, h2⟩, h3⟩ := h
  split at h1
  ·rename_i n hz
   have := of_decide_eq_true h1
   subst this
   exact ⟨hu, i, hi, hz, Nat.eq_of_beq_eq_true h2, Nat.eq_of_beq_eq_true h3⟩
  ·cases h1
 ·cases h
theorem zcA {α : Type} (r : Rp α) (C : List Nat) (x : α) (l : List AV) (h : zhj l = some (r.lv x)) (hC : subN (AV.colsL l) C = true) : AV.le (.ag l) (.rc r C x) := fun _ _ _ ⟨vs, hv, hL, _⟩ =>
 ⟨vs, hv, zki h hL (zbi hC)⟩
theorem zBP {α : Type} (r : Rp α) (C : List Nat) (x : α) (l : List AV) (h : zhj l = some (r.lv x)) (hC : l.all (zpR C) = true) : AV.le (.rc r C x) (.ag l) := fun _ _ _ ⟨vs, hv, hA⟩ =>
 ⟨vs, hv, zjk h hA hC, hA.one⟩
theorem zmK {l m : List AV} (h : leL l m) : AV.le (.ag l) (.ag m) := fun _ _ _ ⟨vs, hv, hL, h1⟩ => ⟨vs, hv, zpQ h hL, h1⟩
def zzZ : AV → Option (List AV)
 | .ag l => some l
 | a => match zml a with
  | true => some [a]
  | false => none
theorem zxn {a : AV} {l : List AV} (h : zzZ a = some l) {γ : Gh} {w : World} {v : Value} (hr : a.rel γ w v) : AV.relL γ w l v.cells.toList ∧ ∀ u ∈ v.cells.toList, u.oneCell' = true := by
 have one : zml a = true → a.rel γ w v → AV.relL γ w [a] v.cells.toList ∧ ∀ u ∈ v.cells.toList, u.oneCell' = true := fun h1 h2 => by
  obtain ⟨g1, g2⟩ := zpS h1 h2
  rw [g2]
  exact ⟨⟨v, [], rfl, h2, rfl⟩, fun u hu => by simp at hu; subst hu; exact g1⟩
 cases a with
 | ag m => cases h; obtain ⟨vs, rfl, hL, h1⟩ := hr; exact ⟨hL, h1⟩
 | any => cases h
 | lf l => cases h; exact one rfl hr
 | sl r C xs => cases h; exact one rfl hr
 | own r e ℓ C xs => cases h; exact one rfl hr
 | rc => cases h
 | ep r C x off => cases h; exact one rfl hr
 | ptr ℓ off => cases h; exact one rfl hr
 | bs ℓ n => cases h; exact one rfl hr
 | tl => cases h
 | qp r C o => cases h; exact one rfl hr
 | em rk rv C m => cases h; exact one rfl hr
 | mp rk rv C m => cases h; exact one rfl hr
 | om rk rv ℓ C m => cases h; exact one rfl hr
 | tup => cases h
 | fv g l => cases h; exact one rfl hr
 | bp => cases h
 | it => cases h
def setA (cs : List AV) (off : Nat) (l : List AV) : List AV := cs.take off ++ l ++ cs.drop (off + l.length)
def zyq (place : Nat → Option (Nat × Nat)) (cs : List AV) : List (Nat × Operand) → List AV → Option (List AV)
 | [], [] => some cs
 | (i, _) :: ps, a :: as => match zzZ a, place i with
  | some l, some (off, size) => match Nat.beq l.length size && Nat.ble (off + l.length) cs.length with
   | true => zyq place (setA cs off l) ps as
   | false => none
  | _, _ => none
 | _, _ => none
theorem ztR {γ : Gh} {w : World} {ev : Operand → Value} {place : Nat → Option (Nat × Nat)} : ∀ (ps : List (Nat × Operand)) (as cs : List AV) (cells : Array Value) (out : List AV), zyq place cs ps as = some out →
  AV.relL γ w cs cells.toList → (∀ u ∈ cells.toList, u.oneCell' = true) → (∀ p ∈ (ps.map (·.2)).zip as, p.2.rel γ w (ev p.1)) →
  ∃ cells', Instr.fill place cells (ps.map fun p => (p.1, ev p.2)) = some cells' ∧ AV.relL γ w out cells'.toList ∧ ∀ u ∈ cells'.toList, u.oneCell' = true
 | [], [], cs, cells, out, h, hA, h1, _ => by cases h; exact ⟨cells, rfl, hA, h1⟩
 | (i, x) :: ps, a :: as, cs, cells, out, h, hA, h1, hp => by
  rw [zyq] at h
  split at h
  ·rename_i l off size hl hpl
   split at h
   ·rename_i hb
    simp only [Bool.and_eq_true] at hb
    have e1 := Nat.eq_of_beq_eq_true hb.1
    have e2 := Nat.le_of_ble_eq_true hb.2
    obtain ⟨g1, g2⟩ := zxn hl (hp (x, a) (by simp))
    have hvl : (ev x).cells.toList.length = l.length := zcw g1
    have hcl : cells.size = cs.length := by rw [← Array.length_toList]; exact zcw hA
    have hset := zsn off (ev x).cells.toList 0 cells (by simp at hvl ⊢; omega)
    simp only [Nat.add_zero] at hset
    have hA2 : AV.relL γ w (setA cs off l) ((ev x).cells.toList.zipIdx.foldl (fun (cs : Array Value) (p : Value × Nat) => cs.setIfInBounds (off + p.2) p.1) cells).toList := by
     rw [hset]
     unfold setA
     rw [hvl]
     exact ziu (ziu (zlQ _ _ _ hA) g1) (zlP _ _ _ hA)
    have h1' : ∀ u ∈ ((ev x).cells.toList.zipIdx.foldl (fun (cs : Array Value) (p : Value × Nat) => cs.setIfInBounds (off + p.2) p.1) cells).toList, u.oneCell' = true := by
     rw [hset]
     intro u hu
     simp only [List.mem_append] at hu
     rcases hu with (hu | hu) | hu
     ·exact h1 u (List.mem_of_mem_take hu)
     ·exact g2 u hu
     ·exact h1 u (List.mem_of_mem_drop hu)
    obtain ⟨cells', hf, hr, hr1⟩ := ztR ps as _ _ out h hA2 h1' (fun p hp' => hp p (by simp [hp']))
    refine ⟨cells', ?_, hr, hr1⟩
    rw [List.map_cons, Instr.fill, hpl]
    simp only
    rw [if_neg (by simp at hvl ⊢; omega)]
    rw [← hf]
    congr 1
    rw [← Array.foldl_toList]
    simp
   ·cases h
  ·cases h
 | [], _ :: _, _, _, _, h, _, _, _ => by cases h
 | _ :: _, [], _, _, _, h, _, _, _ => by cases h
structure StA (P : Program) (t : TypeId) (places : List (Nat × Nat)) (zs : List AV) : Prop where
 ex : ∃ fs z, P.underlying t = some (.struct fs) ∧ (∀ w, (zeroValue t).run P w = .ok z w) ∧ (∀ w, (fs.mapM (m := Sem) fun (f : Field) => do pure (f.offset, ← sizeOf f.type)).run P w = .ok places.toArray w) ∧ zuD zs z.cells.toList = true
def staB (P : Program) (t : TypeId) (fs : Array Field) (places : List (Nat × Nat)) (zs : List AV) : Bool := ztg P fs.toList places && match P.info? t with
 | some i => match i.zero with
  | some z => zuD zs z.cells.toList
  | none => false
 | none => false
theorem StA.ofB {P : Program} {t : TypeId} {fs : Array Field} {places : List (Nat × Nat)} {zs : List AV} (hu : P.underlying t = some (.struct fs)) (h : staB P t fs places zs = true) : StA P t places zs := by
 simp only [staB, Bool.and_eq_true] at h
 obtain ⟨h1, h2⟩ := h
 split at h2
 ·rename_i i hi
  split at h2
  ·rename_i z hz
   refine ⟨fs, z, hu, fun w => by simp [zeroValue, typeInfo, hi, hz], fun w => ?_, h2⟩
   have := zpt fs.toList places h1 w
   rw [← Array.toArray_toList (xs := fs), List.mapM_toArray, Sem.run_map]
   rw [this]; rfl
  ·cases h2
 ·cases h2
theorem zet {P : Program} {o : Oper} {t : TypeId} {parts : List (Nat × Operand)} {places : List (Nat × Nat)} {zs : List AV} (as l : List AV)
  (ho : o.op = .build t parts.toArray) (hT : StA P t places zs) (hf : zyq (fun i => places[i]?) zs parts as = some l) :
  zL P o ((parts.map (·.2)).zip as) [] [] [] (.ag l) [] := by
 refine zR fun γ ev w hi _ => ?_
 obtain ⟨fs, z, hu, hz, hpl, hzo⟩ := hT.ex
 obtain ⟨z1, z2⟩ := zuE hzo γ w
 obtain ⟨cells', hfill, hA, h1⟩ := ztR (γ := γ) (w := w) (ev := ev) parts as zs z.cells _ hf z1 z2 hi
 have hfill' : Instr.fill (fun i => places.toArray[i]?) z.cells (parts.map fun p => (p.1, ev p.2)) = some cells' := by
  rw [← hfill]; congr 1; funext i; simp
 refine ⟨.agg cells', w, γ, ?_, Tr.refl _ _ _ _, ⟨cells'.toList, by simp, hA, h1⟩, fun b hb => by cases hb⟩
 simp only [execOp, ho, Instr.build, Sem.run_bind, hz, run_underlying hu, Result.andThen_ok, hpl, List.map_toArray]
 have e : (List.map (fun (x : Nat × Operand) => (x.1, ev x.2)) parts) = parts.map fun p => (p.1, ev p.2) := rfl
 simp only [hfill', Sem.run_pure, Result.andThen_ok]
theorem zhn {P : Program} {o : Oper} {t f : Nat} {fs : Array Field} {fd : Field} {y : Operand} {l : List AV} (a : AV) (ho : o.op = .field t y f) (hu : P.underlying t = some (.struct fs)) (hf : fs[f]? = some fd) (hT : ∀ w, (isAgg fd.type).run P w = .ok false w)
  (hs : l[fd.offset]? = some a) : zL P o [(y, .ag l)] [] [] [] a [] := by
 refine zR fun γ ev w hi _ => ?_
 obtain ⟨cs, hv, hL, _⟩ := hi (y, .ag l) (by simp)
 simp only at hv
 obtain ⟨v, hv', hr⟩ := zqk hL hs
 have hlen : fd.offset < cs.length := (List.getElem?_eq_some_iff.1 hv').1
 have e : cs[fd.offset] = v := (List.getElem?_eq_some_iff.1 hv').2
 exact ⟨v, w, γ, by simp [execOp, ho, hv, Instr.field, run_underlying hu, hf, asAgg, part, hT, hlen, e], Tr.refl _ _ _ _, hr, fun b hb => by cases hb⟩
theorem zBR {P : Program} {o : Oper} {t : TypeId} {x : Operand} {l : List AV} (ℓ : Nat) (ho : o.op = .box t x) (hf : AV.free [] [ℓ] (.ag l) = true) : zL P o [(x, .ag l)] [] [] [ℓ] (.ptr ℓ 0) [⟨ℓ, t, l⟩] := by
 refine zR fun γ ev w hi _ => ?_
 have h0 := hi (x, .ag l) (by simp)
 obtain ⟨f1, f2⟩ := AV.free_spec hf
 have h0' := (AV.ag l).keep (zpw γ w ℓ (.cells (ev x).cells t)) f1 f2 h0
 obtain ⟨vs, hv, _, _⟩ := h0
 obtain ⟨vs', hv', hL, h1⟩ := h0'
 simp only at hv hv'
 refine ⟨.pointer (some ⟨w.heap.size, 0, none⟩), w.alloc (.cells (ev x).cells t), _, ?_, zpw γ w ℓ _, ?_, fun b hb => ?_⟩
 ·simp [execOp, ho, Instr.box, newVar, newRow]
 ·show _ = _
  rw [zfe]
 ·simp only [List.mem_cons, List.not_mem_nil, or_false] at hb
  subst hb
  refine ⟨by rw [zfe, zlE], vs', ?_, hL, h1⟩
  rw [zfe]
  have : (ev x).cells = vs'.toArray := by rw [hv']; rfl
  rw [this]
  exact heap_alloc_new w _
theorem zdm {P : Program} {o : Oper} {t : TypeId} {y : Operand} {b : Bx} {off n : Nat} (m : List AV) (ho : o.op = .load t y) (hT : AggT P t n) (hs : (b.avs.drop off).take n = m) (hn : Nat.beq m.length n = true) :
  zL P o [(y, .ptr b.lab off)] [b] [] [] (.ag m) [] := by
 refine zR fun γ ev w hi hb => ?_
 have h1 : ev y = _ := hi (y, .ptr b.lab off) (by simp)
 obtain ⟨hcol, cs, hh, hL, hone⟩ := hb b (by simp)
 subst hs
 have hL' := zlQ _ _ n (zlP _ _ off hL)
 have hlen : ((cs.drop off).take n).length = n := by rw [zcw hL']; exact Nat.eq_of_beq_eq_true hn
 have hl := zgL hT (w := w) (b := γ.box b.lab) (o := off) (cs := (cs.drop off).take n) hlen fun i hi => by
  rw [hlen] at hi
  rw [cell_of_row w _ _ _ _ _ hh, List.getElem?_take, if_pos hi, List.getElem?_drop]
  simp
 exact ⟨_, w, γ, by simp [execOp, ho, h1, Instr.loadAt, Instr.sureAddr, hl], Tr.refl _ _ _ _, ⟨_, rfl, hL', fun u hu => hone u (List.mem_of_mem_drop (List.mem_of_mem_take hu))⟩, fun b hb => by cases hb⟩
theorem zom {P : Program} {o : Oper} {t : TypeId} {y z : Operand} {b : Bx} {off n : Nat} (l : List AV) (ho : o.op = .store t y z) (hsz : ∀ w, (sizeOf t).run P w = .ok n w) (hn : Nat.beq l.length n = true)
  (hoff : Nat.ble (off + n) b.avs.length = true) (hf : AV.free [b.lab] [] (.ag l) = true) :
  zL P o [(y, .ptr b.lab off), (z, .ag l)] [b] [b.lab] [] .any [⟨b.lab, b.typ, (b.avs.map (AV.clear [b.lab] [])).take off ++ l ++ (b.avs.map (AV.clear [b.lab] [])).drop (off + n)⟩] := by
 intro γ av w hi hb next Q hk
 have h1 : av.eval y = _ := hi (y, .ptr b.lab off) (by simp)
 have h0 := hi (z, .ag l) (by simp)
 obtain ⟨us, hv, hA, hA1⟩ := h0
 simp only at hv
 obtain ⟨hcol, cs, hh, hL, hone⟩ := hb b (by simp)
 have hus : us.length = n := by rw [zcw hA]; exact Nat.eq_of_beq_eq_true hn
 have hoff' : off + n ≤ cs.length := by rw [zcw hL]; exact Nat.le_of_ble_eq_true hoff
 have hst := run_storeCells_at P (γ.box b.lab) off b.typ us 0 cs.toArray w hh (by simp; omega) hA1
 simp only [Nat.add_zero, hus] at hst
 have hrun : (execOp av.eval o).run P w = .ok .skip (w.setRow (γ.box b.lab) (cs.take off ++ us ++ cs.drop (off + n)).toArray) := by
  simp [execOp, ho, h1, hv, Instr.storeAt, Instr.sureAddr, storeVar, hsz, Value.cells, hus, hst]
 unfold Oper.wp
 rw [hrun, Oper.upon_skip]
 have ht := zre (w := w) hcol (cs.take off ++ us ++ cs.drop (off + n)).toArray
 obtain ⟨f1, f2⟩ := AV.free_spec hf
 obtain ⟨us', hv', hA', _⟩ := (AV.ag l).keep ht f1 f2 (show AV.rel γ w (.ag l) (av.eval z) from ⟨us, hv, hA, hA1⟩)
 have eu : us' = us := by rw [hv] at hv'; simpa using hv'.symm
 subst eu
 have hL' := zmC hL ht
 refine hk γ _ undef ht trivial fun b' hb' => ?_
 simp only [List.mem_cons, List.not_mem_nil, or_false] at hb'
 subst hb'
 refine ⟨hcol, cs.take off ++ us' ++ cs.drop (off + n), setRow_heap w _ _ _ _ _ hh, ziu (ziu (zlQ _ _ _ hL') hA') (zlP _ _ _ hL'), fun u hu => ?_⟩
 simp only [List.mem_append] at hu
 rcases hu with (h | h) | h
 ·exact hone u (List.mem_of_mem_take h)
 ·exact hA1 u h
 ·exact hone u (List.mem_of_mem_drop h)
theorem zyu : ∀ (l : List UInt8) (c : UInt8), Go.Lib.indexByte l c = idxB l c
 | [], _ => rfl
 | b :: l, c => by
  unfold Go.Lib.indexByte idxB
  rw [zyu l c]
theorem zBS {P : Program} {o : Oper} {f : FuncId} {fn : Func} {x y : Operand} {ts : Array TypeId} {l : List UInt8} {c : Int} (ho : o.op = .call ⟨.value (.func f), #[x, y], ts⟩) (hf : P.funcs[f]? = some fn) (hname : (fn.name == "runtime.NumGoroutine") = false)
  (hb' : fn.body.isNone = true) (hn : Extern.findNext fn = none) (he : Extern.find fn = some Extern.BytealgIndexByte.indexByte) : zL P o [(x, .lf (.str l)), (y, .lf (.int .u8 c))] [] [] [] (.lf (.int .i64 (idxB l c.toNat.toUInt8))) [] := by
 intro γ a w hi hb next Q hk
 have h1 := zlq (hi (x, .lf (.str l)) (by simp))
 have h2 := zfI (hi (y, .lf (.int .u8 c)) (by simp))
 simp only at h1 h2
 have hr := run_callFunc_extern hf hname hb' hn he #[a.eval x, a.eval y] w
 rw [h1, h2, Go.Lib.run_indexByteString, zyu] at hr
 have hrun : (execOp a.eval o).run P w = ((callFunc f #[a.eval x, a.eval y]).run P w) := by simp [execOp, ho, resolve, Act.eval, Deferred.ofValue, invoke]
 rw [h1, h2, hr] at hrun
 unfold Oper.wp
 rw [hrun]
 exact hk γ w _ (Tr.refl _ _ _ _) (zjL _ _ _ _) (fun b hb => by cases hb)
end Go.Proofs.YtglkepeofhonlaaGreatDoor
namespace Go.Proofs.YtglkepeofhonlaaGreatDoor
open Go Go.RowKit
def zxl : List Bx → List AV → Prop
 | [], [] => True
 | b :: bs, .bp r t ℓ C x :: cs => (ℓ = b.lab ∧ t = b.typ ∧ zhj b.avs = some (r.lv x) ∧ subN (AV.colsL b.avs) C = true) ∧ zxl bs cs
 | _, _ => False
theorem zsb {γ : Gh} {w : World} {ev : Operand → Value} : ∀ (xs : List Operand) (bs : List Bx) (cs : List AV), zxl bs cs → xs.length = bs.length → (∀ p ∈ xs.zip (bs.map fun b => AV.ptr b.lab 0), p.2.rel γ w (ev p.1)) → Bxs γ w bs → AV.relL γ w cs (xs.map ev)
 | [], [], [], _, _, _, _ => rfl
 | [], [], _ :: _, h, _, _, _ => h.elim
 | x :: xs, b :: bs, .bp r t ℓ C y :: cs, h, hl, hi, hb => by
  obtain ⟨⟨rfl, rfl, h1, h2⟩, h3⟩ := h
  refine ⟨ev x, xs.map ev, rfl, ?_, zsb xs bs cs h3 (by simpa using hl) (fun p hp => hi p (List.mem_cons_of_mem _ hp)) (fun c hc => hb c (List.mem_cons_of_mem _ hc))⟩
  have hv := hi (x, .ptr b.lab 0) List.mem_cons_self
  obtain ⟨hc, cells, hh, hL, hone⟩ := hb b List.mem_cons_self
  exact ⟨γ.box b.lab, cells.toArray, hv, ⟨hc, rfl⟩, (Array.getElem?_eq_some_iff.1 hh).1, hh, by simpa using hone, by simpa using zki h1 hL (zbi h2)⟩
 | _ :: _, _ :: _, [], h, _, _, _ => h.elim
 | _ :: _, _ :: _, .any :: _, h, _, _, _ => h.elim
 | _ :: _, _ :: _, .lf _ :: _, h, _, _, _ => h.elim
 | _ :: _, _ :: _, .sl .. :: _, h, _, _, _ => h.elim
 | _ :: _, _ :: _, .own .. :: _, h, _, _, _ => h.elim
 | _ :: _, _ :: _, .rc .. :: _, h, _, _, _ => h.elim
 | _ :: _, _ :: _, .ep .. :: _, h, _, _, _ => h.elim
 | _ :: _, _ :: _, .ptr .. :: _, h, _, _, _ => h.elim
 | _ :: _, _ :: _, .bs .. :: _, h, _, _, _ => h.elim
 | _ :: _, _ :: _, .tl .. :: _, h, _, _, _ => h.elim
 | _ :: _, _ :: _, .qp .. :: _, h, _, _, _ => h.elim
 | _ :: _, _ :: _, .em .. :: _, h, _, _, _ => h.elim
 | _ :: _, _ :: _, .mp .. :: _, h, _, _, _ => h.elim
 | _ :: _, _ :: _, .om .. :: _, h, _, _, _ => h.elim
 | _ :: _, _ :: _, .tup .. :: _, h, _, _, _ => h.elim
 | _ :: _, _ :: _, .ag .. :: _, h, _, _, _ => h.elim
 | _ :: _, _ :: _, .fv .. :: _, h, _, _, _ => h.elim
 | _ :: _, _ :: _, .it .. :: _, h, _, _, _ => h.elim
 | [], _ :: _, _, _, hl, _, _ => by simp at hl
 | _ :: _, [], _, _, hl, _, _ => by simp at hl
theorem zuX {P : Program} {o : Oper} {g : Nat} (xs : List Operand) (bs : List Bx) (cs : List AV) (ho : o.op = .makeFunc (.func g) #[] xs.toArray) (hc : zxl bs cs) (hl : xs.length = bs.length) :
  zL P o (xs.zip (bs.map fun b => AV.ptr b.lab 0)) bs [] [] (.fv g cs) [] := by
 refine zR fun γ ev w hi hb => ?_
 exact ⟨.func (.func g) #[] (xs.map ev).toArray, w, γ, by simp [execOp, ho, Instr.makeFunc], Tr.refl _ _ _ _, ⟨xs.map ev, rfl, zsb xs bs cs hc hl hi hb⟩, fun b hb => by cases hb⟩
theorem zbC.regh {γ γ' : Gh} {w : World} {C : List Nat} (h : ∀ b, b < w.heap.size → γ.col b ∈ C → γ'.col b = γ.col b) {l : LV} {v : Value} (hr : zbC (γ.F C) w l v) : zbC (γ'.F C) w l v :=
 hr.mono fun b hl hb => by show γ'.col b ∈ C; rw [h b hl hb]; exact hb
theorem zab.regh {γ γ' : Gh} {w : World} {C : List Nat} (h : ∀ b, b < w.heap.size → γ.col b ∈ C → γ'.col b = γ.col b) {ls : List LV} {cs : List Value} (hr : zab (γ.F C) w ls cs) : zab (γ'.F C) w ls cs :=
 hr.mono fun b hl hb => by show γ'.col b ∈ C; rw [h b hl hb]; exact hb
mutual
theorem AV.regh {γ γ' : Gh} {w : World} (a : AV) {v : Value} (h : ∀ b, b < w.heap.size → γ.col b ∈ a.cols → γ'.col b = γ.col b) (hb : ∀ ℓ ∈ a.labs, γ'.box ℓ = γ.box ℓ) (hr : a.rel γ w v) : a.rel γ' w v := by
 match a with
 | .any => trivial
 | .lf l => exact hr
 | .sl r C xs => exact zbC.regh h hr
 | .own r e ℓ C xs =>
  obtain ⟨cs, ho, hg, hA, hn⟩ := hr
  refine ⟨cs, ho, fun g hgb => ?_, hA.regh (fun b hl hc => h b hl (List.mem_cons_of_mem _ hc)), hn⟩
  obtain ⟨g1, g2⟩ := hg g hgb
  exact ⟨(h g (ho.lt g hgb).2 (by rw [g1]; exact List.mem_cons_self)).trans g1, (hb ℓ List.mem_cons_self).trans g2⟩
 | .rc r C x => obtain ⟨cs, hv, hA⟩ := hr; exact ⟨cs, hv, hA.regh h⟩
 | .ep r C x off =>
  obtain ⟨b, o, cs, hv, hF, hlt, hA, hcell⟩ := hr
  exact ⟨b, o, cs, hv, by rw [h b hlt hF]; exact hF, hlt, hA.regh h, hcell⟩
 | .ptr ℓ off => show v = _; rw [hb ℓ List.mem_cons_self]; exact hr
 | .bs ℓ n => show v = _; rw [hb ℓ List.mem_cons_self]; exact hr
 | .tl ℓ off n => obtain ⟨A, c, hv, hA⟩ := hr; exact ⟨A, c, hv, fun hn => by rw [hb ℓ List.mem_cons_self]; exact hA hn⟩
 | .qp r C none => exact hr
 | .qp r C (some x) =>
  obtain ⟨b, cs, hv, hF, hlt, hA, hcell⟩ := hr
  exact ⟨b, cs, hv, by rw [h b hlt hF]; exact hF, hlt, hA.regh h, hcell⟩
 | .mp rk rv C m =>
  obtain ⟨b, es, cl, hv, hF, hlt, hh, hE⟩ := hr
  exact ⟨b, es, cl, hv, by rw [h b hlt hF]; exact hF, hlt, hh, hE.mono fun b hl hc => by show γ'.col b ∈ C; rw [h b hl hc]; exact hc⟩
 | .em rk rv C m =>
  obtain ⟨a, b, es, cl, hv, hFa, ha, hc1, hF, hlt, hh, hE⟩ := hr
  exact ⟨a, b, es, cl, hv, by rw [h a ha hFa]; exact hFa, ha, hc1, by rw [h b hlt hF]; exact hF, hlt, hh, hE.mono fun b hl hc => by show γ'.col b ∈ C; rw [h b hl hc]; exact hc⟩
 | .om rk rv ℓ C m =>
  obtain ⟨b, es, cl, hv, ⟨g1, g2⟩, hlt, hh, hE, hn⟩ := hr
  exact ⟨b, es, cl, hv, ⟨(h b hlt (by rw [g1]; exact List.mem_cons_self)).trans g1, (hb ℓ List.mem_cons_self).trans g2⟩, hlt, hh, hE.mono (fun b hl hc => by show γ'.col b ∈ C; rw [h b hl (List.mem_cons_of_mem _ hc)]; exact hc), hn⟩
 | .tup l => obtain ⟨vs, hv, hL⟩ := hr; exact ⟨vs, hv, AV.reghL l h hb hL⟩
 | .ag l => obtain ⟨vs, hv, hL, h1⟩ := hr; exact ⟨vs, hv, AV.reghL l h hb hL, h1⟩
 | .fv g l => obtain ⟨vs, hv, hL⟩ := hr; exact ⟨vs, hv, AV.reghL l h hb hL⟩
 | .bp r t ℓ C x =>
  obtain ⟨b, cs, hv, ⟨g1, g2⟩, hlt, hh, h1, hA⟩ := hr
  exact ⟨b, cs, hv, ⟨(h b hlt (by rw [g1]; exact List.mem_cons_self)).trans g1, (hb ℓ List.mem_cons_self).trans g2⟩, hlt, hh, h1, hA.regh (fun b hl hc => h b hl (List.mem_cons_of_mem _ hc))⟩
 | .it rk rv ℓ C last left =>
  obtain ⟨r, b, hv, ⟨g1, g2⟩, hr', hF, hlt, ⟨es, cl, seen, since, c0, ls, la, i1, i2, i3, i4, i5, i6, i7, i8, i9, i10⟩, hn⟩ := hr
  have key : ∀ b, b < w.heap.size → γ.F C b → γ'.F C b := fun b hl hc => by show γ'.col b ∈ C; rw [h b hl (List.mem_cons_of_mem _ hc)]; exact hc
  exact ⟨r, b, hv, ⟨(h r hr' (by rw [g1]; exact List.mem_cons_self)).trans g1, (hb ℓ List.mem_cons_self).trans g2⟩, hr', key b hlt hF, hlt,
   ⟨es, cl, seen, since, c0, ls, la, i1, i2, i3, i4, i5, i6, i7, i8.mono key, i9.mono key, i10⟩, hn⟩
theorem AV.reghL {γ γ' : Gh} {w : World} (l : List AV) {vs : List Value} (h : ∀ b, b < w.heap.size → γ.col b ∈ AV.colsL l → γ'.col b = γ.col b) (hb : ∀ ℓ ∈ AV.labsL l, γ'.box ℓ = γ.box ℓ) (hr : AV.relL γ w l vs) : AV.relL γ' w l vs := by
 match l with
 | [] => exact hr
 | a :: l =>
  obtain ⟨v, vs', rfl, h1, h2⟩ := hr
  exact ⟨v, vs', rfl, AV.regh a (fun b hl hc => h b hl (List.mem_append_left _ hc)) (fun c hc => hb c (List.mem_append_left _ hc)) h1,
   AV.reghL l (fun b hl hc => h b hl (List.mem_append_right _ hc)) (fun c hc => hb c (List.mem_append_right _ hc)) h2⟩
end
structure Lets (own : Nat → Prop) (A B : World) : Prop where
 os : B.os = A.os
 tape : B.tape = A.tape
 output : B.output = A.output
 size : A.heap.size ≤ B.heap.size
 block : ∀ b, b < A.heap.size → ¬ own b → B.heap[b]? = A.heap[b]?
structure zxd (K : Nat → Prop) (A B : World) : Prop where
 os : B.os = A.os
 tape : B.tape = A.tape
 output : B.output = A.output
 size : A.heap.size ≤ B.heap.size
 block : ∀ b, b < A.heap.size → K b → B.heap[b]? = A.heap[b]?
structure ItG (F : Fp) (own : Nat → Prop) (γ : Gh) (w : World) : Prop where
 zero : ∀ b, b < w.heap.size → γ.col b = 0 → F b
 mine : ∀ b, b < w.heap.size → 2 ≤ γ.col b → own b
 lt : ∀ b, own b → b < w.heap.size
def Abid {σ : Type} (I : σ → (Nat → Prop) → World → Prop) : Prop := ∀ s own A B, I s own A → Lets own A B → I s (fun b => own b ∨ (A.heap.size ≤ b ∧ b < B.heap.size)) B
def zyg (P : Program) (l : Nat) {σ χ : Type} (ps : χ → List AV) (F : Fp) (k : Rnd σ χ) (I : σ → (Nat → Prop) → World → Prop) : Prop :=
 ∀ s own A x b s' us, I s own A → (∀ c, own c → c < A.heap.size) → k s x = some (b, s') → (∀ γ : Gh, (∀ c, c < A.heap.size → F c → γ.col c = 0) → AV.relL γ A (ps x) us) →
  YieldAt (RF none) 0 P l us.toArray A fun e B => e = .returned (.bool b) ∧ I s' own B ∧ zxd (fun c => own c ∨ F c) A B
def ItOk (P : Program) (g : FuncId) {χ : Type} (caps : List AV) (ps : χ → List AV) (it : {σ : Type} → Rnd σ χ → σ → Option σ) : Prop :=
 ∀ (σ : Type) (k : Rnd σ χ) (s0 s1 : σ), it k s0 = some s1 → ∀ (l : Nat) (γ : Gh) (w : World) (F : Fp) (own : Nat → Prop) (vs : List Value) (I : σ → (Nat → Prop) → World → Prop),
  AV.relL γ w caps vs → ItG F own γ w → Abid I → zyg P l ps F k I → I s0 own w →
  Calls P g (.func (.yield l) #[] #[] :: vs).toArray w fun e B => (∃ v, e = .returned v) ∧ ∃ own', I s1 own' B
def itX {σ : Type} (I : σ → (Nat → Prop) → World → Prop) (hI : Abid I) (F : Fp) (s : σ) : Ext where
 X γ w := ∃ own, I s own w ∧ ItG F own γ w
 tr := fun {γ γ' w w' W V} ⟨own, hj, hg⟩ t hW hV => by
  have hl : Lets own w w' := ⟨t.os, t.tape, t.output, t.size, fun b hb hn => t.block b hb fun hc => hn (hg.mine b hb (hW _ hc))⟩
  refine ⟨_, hI s own w w' hj hl, fun b hb h0 => ?_, fun b hb h2 => ?_, fun b hb => ?_⟩
  ·by_cases hlt : b < w.heap.size
   ·exact hg.zero b hlt (by rw [← t.col b hlt]; exact h0)
   ·rcases t.fresh b (Nat.le_of_not_lt hlt) hb h0 with e | e
    ·have := hW _ e; omega
    ·have := hV _ e; omega
  ·by_cases hlt : b < w.heap.size
   ·exact .inl (hg.mine b hlt (by rw [← t.col b hlt]; exact h2))
   ·exact .inr ⟨Nat.le_of_not_lt hlt, hb⟩
  ·rcases hb with hb | hb
   ·exact Nat.lt_of_lt_of_le (hg.lt b hb) t.size
   ·exact hb.2
 ren := fun {γ γ' w} ⟨own, hj, hg⟩ k => ⟨own, hj, fun b hb h0 => hg.zero b hb (k.back b h0), fun b hb h2 => hg.mine b hb (by
  rcases Nat.lt_or_ge (γ.col b) 2 with h | h
  ·have h01 : γ.col b = 0 ∨ γ.col b = 1 := by omega
   rcases h01 with e | e
   ·have := k.zero b e; omega
   ·have := k.one b e; omega
  ·exact h), hg.lt⟩
 base := 0
 le := fun _ => Nat.zero_le _
theorem zCH {P : Program} {o : Oper} {ro : Option Nat} {a : Act} {w : World} {next M : Act → World → Prop} {Q : Exit → Act → World → Prop} (h : o.wpIn (RF ro) 0 P a w next (Exit.then M Q)) : o.wpIn (RF ro) 0 P a w next Q := by
 refine ⟨h.1, ?_⟩
 have h := h.2
 generalize (o.semAt (RF ro).round a.eval).run P w = r at h
 cases r with
 | ok x w1 =>
  cases x with
  | enter f args => exact ⟨h.1, h.2.mono fun e w2 hq => by cases e <;> exact hq⟩
  | round l f tmps asg body => exact ⟨h.1, h.2.mono fun e w2 hq => by cases e <;> exact hq⟩
  | _ => exact h
 | halt x w1 => cases x <;> exact h
theorem zuW {P : Program} {ops : Array Oper} {Q : Exit → Act → World → Prop} : ∀ {l1 l2 : List Oper} {a : Act} {w : World}, zlH P ops (Exit.then (zlH P ops Q l2) Q) l1 a w → zlH P ops Q (l1 ++ l2) a w := by
 intro l1 l2 a w h0 ro
 have key : ∀ (l1 : List Oper) (a : Act) (w : World), wpListIn (RF ro) 0 P ops (Exit.then (zlH P ops Q l2) Q) l1 a w → wpListIn (RF ro) 0 P ops Q (l1 ++ l2) a w := by
  intro l1
  induction l1 with
  | nil => intro a w h; exact h ro
  | cons o l1 ih =>
   intro a w h
   rw [List.cons_append]
   unfold wpListIn at h ⊢
   split
   ·rename_i hw
    rw [if_pos hw] at h
    exact Oper.wpIn_mono (fun a w h => ih a w h) (zCH h)
   ·rename_i hw
    rw [if_neg hw] at h
    exact ⟨h.1, ih _ _ h.2⟩
 exact key l1 a w (h0 ro)
def zcn (γ : Gh) (n : Nat) : Gh := ⟨fun b => if b < n then γ.col b else 1, γ.box⟩
section
variable {σ χ : Type} {P : Program} {I : σ → (Nat → Prop) → World → Prop} {hI : Abid I} {F : Fp} {ps : χ → List AV} {k : Rnd σ χ} {l : Nat}
theorem znv {m : Bool} {N : Lim} {id : Nat} {ops : List Oper} {its : List It} {E E' : Env} {Q : Exit → Act → World → Prop} {s s' : σ} {x : χ} {b : Bool} {o : Oper} {y : Operand} {ts : Array TypeId} (n : Nat) (d : Option Nat) (args : List Operand) (as0 as : List AV) (E1 : Env)
  (ht : zyg P l ps F k I) (ho : ops.drop n = o :: ops.drop (n + 1)) (hop : o.op = .call ⟨.value y, args.toArray, ts⟩) (hg : o.guard = none) (hd : o.dst = d) (hN : zhO N d = true)
  (h1 : zcd P N ops.toArray (ops.take n) E E1) (hy : E1.opd y = some (.lf (.val (.func (.yield l) #[] #[])))) (hi : zng E1 (args.zip as0)) (hl : args.length = as0.length) (hle : leL as0 as) (hx : ps x = as)
  (hc : ((AV.colsL as).all (fun c => Nat.beq c 0) && (AV.labsL as).isEmpty) = true) (hk : k s x = some (b, s'))
  (h2 : zcd P N ops.toArray (ops.drop (n + 1)) ⟨zgB d (.lf (.bool b)) (znx [1] [] E1.sl), zgD [1] [] E1.bx⟩ E') (kk : JI m P its (Sx ⟨N, itX I hI F s', false, #[]⟩ E') Q) :
  JI m P (.c (.region id ops.toArray false) :: its) (Sx ⟨N, itX I hI F s, false, #[]⟩ E) Q := by
 intro a w hs
 rw [zmR]
 refine zlv ?_
 have hsplit : ops = ops.take n ++ o :: ops.drop (n + 1) := by rw [← ho, List.take_append_drop]
 rw [hsplit]
 refine zuW ?_
 rw [← hsplit]
 refine h1 ⟨N, itX I hI F s, false, #[]⟩ a w _ rfl hs fun a1 w1 hs1 => ?_
 obtain ⟨γ, hB, hS, hX⟩ := hs1
 obtain ⟨own, hj, hG⟩ := hB.ext
 have hv := Env.opd_rel hy hS
 have hyv : a1.eval y = .func (.yield l) #[] #[] := by
  generalize a1.eval y = u at hv ⊢
  cases hv.2; rfl
 have hargs : AV.relL γ w1 as (args.map a1.eval) := by
  have hr := hi.rel hS
  refine zpQ hle ?_
  clear hi hx hc h1 h2 hop hle
  induction args generalizing as0 with
  | nil => cases as0 with
   | nil => rfl
   | cons => simp at hl
  | cons z args ih => cases as0 with
   | nil => simp at hl
   | cons c as0 => exact ⟨_, _, rfl, hr (z, c) List.mem_cons_self, ih as0 (by simpa using hl) (fun p hp => hr p (List.mem_cons_of_mem _ hp))⟩
 simp only [Bool.and_eq_true, List.all_eq_true, List.isEmpty_iff] at hc
 obtain ⟨fn, tmps, asg, body, hrun, hR⟩ := ht s own w1 x b s' (args.map a1.eval) hj hG.lt hk fun γ' hγ' => by
  rw [hx]
  refine AV.reghL as (fun c hcl hcm => ?_) (fun ℓ hℓ => by rw [hc.2] at hℓ; cases hℓ) hargs
  have h0 : γ.col c = 0 := Nat.eq_of_beq_eq_true (hc.1 _ hcm)
  rw [h0]; exact hγ' c hcl (hG.zero c hcl h0)
 refine zhN (by simp [Region.wanted, hg]) (fun ro => ⟨fun _ _ => trivial, ?_⟩)
 have hrun' : (execOp a1.eval o).run P w1 = .ok (.round l fn tmps asg body) w1 := by
  simp [execOp, hop, resolve, hyv, Deferred.ofValue, invoke, hrun]
 rw [Oper.semAt_eq _ _ _ (by rw [hop]; nofun), hrun']
 refine ⟨nofun, RoundIn.mono hR (fun e B hq => ?_)⟩
 obtain ⟨rfl, hj', hsp⟩ := hq
 have hown : ∀ c, c < w1.heap.size → γ.col c ∉ [1] → own c ∨ F c := fun c hcl hcn => by
  rcases Nat.lt_or_ge (γ.col c) 2 with h | h
  ·have h01 : γ.col c = 0 ∨ γ.col c = 1 := by omega
   rcases h01 with e | e
   ·exact .inr (hG.zero c hcl e)
   ·exact absurd (by rw [e]; exact List.mem_cons_self) hcn
  ·exact .inl (hG.mine c hcl h)
 have hT : Tr [1] [] γ w1 (zcn γ w1.heap.size) B := ⟨hsp.os, hsp.tape, hsp.output, hsp.size, fun c hcl hcn => hsp.block c hcl (hown c hcl hcn), fun c hcl => by simp [zcn, hcl], fun _ _ => rfl, fun c h1 _ h0 => by simp [zcn, Nat.not_lt.2 h1] at h0⟩
 refine h2 ⟨N, itX I hI F s', false, #[]⟩ _ B (zhW m P Q its) rfl ⟨zcn γ w1.heap.size, ⟨⟨[], ?_, List.nodup_nil, fun D hD => by cases hD⟩, fun _ => ?_, ?_, ?_, own, hj', fun c hcl h0 => ?_, fun c hcl h2 => ?_, fun c hcc => Nat.lt_of_lt_of_le (hG.lt c hcc) hsp.size⟩, ?_, hX.tr hT⟩ (fun a' w' hs' => kk a' w' hs')
 ·rw [ziY]; exact hB.clean rfl
 ·rw [ziY]; exact hB.clean rfl
 ·rw [zqh]; exact hB.size
 ·rw [hd]; exact (hB.put d (.bool b) (zdQ hN)).kept
 ·by_cases hlt : c < w1.heap.size
  ·exact hG.zero c hlt (by simpa [zcn, hlt] using h0)
  ·simp [zcn, hlt] at h0
 ·by_cases hlt : c < w1.heap.size
  ·exact hG.mine c hlt (by simpa [zcn, hlt] using h2)
  ·simp [zcn, hlt] at h2
 ·rw [hd]
  exact (hS.tr hT).put (fun k hk => by rw [hB.size]; exact zgc hN _ hk) ⟨rfl, .bool b⟩
end
inductive zne : Nat → List AV → List (Nat × AV) → List Bx → Prop
 | nil (n : Nat) : zne n [] [] []
 | cons {α : Type} {n : Nat} (r : Rp α) (t : TypeId) (ℓ : Nat) (C : List Nat) (x : α) (avs : List AV) {cs : List AV} {sl : List (Nat × AV)} {bx : List Bx} (h1 : zhj avs = some (r.lv x)) (h2 : avs.all (zpR C) = true)
   (h : zne (n + 1) cs sl bx) : zne n (.bp r t ℓ C x :: cs) ((n, .ptr ℓ 0) :: sl) (⟨ℓ, t, avs⟩ :: bx)
 | ep {α : Type} {n : Nat} (r : Rp α) (C : List Nat) (x : α) {cs : List AV} {sl : List (Nat × AV)} {bx : List Bx} (h : zne (n + 1) cs sl bx) : zne n (.ep r C x 0 :: cs) ((n, .ep r C x 0) :: sl) bx
theorem zne.rel {n : Nat} {cs : List AV} {sl : List (Nat × AV)} {bx : List Bx} (h : zne n cs sl bx) {γ : Gh} {w : World} : ∀ {vs : List Value} (pre post : List Value), pre.length = n → AV.relL γ w cs vs →
  (∀ p ∈ sl, p.2.rel γ w ((pre ++ vs ++ post).toArray.getD p.1 undef)) ∧ Bxs γ w bx := by
 induction h with
 | nil n => intro vs pre post _ _; exact ⟨(fun p hp => by cases hp), (fun b hb => by cases hb)⟩
 | cons r t ℓ C x avs h1 h2 h ih =>
  intro vs pre post hn hr
  obtain ⟨v, vs', rfl, ⟨b, cells, hv, ⟨g1, g2⟩, hlt, hh, hone, hA⟩, hr'⟩ := hr
  obtain ⟨k1, k2⟩ := ih (vs := vs') (pre ++ [v]) post (by simp [hn]) hr'
  refine ⟨fun p hp => ?_, fun c hc => ?_⟩
  ·rcases List.mem_cons.1 hp with rfl | hp
   ·show ((pre ++ v :: vs' ++ post).toArray.getD _ undef) = _
    rw [g2, ← hv]; subst hn; simp
   ·have := k1 p hp
    simpa using this
  ·rcases List.mem_cons.1 hc with rfl | hc
   ·refine ⟨by rw [g2]; exact g1, cells.toList, ?_, zjk h1 hA h2, hone⟩
    simp only [g2, Array.toArray_toList]; exact hh
   ·exact k2 c hc
 | ep r C x h ih =>
  intro vs pre post hn hr
  obtain ⟨v, vs', rfl, hv, hr'⟩ := hr
  obtain ⟨k1, k2⟩ := ih (vs := vs') (pre ++ [v]) post (by simp [hn]) hr'
  refine ⟨fun p hp => ?_, k2⟩
  rcases List.mem_cons.1 hp with rfl | hp
  ·have e : (pre ++ v :: vs' ++ post).toArray.getD pre.length undef = v := by simp
   subst hn
   show AV.rel γ w _ ((pre ++ v :: vs' ++ post).toArray.getD _ undef)
   rw [e]; exact hv
  ·have := k1 p hp
   simpa using this
theorem zss {P : Program} {g : FuncId} {fn : Func} {c : Code} {χ : Type} {caps : List AV} {ps : χ → List AV} {it : {σ : Type} → Rnd σ χ → σ → Option σ} (N : Nat) (sl : List (Nat × AV)) (bx : List Bx)
  (hf : P.funcs[g]? = some fn) (hb : fn.body = some c) (hN : fn.ntmps = N) (hlen : Nat.ble (caps.length + 1) N = true) (hres : fn.results = #[]) (hcap : zne 1 caps sl bx)
  (hj : ∀ (σ : Type) (k : Rnd σ χ) (s0 s1 : σ), it k s0 = some s1 → ∀ (l : Nat) (I : σ → (Nat → Prop) → World → Prop) (hI : Abid I) (F : Fp), zyg P l ps F k I →
   J true P c (Sx ⟨⟨N, []⟩, itX I hI F s0, false, #[]⟩ ⟨(0, .lf (.val (.func (.yield l) #[] #[]))) :: sl, bx⟩) fun e a w => (e = .normal ∨ e = .ret) ∧ Sx ⟨⟨N, []⟩, itX I hI F s1, false, #[]⟩ ⟨[], []⟩ a w) : ItOk P g caps ps it := by
 subst hN
 intro σ k s0 s1 hit l γ w F own vs I hc hG hI ht h0
 have hl := zcw hc
 have hlen' := Nat.le_of_ble_eq_true hlen
 obtain ⟨k1, k2⟩ := hcap.rel [.func (.yield l) #[] #[]] (List.replicate (fn.ntmps - (vs.length + 1)) undef) rfl hc
 have e : (([.func (.yield l) #[] #[]] ++ vs ++ List.replicate (fn.ntmps - (vs.length + 1)) undef : List Value)).toArray = (Value.func (.yield l) #[] #[] :: vs).toArray ++ Array.replicate (fn.ntmps - (Value.func (.yield l) #[] #[] :: vs).toArray.size) undef := by simp
 rw [e] at k1
 refine calls_of_wp hf hb (wp_mono (zBs (hj σ k s0 s1 hit l I hI F ht _ w ⟨γ, ⟨⟨[], rfl, List.nodup_nil, (fun D hD => by cases hD)⟩, fun _ => rfl, ?_, (fun k hk => by cases hk), own, h0, hG⟩, fun p hp => ?_, k2⟩)) ?_)
 ·simp; omega
 ·rcases List.mem_cons.1 hp with rfl | hp
  ·show _ ∧ zbC _ _ _ _
   have : ((Value.func (.yield l) #[] #[] :: vs).toArray ++ Array.replicate (fn.ntmps - (Value.func (.yield l) #[] #[] :: vs).toArray.size) undef).getD 0 undef = .func (.yield l) #[] #[] := by rw [← e]; simp
   rw [this]; exact ⟨rfl, .val _ rfl⟩
  ·exact k1 p hp
 ·rintro e a w' ⟨he, γ', hB, hS, hX⟩
  obtain ⟨us, hr, _⟩ := zkZ (P := P) (fn := fn) (l := []) hS hX (by rw [hres]; trivial)
  have hfin : a.defers = [] ∧ ∃ v, (results fn a.tmps).run P w' = .ok v w' ∧ ((∃ v', (Ending.returned v) = .returned v') ∧ ∃ own', I s1 own' w') := by
   obtain ⟨own', hj', _⟩ := hB.ext
   exact ⟨hB.clean rfl, _, hr, ⟨_, rfl⟩, own', hj'⟩
  rcases he with rfl | rfl
  ·exact hfin
  ·exact hfin
def Two (X : Ext) (ds : List Deferred) (Z : Nat → Prop) (γ : Gh) (W : World) : Prop :=
 ∃ γx : Gh, X.X γx W ∧ zpz X.base γx W ds ∧ γx.box = γ.box ∧ (∀ b, Z b → γx.col b = 2 ∧ γ.col b = 1) ∧ (∀ b, ¬ Z b → γ.col b = γx.col b) ∧ ∀ b, Z b → b < W.heap.size
section
variable {X : Ext} {ds : List Deferred} {Z : Nat → Prop} {γ γ' : Gh} {W W' : World}
theorem Two.tr {Ws V : List Nat} (h : Two X ds Z γ W) (t : Tr Ws V γ W γ' W') (hW : ∀ c ∈ Ws, 2 ≤ c) (hV : ∀ c ∈ V, 2 ≤ c) : Two X ds Z γ' W' := by
 obtain ⟨γx, hX, hm, hbx, hZ, hn, hlt⟩ := h
 classical
 have ht : Tr Ws V γx W ⟨fun b => if Z b then 2 else γ'.col b, γ'.box⟩ W' := by
  refine ⟨t.os, t.tape, t.output, t.size, fun b hb hc => ?_, fun b hb => ?_, fun ℓ hℓ => ?_, fun b h1 h2 h0 => ?_⟩
  ·by_cases hz : Z b
   ·exact t.block b hb (by rw [(hZ b hz).2]; intro h; have := hW _ h; omega)
   ·exact t.block b hb (by rw [hn b hz]; exact hc)
  ·by_cases hz : Z b
   ·simp [hz, (hZ b hz).1]
   ·simp [hz, t.col b hb, hn b hz]
  ·rw [hbx]; exact t.box ℓ hℓ
  ·have hz : ¬ Z b := fun hz => by have := hlt b hz; omega
   simp [hz] at h0
   exact t.fresh b h1 h2 h0
 refine ⟨_, X.tr hX ht hW hV, hm.tr ht hW, rfl, fun b hz => ⟨by simp [hz], ?_⟩, fun b hz => by simp [hz], fun b hz => Nat.lt_of_lt_of_le (hlt b hz) t.size⟩
 rw [t.col b (hlt b hz)]; exact (hZ b hz).2
theorem Two.ren (h : Two X ds Z γ W) (k : zrT γ γ') : Two X ds Z γ' W := by
 obtain ⟨γx, hX, hm, hbx, hZ, hn, hlt⟩ := h
 classical
 have ha : zrT γx ⟨fun b => if Z b then 2 else γ'.col b, γ'.box⟩ := by
  refine ⟨fun b hb => ?_, fun b hb => ?_, fun b hb => ?_, fun b hb => ?_⟩
  ·have hz : ¬ Z b := fun hz => by have := (hZ b hz).1; omega
   simp [hz]; exact k.zero b (by rw [hn b hz]; exact hb)
  ·have hz : ¬ Z b := fun hz => by have := (hZ b hz).1; omega
   simp [hz]; exact k.one b (by rw [hn b hz]; exact hb)
  ·by_cases hz : Z b
   ·simp [hz] at hb
   ·simp [hz] at hb; rw [← hn b hz]; exact k.back b hb
  ·have hz : ¬ Z b := fun hz => by rw [(hZ b hz).1] at hb; cases hb
   have := k.old b (by rw [hn b hz]; exact hb)
   simp [hz]; rw [this, hn b hz]
 exact ⟨_, X.ren hX ha, hm.ren ha, rfl, fun b hz => ⟨by simp [hz], k.one b (hZ b hz).2⟩, fun b hz => by simp [hz], hlt⟩
theorem Two.lets (h : Two X ds Z γ W) (t : Lets Z W W') : Two X ds (fun b => Z b ∨ (W.heap.size ≤ b ∧ b < W'.heap.size)) (zcn γ W.heap.size) W' := by
 obtain ⟨γx, hX, hm, hbx, hZ, hn, hlt⟩ := h
 have ht : Tr [2] [] γx W ⟨fun b => if b < W.heap.size then γx.col b else if b < W'.heap.size then 2 else 1, γx.box⟩ W' := by
  refine ⟨t.os, t.tape, t.output, t.size, fun b hb hc => t.block b hb (fun hz => hc (by rw [(hZ b hz).1]; exact List.mem_cons_self)), fun b hb => by simp [hb], fun ℓ _ => rfl, fun b h1 h2 h0 => ?_⟩
  simp [Nat.not_lt.2 h1, h2] at h0
 have hW : ∀ c ∈ [2], 2 ≤ c := fun c hc => by simp at hc; omega
 refine ⟨_, X.tr hX ht hW (fun c hc => by cases hc), hm.tr ht hW, hbx, fun b hz => ?_, fun b hz => ?_, fun b hz => ?_⟩
 ·rcases hz with hz | ⟨h1, h2⟩
  ·simp [zcn, hlt b hz]; exact hZ b hz
  ·simp [zcn, Nat.not_lt.2 h1, h2]
 ·by_cases hb : b < W.heap.size
  ·simp [zcn, hb]; exact hn b fun h => hz (.inl h)
  ·have h2 : ¬ b < W'.heap.size := fun h => hz (.inr ⟨Nat.le_of_not_lt hb, h⟩)
   simp [zcn, hb, h2]
 ·rcases hz with hz | ⟨_, h2⟩
  ·exact Nat.lt_of_lt_of_le (hlt b hz) t.size
  ·exact h2
theorem Two.out (h : Two X ds Z γ W) : X.X γ W ∧ zpz X.base γ W ds := by
 obtain ⟨γx, hX, hm, hbx, hZ, hn, hlt⟩ := h
 have ha : zrT γx γ := by
  refine ⟨fun b hb => ?_, fun b hb => ?_, fun b hb => ?_, fun b hb => ?_⟩
  ·have hz : ¬ Z b := fun hz => by have := (hZ b hz).1; omega
   rw [hn b hz]; exact hb
  ·have hz : ¬ Z b := fun hz => by have := (hZ b hz).1; omega
   rw [hn b hz]; exact hb
  ·have hz : ¬ Z b := fun hz => by have := (hZ b hz).2; omega
   rw [← hn b hz]; exact hb
  ·have hz : ¬ Z b := fun hz => by rw [(hZ b hz).1] at hb; cases hb
   exact hn b hz
 exact ⟨X.ren hX ha, hm.ren ha⟩
end
def zxV (X : Ext) (ds : List Deferred) (Z : Nat → Prop) (F : Fp) (W0 : World) : Ext where
 X γ W := Two X ds Z γ W ∧ zxd (fun b => Z b ∨ F b) W0 W ∧ (∀ b, F b → γ.col b = 0 ∧ b < W0.heap.size) ∧ ∀ b, Z b → b < W0.heap.size
 tr := fun {γ γ' W W' Ws V} ⟨h1, h2, h3, h4⟩ t hW hV => by
  refine ⟨h1.tr t hW hV, ⟨t.os.trans h2.os, t.tape.trans h2.tape, t.output.trans h2.output, Nat.le_trans h2.size t.size, fun b hb hz => ?_⟩, fun b hF => ⟨?_, (h3 b hF).2⟩, h4⟩
  ·refine (t.block b (Nat.lt_of_lt_of_le hb h2.size) fun hc => ?_).trans (h2.block b hb hz)
   have := hW _ hc
   rcases hz with hz | hF
   ·obtain ⟨γx, _, _, _, hZ, _⟩ := h1
    have := (hZ b hz).2; omega
   ·have := (h3 b hF).1; omega
  ·rw [t.col b (Nat.lt_of_lt_of_le (h3 b hF).2 h2.size)]; exact (h3 b hF).1
 ren := fun {γ γ' W} ⟨h1, h2, h3, h4⟩ k => ⟨h1.ren k, h2, fun b hF => ⟨k.zero b (h3 b hF).1, (h3 b hF).2⟩, h4⟩
 base := 0
 le := fun _ => Nat.zero_le _
def zqT : List Nat → List AV → List (Nat × AV) → List (Nat × AV)
 | p :: ps, v :: vs, l => zqT ps vs (zgB (some p) v l)
 | _, _, l => l
theorem zsY {γ : Gh} {w : World} : ∀ (ps : List Nat) (as : List AV) (us : List Value) (l : List (Nat × AV)) (a : Act), Sl γ w a l → AV.relL γ w as us → ps.length = as.length → (∀ p ∈ ps, p < a.tmps.size) →
  Sl γ w ⟨(ps.zip us).foldl (fun t (q : Nat × Value) => t.setIfInBounds q.1 q.2) a.tmps, a.defers⟩ (zqT ps as l)
 | [], [], us, l, a, hs, _, _, _ => by simpa [zqT] using hs
 | p :: ps, v :: as, us, l, a, hs, hr, hl, hlt => by
  obtain ⟨u, us', rfl, h1, h2⟩ := hr
  exact zsY ps as us' _ (a.put (some p) u) (hs.put (fun k hk => by cases hk; exact hlt p List.mem_cons_self) h1) h2 (by simpa using hl) (fun q hq => by rw [zqh]; exact hlt q (List.mem_cons_of_mem _ hq))
 | [], _ :: _, _, _, _, _, _, hl, _ => by simp at hl
 | _ :: _, [], _, _, _, _, _, hl, _ => by simp at hl
theorem ztV : ∀ (qs : List (Nat × Value)) (t : Array Value), (qs.foldl (fun t (q : Nat × Value) => t.setIfInBounds q.1 q.2) t).size = t.size ∧ ∀ k, (∀ q ∈ qs, q.1 ≠ k) → (qs.foldl (fun t (q : Nat × Value) => t.setIfInBounds q.1 q.2) t).getD k undef = t.getD k undef
 | [], t => ⟨rfl, fun _ _ => rfl⟩
 | q :: qs, t => by
  obtain ⟨h1, h2⟩ := ztV qs (t.setIfInBounds q.1 q.2)
  refine ⟨by rw [List.foldl_cons, h1]; simp, fun k hk => ?_⟩
  rw [List.foldl_cons, h2 k fun r hr => hk r (List.mem_cons_of_mem _ hr)]
  simp only [Array.getD_eq_getD_getElem?]
  rw [Array.getElem?_setIfInBounds_ne (hk q List.mem_cons_self)]
def Zof (own : Nat → Prop) (l D : Nat) : Nat → Prop := fun b => own b ∨ b = l ∨ b = D
theorem Two.congr {X : Ext} {ds : List Deferred} {Z Z' : Nat → Prop} {γ : Gh} {W : World} (h : Two X ds Z γ W) (e : ∀ b, Z b ↔ Z' b) : Two X ds Z' γ W := by
 have : Z = Z' := funext fun b => propext (e b)
 rw [← this]; exact h
theorem zlV {γ : Gh} {W W' : World} {K : Nat → Prop} (t : Lets K W W') (hK : ∀ b, K b → γ.col b = 1) : Tr [1] [] γ W (zcn γ W.heap.size) W' :=
 ⟨t.os, t.tape, t.output, t.size, fun b hb hc => t.block b hb fun hk => hc (by rw [hK b hk]; exact List.mem_cons_self), fun b hb => by simp [zcn, hb], fun _ _ => rfl, fun b h1 _ h0 => by simp [zcn, Nat.not_lt.2 h1] at h0⟩
def lpOf {σ ρ : Type} (rec : LoopState → Option Code → Loop) (cd : ρ → Code) : σ ⊕ ρ → Loop
 | .inl _ => rec .ready none
 | .inr r => rec .done (some (cd r))
def bxOf {σ ρ : Type} (Bs : σ → List Bx) (Br : ρ → List Bx) : σ ⊕ ρ → List Bx
 | .inl s => Bs s
 | .inr r => Br r
structure CI {σ ρ : Type} (X : Ext) (ds : List Deferred) (F : Fp) (l D : Nat) (rec : LoopState → Option Code → Loop) (old : Array Value) (slE : List (Nat × AV)) (Bs : σ → List Bx) (Br : ρ → List Bx) (cd : ρ → Code) (st : σ ⊕ ρ) (own : Nat → Prop) (W : World) (γ : Gh) : Prop where
 two : Two X ds (Zof own l D) γ W
 data : ∀ b, F b → γ.col b = 0 ∧ b < W.heap.size
 nl : ¬ own l
 nD : ¬ own D
 blk : W.heap[D]? = some (.deferred (some []))
 sl : ∀ p ∈ slE, p.2.rel γ W (old.getD p.1 undef)
 bx : Bxs γ W (bxOf Bs Br st)
 lp : W.heap[l]? = some (.loop (lpOf rec cd st))
theorem CI.abid {σ ρ : Type} {X : Ext} {ds : List Deferred} {F : Fp} {l D : Nat} {rec : LoopState → Option Code → Loop} {old : Array Value} {slE : List (Nat × AV)} {Bs : σ → List Bx} {Br : ρ → List Bx} {cd : ρ → Code}
  (hfs : ∀ p ∈ slE, p.2.free [1] [] = true) (hBs : ∀ s, zgD [1] [] (Bs s) = Bs s) (hBr : ∀ r, zgD [1] [] (Br r) = Br r) :
  Abid fun (st : σ ⊕ ρ) own W => ∃ γ, CI X ds F l D rec old slE Bs Br cd st own W γ := by
 rintro st own A B ⟨γ, h⟩ t
 have hl := (Array.getElem?_eq_some_iff.1 h.lp).1
 have hD := (Array.getElem?_eq_some_iff.1 h.blk).1
 have tZ : Lets (Zof own l D) A B := ⟨t.os, t.tape, t.output, t.size, fun b hb hn => t.block b hb fun ho => hn (.inl ho)⟩
 have h1 : ∀ b, own b → γ.col b = 1 := fun b ho => by
  obtain ⟨γx, _, _, _, hZ, _⟩ := h.two
  exact (hZ b (.inl ho)).2
 have hT := zlV t h1
 refine ⟨zcn γ A.heap.size, (h.two.lets tZ).congr fun b => ?_, fun b hF => ?_, ?_, ?_, (t.block D hD h.nD).trans h.blk, fun p hp => ?_, ?_, (t.block l hl h.nl).trans h.lp⟩
 ·unfold Zof
  constructor
  ·rintro ((h | h) | h)
   ·exact .inl (.inl h)
   ·exact .inr h
   ·exact .inl (.inr h)
  ·rintro ((h | h) | h)
   ·exact .inl (.inl h)
   ·exact .inr h
   ·exact .inl (.inr h)
 ·obtain ⟨g1, g2⟩ := h.data b hF
  exact ⟨by simp [zcn, g2, g1], Nat.lt_of_lt_of_le g2 t.size⟩
 ·rintro (h' | ⟨h', _⟩)
  ·exact h.nl h'
  ·omega
 ·rintro (h' | ⟨h', _⟩)
  ·exact h.nD h'
  ·omega
 ·obtain ⟨f1, f2⟩ := AV.free_spec (hfs p hp)
  exact p.2.keep hT f1 f2 (h.sl p hp)
 ·have := h.bx.tr hT
  cases st with
  | inl s => rw [show bxOf Bs Br (Sum.inl s) = Bs s from rfl, hBs] at this; exact this
  | inr r => rw [show bxOf Bs Br (Sum.inr r) = Br r from rfl, hBr] at this; exact this
def Jump : Exit → Code → Prop
 | .ret, .ret => True
 | .exit i, .exit j => i = j
 | _, _ => False
theorem Lets.put {Z : Nat → Prop} {W : World} {l : Nat} (hl : Z l) (o : Obj) : Lets Z W (W.putObj l o) :=
 ⟨rfl, rfl, rfl, by simp, fun b _ hb => World.putObj_heap_other fun e => hb (e ▸ hl)⟩
theorem Two.put {X : Ext} {ds : List Deferred} {Z : Nat → Prop} {γ : Gh} {W : World} {l : Nat} (h : Two X ds Z γ W) (hl : Z l) (o : Obj) : Two X ds Z (zcn γ W.heap.size) (W.putObj l o) :=
 (h.lets (Lets.put hl o)).congr fun b => ⟨fun h => h.elim id fun ⟨h1, h2⟩ => by simp at h2; omega, .inl⟩
theorem Two.one {X : Ext} {ds : List Deferred} {Z : Nat → Prop} {γ : Gh} {W : World} (h : Two X ds Z γ W) : ∀ b, Z b → γ.col b = 1 := fun b hb => by
 obtain ⟨γx, _, _, _, hZ, _⟩ := h
 exact (hZ b hb).2
theorem Two.lt {X : Ext} {ds : List Deferred} {Z : Nat → Prop} {γ : Gh} {W : World} (h : Two X ds Z γ W) : ∀ b, Z b → b < W.heap.size := fun b hb => by
 obtain ⟨γx, _, _, _, _, _, hl⟩ := h
 exact hl b hb
theorem CI.takes {σ ρ χ : Type} {P : Program} {X : Ext} {ds : List Deferred} {F : Fp} {l D : Nat} {rec : LoopState → Option Code → Loop} {old : Array Value} {slE : List (Nat × AV)} {Bs : σ → List Bx} {Br : ρ → List Bx} {cd : ρ → Code}
  {asg body : Code} {prm : Array Tmp} {N : Nat} {ks : List Nat} {kb : σ → χ → Option (σ ⊕ ρ)} {ps : χ → List AV} {Eb : σ → χ → Env} (fn : FuncId) (hrec : rec = fun st pe => { state := st, pending := pe, fn := fn, tmps := old, params := prm, assign := asg, body := body, defers := D })
  (hN : old.size = N) (hlD : l ≠ D) (hfs : ∀ p ∈ slE, p.2.free [1] [] = true) (hBs : ∀ s, zgD [1] [] (Bs s) = Bs s) (hBr : ∀ r, zgD [1] [] (Br r) = Br r)
  (hks : ∀ p ∈ slE, p.1 ∈ ks) (hpk : ∀ q ∈ prm.toList, q ∉ ks ∧ q < N) (hprm : ∀ x, (ps x).length = prm.size)
  (hasg : ∀ (X : Ext) (old : Array Value) s x, J false P asg (Sx ⟨⟨N, ks⟩, X, false, old⟩ ⟨zqT prm.toList (ps x) slE, Bs s⟩) fun e a w => e = .normal ∧ Sx ⟨⟨N, ks⟩, X, false, old⟩ (Eb s x) a w)
  (hfree : ∀ s x, znx [1] [] (Eb s x).sl = (Eb s x).sl ∧ zgD [1] [] (Eb s x).bx = (Eb s x).bx)
  (hbody : ∀ (X : Ext) (old : Array Value) s x o, kb s x = some o → J false P body (Sx ⟨⟨N, ks⟩, X, false, old⟩ (Eb s x)) (match o with
   | .inl s' => fun e a w => e = .normal ∧ Sx ⟨⟨N, ks⟩, X, false, old⟩ ⟨slE, Bs s'⟩ a w
   | .inr r => fun e a w => Jump e (cd r) ∧ Sx ⟨⟨N, ks⟩, X, false, old⟩ ⟨slE, Br r⟩ a w)) :
  zyg P l ps F (rnd kb) fun (st : σ ⊕ ρ) own W => ∃ γ, CI X ds F l D rec old slE Bs Br cd st own W γ := by
 rintro st own A x b st' us ⟨γ, h⟩ hown hk hus
 cases st with
 | inr r => cases hk
 | inl s =>
 have hur := hus γ fun c hc hF => (h.data c hF).1
 have hul : us.length = prm.size := by rw [zcw hur, hprm]
 have hl0 : A.heap[l]? = some (.loop (rec .ready none)) := h.lp
 have hZl : Zof own l D l := .inr (.inl rfl)
 have hnF : ¬ F l := fun hF => by have := (h.data l hF).1; have := h.two.one l hZl; omega
 have hy := run_yield (P := P) (args := us.toArray) hl0 (by rw [hrec]; simpa using hul)
 rw [hrec] at hy
 simp only at hy
 have hfold : (prm.zip us.toArray).foldl (fun tmps (q : Nat × Value) => tmps.setIfInBounds q.1 q.2) old = (prm.toList.zip us).foldl (fun tmps (q : Nat × Value) => tmps.setIfInBounds q.1 q.2) old := by
  rw [← Array.foldl_toList, Array.toList_zip]
 obtain ⟨q1, q2⟩ := ztV (prm.toList.zip us) old
 refine ⟨_, _, asg, body, hy, roundIn_of_wpIn trivial ?_⟩
 have hstart : Sx ⟨⟨N, ks⟩, zxV X ds (Zof own l D) F A, false, old⟩ ⟨zqT prm.toList (ps x) slE, Bs s⟩ { tmps := (prm.zip us.toArray).foldl (fun tmps (q : Nat × Value) => tmps.setIfInBounds q.1 q.2) old, defers := [] } A := by
  refine ⟨γ, ⟨⟨[], rfl, List.nodup_nil, fun D hD => by cases hD⟩, fun _ => rfl, ?_, fun k hk => ?_, h.two, ⟨rfl, rfl, rfl, Nat.le_refl _, fun _ _ _ => rfl⟩, h.data, h.two.lt⟩, ?_, h.bx⟩
  ·show Array.size _ = N
   rw [hfold, q1, hN]
  ·show Array.getD _ k undef = _
   rw [hfold]
   exact q2 k fun q hq e => (hpk q.1 (List.of_mem_zip hq).1).1 (e ▸ hk)
  ·have := zsY prm.toList (ps x) us slE ⟨old, []⟩ (fun p hp => h.sl p hp) hur (by rw [hprm]; simp) (fun p hp => by rw [hN]; exact (hpk p hp).2)
   rw [hfold]; exact this
 refine wpIn_mono (hasg _ old s x _ A hstart (some l) nofun) ?_
 rintro e a1 w1 ⟨rfl, γ1, hB1, hS1, hX1⟩
 obtain ⟨hT1, hsp1, hF1, hZ1⟩ := hB1.ext
 have hll := hZ1 l hZl
 have hl1 : w1.heap[l]? = some (.loop (rec .ready none)) := (hsp1.block l hll (.inl hZl)).trans hl0
 refine ⟨_, run_beginRound hl1 (by rw [hrec]), ?_⟩
 have hlt1 := (Array.getElem?_eq_some_iff.1 hl1).1
 obtain ⟨w2, hw2⟩ : ∃ w2, w1.putObj l (.loop { rec .ready none with state := .busy }) = w2 := ⟨_, rfl⟩
 rw [hw2]
 have hsz2 : w2.heap.size = w1.heap.size := by rw [← hw2]; simp
 have hl2 : w2.heap[l]? = some (.loop { rec .ready none with state := .busy }) := by rw [← hw2]; exact World.putObj_heap_same hlt1
 have hL12 : Lets (Zof own l D) w1 w2 := by rw [← hw2]; exact Lets.put hZl _
 have hLl : Lets (fun b => b = l) w1 w2 := by rw [← hw2]; exact Lets.put (Z := fun b => b = l) rfl _
 have hT12 := zlV hLl fun b e => by rw [e]; exact hT1.one l hZl
 have hT2 : Two X ds (Zof own l D) (zcn γ1 w1.heap.size) w2 := by rw [← hw2]; exact hT1.put hZl _
 have hsb : Sx ⟨⟨N, ks⟩, zxV X ds (Zof own l D) F w2, false, old⟩ (Eb s x) a1 w2 := by
  refine ⟨zcn γ1 w1.heap.size, ⟨⟨[], hB1.clean rfl, List.nodup_nil, fun D hD => by cases hD⟩, hB1.clean, hB1.size, hB1.kept, hT2, ⟨rfl, rfl, rfl, Nat.le_refl _, fun _ _ _ => rfl⟩, fun c hF => ?_, hT2.lt⟩, ?_, ?_⟩
  ·obtain ⟨g1, g2⟩ := hF1 c hF
   have g3 := Nat.lt_of_lt_of_le g2 hsp1.size
   exact ⟨by simp [zcn, g3, g1], by rw [hsz2]; exact g3⟩
  ·have := hS1.tr hT12
   rw [(hfree s x).1] at this; exact this
  ·have := hX1.tr hT12
   rw [(hfree s x).2] at this; exact this
 have fin : ∀ (jump : Option Code) (st' : σ ⊕ ρ) (a3 : Act) (w3 : World), (∃ γ3, Base ⟨⟨N, ks⟩, zxV X ds (Zof own l D) F w2, false, old⟩ γ3 a3 w3 ∧ Sl γ3 w3 a3 slE ∧ Bxs γ3 w3 (bxOf Bs Br st')) →
   lpOf rec cd st' = rec (if jump.isNone then .ready else .done) jump → zgD [1] [] (bxOf Bs Br st') = bxOf Bs Br st' →
   ∃ w4, (Instr.endRound l jump).run P w3 = .ok (.bool jump.isNone) w4 ∧ (∃ γ4, CI X ds F l D rec old slE Bs Br cd st' own w4 γ4) ∧ zxd (fun c => own c ∨ F c) A w4 := by
  rintro jump st' a3 w3 ⟨γ3, hB3, hS3, hX3⟩ hlp hkb
  obtain ⟨hT3, hsp3, hF3, hZ3⟩ := hB3.ext
  have hl3 : w3.heap[l]? = some (.loop { rec .ready none with state := .busy }) := (hsp3.block l (by omega) (.inl hZl)).trans hl2
  have hlt3 := (Array.getElem?_eq_some_iff.1 hl3).1
  have hD2 : D < w2.heap.size := hZ3 D (.inr (.inr rfl))
  have hrun := run_endRound (P := P) jump hl3
  have hobj : ({ ({ rec .ready none with state := .busy } : Loop) with state := if jump.isNone then .ready else .done, pending := jump } : Loop) = lpOf rec cd st' := by rw [hlp, hrec]
  rw [hobj] at hrun
  have hLl3 : Lets (fun b => b = l) w3 (w3.putObj l (.loop (lpOf rec cd st'))) := Lets.put (Z := fun b => b = l) rfl _
  have hT34 := zlV hLl3 fun b e => by rw [e]; exact hT3.one l hZl
  refine ⟨_, hrun, ⟨zcn γ3 w3.heap.size, hT3.put hZl _, fun c hF => ?_, h.nl, h.nD, ?_, fun p hp => ?_, ?_, World.putObj_heap_same hlt3⟩, ?_⟩
  ·obtain ⟨g1, g2⟩ := hF3 c hF
   have g3 := Nat.lt_of_lt_of_le g2 hsp3.size
   exact ⟨by simp [zcn, g3, g1], by simpa using g3⟩
  ·rw [World.putObj_heap_other (Ne.symm hlD), hsp3.block D hD2 (.inl (.inr (.inr rfl))), hLl.block D (by omega) (Ne.symm hlD), hsp1.block D (hZ1 D (.inr (.inr rfl))) (.inl (.inr (.inr rfl)))]
   exact h.blk
  ·obtain ⟨f1, f2⟩ := AV.free_spec (hfs p hp)
   have := p.2.keep hT34 f1 f2 (hS3 p hp)
   rw [hB3.kept p.1 (hks p hp)] at this
   exact this
  ·have := hX3.tr hT34
   rw [hkb] at this; exact this
  ·have hlz : ∀ c, own c ∨ F c → c ≠ l := fun c hc e => by
    subst e
    exact hc.elim h.nl hnF
   refine ⟨?_, ?_, ?_, ?_, fun c hc hcc => ?_⟩
   ·exact hsp3.os.trans (hL12.os.trans hsp1.os)
   ·exact hsp3.tape.trans (hL12.tape.trans hsp1.tape)
   ·exact hsp3.output.trans (hL12.output.trans hsp1.output)
   ·have := hsp1.size
    have := hsp3.size
    simp; omega
   ·have h1 := hsp1.size
    have hz : Zof own l D c ∨ F c := hcc.imp .inl id
    rw [World.putObj_heap_other (hlz c hcc), hsp3.block c (by omega) hz, hLl.block c (by omega) (hlz c hcc), hsp1.block c hc hz]
 cases hkb : kb s x with
 | none => simp [rnd, hkb] at hk
 | some o =>
  refine wpIn_mono (hbody _ old s x o hkb a1 w2 hsb (some l) nofun) ?_
  rintro e a3 w3 hp
  cases o with
  | inl s' =>
   simp [rnd, hkb] at hk
   obtain ⟨rfl, rfl⟩ := hk
   obtain ⟨rfl, hs3⟩ := hp
   obtain ⟨w4, e1, e2, e3⟩ := fin none (.inl s') a3 w3 hs3 rfl (hBs s')
   exact ⟨_, w4, e1, rfl, e2, e3⟩
  | inr r =>
   simp [rnd, hkb] at hk
   obtain ⟨rfl, rfl⟩ := hk
   obtain ⟨hj, hs3⟩ := hp
   obtain ⟨w4, e1, e2, e3⟩ := fin (some (cd r)) (.inr r) a3 w3 hs3 rfl (hBr r)
   cases e with
   | ret =>
    cases hc : cd r with
    | ret => rw [hc] at e1; exact ⟨_, w4, e1, rfl, e2, e3⟩
    | _ => rw [hc] at hj; exact hj.elim
   | exit i =>
    cases hc : cd r with
    | exit j => rw [hc] at e1 hj; cases (show i = j from hj); exact ⟨_, w4, e1, rfl, e2, e3⟩
    | _ => rw [hc] at hj; exact hj.elim
   | _ => exact hj.elim
theorem zwm {W V : List Nat} {l : List Bx} {c : Bx} (h : c ∈ zgD W V l) : c.lab ∉ W ∧ ∀ a ∈ c.avs, a.free W V = true := by
 simp only [zgD, List.mem_map, List.mem_filter, Bool.and_eq_true] at h
 obtain ⟨b, ⟨_, h1, _⟩, rfl⟩ := h
 refine ⟨zdz h1, fun a ha => ?_⟩
 obtain ⟨x, _, rfl⟩ := List.mem_map.1 ha
 unfold AV.clear
 cases hf : x.free W V with
 | true => exact hf
 | false => rfl
theorem zyk {W V : List Nat} : ∀ {l : List AV}, (∀ a ∈ l, a.free W V = true) → (∀ c ∈ AV.colsL l, c ∉ W) ∧ ∀ c ∈ AV.labsL l, c ∉ V
 | [], _ => by
  refine ⟨?_, ?_⟩
  ·intro c hc; cases hc
  ·intro c hc; cases hc
 | a :: l, h => by
  obtain ⟨h1, h2⟩ := AV.free_spec (h a List.mem_cons_self)
  obtain ⟨h3, h4⟩ := zyk (l := l) fun b hb => h b (List.mem_cons_of_mem _ hb)
  exact ⟨fun c hc => (List.mem_append.1 hc).elim (h1 c) (h3 c), fun c hc => (List.mem_append.1 hc).elim (h2 c) (h4 c)⟩
def zCq {σ ρ : Type} (P : Program) (cx : Cx) (its : List It) (slE : List (Nat × AV)) (Bs : σ → List Bx) (Br : ρ → List Bx) (cd : ρ → Code) (Q : Exit → Act → World → Prop) : σ ⊕ ρ → Prop
 | .inl s => JI true P its (Sx cx ⟨slE, Bs s⟩) Q
 | .inr r => JI true P (.c (cd r) :: its) (Sx cx ⟨slE, Br r⟩) Q
theorem zsu {σ ρ χ : Type} {P : Program} {gf : Nat} {caps : List AV} {ps : χ → List AV} {it : {σ : Type} → Rnd σ χ → σ → Option σ} {g : Operand} {prm : Array Tmp} {asg body : Code} {cx : Cx} {E : Env} {its : List It} {Q : Exit → Act → World → Prop} {s0 : σ} {o : σ ⊕ ρ}
  (ok : ItOk P gf caps ps it) (L ks bs : List Nat) (slE : List (Nat × AV)) (Bs : σ → List Bx) (Br : ρ → List Bx) (cd : ρ → Code) (kb : σ → χ → Option (σ ⊕ ρ)) (Eb : σ → χ → Env)
  (hmk : cx.marked = true) (hg : E.opd g = some (.fv gf caps)) (heg : ∀ as w, (callFunc gf as).run P w = .ok (.enter gf as) w) (hL : okW L = true) (hLs : (L.all fun c => !spB c) = true) (hcols : subN (AV.colsL caps) (0 :: L) = true)
  (hp : E.pick ks bs = some ⟨slE, Bs s0⟩) (hfs : (slE.all fun p => p.2.free (1 :: L) []) = true) (hB0 : zgD (1 :: L) [] (Bs s0) = Bs s0) (hBs : ∀ s, zgD [1] [] (Bs s) = Bs s) (hBr : ∀ r, zgD [1] [] (Br r) = Br r)
  (hpk : (prm.toList.all fun q => !memN q ks && Nat.blt q cx.n.n) = true) (hks : (slE.all fun p => memN p.1 ks) = true) (hprm : ∀ x, (ps x).length = prm.size)
  (hasg : ∀ (X : Ext) (old : Array Value) s x, J false P asg (Sx ⟨⟨cx.n.n, ks⟩, X, false, old⟩ ⟨zqT prm.toList (ps x) slE, Bs s⟩) fun e a w => e = .normal ∧ Sx ⟨⟨cx.n.n, ks⟩, X, false, old⟩ (Eb s x) a w)
  (hfree : ∀ s x, znx [1] [] (Eb s x).sl = (Eb s x).sl ∧ zgD [1] [] (Eb s x).bx = (Eb s x).bx)
  (hbody : ∀ (X : Ext) (old : Array Value) s x o, kb s x = some o → J false P body (Sx ⟨⟨cx.n.n, ks⟩, X, false, old⟩ (Eb s x)) (match o with
   | .inl s' => fun e a w => e = .normal ∧ Sx ⟨⟨cx.n.n, ks⟩, X, false, old⟩ ⟨slE, Bs s'⟩ a w
   | .inr r => fun e a w => Jump e (cd r) ∧ Sx ⟨⟨cx.n.n, ks⟩, X, false, old⟩ ⟨slE, Br r⟩ a w))
  (hit : it (rnd kb) (.inl s0) = some o)
  (hk : zCq P cx its slE Bs Br cd Q o) : JI true P (.c (.rangeFunc g prm asg body) :: its) (Sx cx E) Q := by
 intro a w hs
 rw [zmR]
 intro ro hro
 obtain rfl := hro rfl
 refine wpIn_rangeFunc fun fn _ => ?_
 obtain ⟨γ0, hB, hS, hX⟩ := hs
 obtain ⟨vs, hv, hcaps⟩ := Env.opd_rel hg hS
 have hL2 := zqc hL
 have h0L : 0 ∉ L := fun h => by have := hL2 0 h; omega
 have h1L : 1 ∉ L := fun h => by have := hL2 1 h; omega
 simp only [List.all_eq_true] at hfs hpk hks
 have hslm : ∀ p ∈ slE, p ∈ E.sl := by
  unfold Env.pick at hp
  split at hp
  ·rename_i s' b' e1 e2; cases hp; exact zkv _ _ e1
  ·cases hp
 have hbxm : ∀ b ∈ Bs s0, b ∈ E.bx := by
  unfold Env.pick at hp
  split at hp
  ·rename_i s' b' e1 e2; simp only [Option.some.injEq, Env.mk.injEq] at hp; rw [← hp.2]; exact zmz _ _ e2
  ·cases hp
 obtain ⟨rec, hrec⟩ : ∃ rec : LoopState → Option Code → Loop, rec = fun st pe => { state := st, pending := pe, fn := fn, tmps := a.tmps, params := prm, assign := asg, body := body, defers := w.heap.size } := ⟨_, rfl⟩
 obtain ⟨W1, hW1⟩ : ∃ W1, (w.alloc (.deferred (some []))).alloc (.loop (rec .ready none)) = W1 := ⟨_, rfl⟩
 have hl1 : W1.heap[w.heap.size + 1]? = some (.loop (rec .ready none)) := by
  rw [← hW1]; have := World.alloc_heap_new (w.alloc (.deferred (some []))) (.loop (rec .ready none)); rwa [World.size_alloc] at this
 have hD1 : W1.heap[w.heap.size]? = some (.deferred (some [])) := by
  rw [← hW1]; exact (Below.heap_alloc _ _ _ (by simp)).trans (World.alloc_heap_new w _)
 have hsz : W1.heap.size = w.heap.size + 2 := by rw [← hW1]; simp
 have hblk : ∀ b, b < w.heap.size → W1.heap[b]? = w.heap[b]? := fun b hb => by
  rw [← hW1]; exact (Below.heap_alloc _ _ _ (by simp; omega)).trans (Below.heap_alloc _ _ _ hb)
 have hos : W1.os = w.os ∧ W1.tape = w.tape ∧ W1.output = w.output := by rw [← hW1]; exact ⟨rfl, rfl, rfl⟩
 have trn : ∀ γ γ' : Gh, (∀ b, b < w.heap.size → γ'.col b = γ.col b) → γ'.box = γ.box → (∀ b, w.heap.size ≤ b → b < w.heap.size + 2 → γ'.col b ≠ 0) → Tr [] [] γ w γ' W1 := fun γ γ' h1 h2 h3 =>
  ⟨hos.1, hos.2.1, hos.2.2, by omega, fun b hb _ => hblk b hb, h1, fun ℓ _ => by rw [h2], fun b hb hb2 h0 => absurd h0 (h3 b hb (by omega))⟩
 obtain ⟨own0, hown0⟩ : ∃ own0 : Nat → Prop, own0 = fun b => b < w.heap.size ∧ γ0.col b ∈ L := ⟨_, rfl⟩
 obtain ⟨F, hF⟩ : ∃ F : Fp, F = fun b => b < w.heap.size ∧ γ0.col b = 0 := ⟨_, rfl⟩
 -- the iterator's view
 obtain ⟨γi, hγi⟩ : ∃ γi : Gh, γi = ⟨fun b => if b < w.heap.size then (if γ0.col b ∈ L then γ0.col b else if γ0.col b = 0 then 0 else 1) else 1, γ0.box⟩ := ⟨_, rfl⟩
 have hci : AV.relL γi W1 caps vs := by
  refine AV.keepL caps (trn γi γi (fun _ _ => rfl) rfl (fun b h1 _ => by simp [hγi, Nat.not_lt.2 h1])) (fun c _ h => by cases h) (fun c _ h => by cases h) (AV.reghL caps (fun b hb hc => ?_) (fun ℓ _ => by rw [hγi]) hcaps)
  have := zbi hcols _ hc
  rw [hγi]
  rcases List.mem_cons.1 this with e | e
  ·simp [hb, e, h0L]
  ·simp [hb, e]
 have hGi : ItG F own0 γi W1 := by
  rw [hγi, hF, hown0]
  refine ⟨fun b hb h0 => ?_, fun b hb h2 => ?_, fun b hb => by rw [hsz]; exact Nat.lt_of_lt_of_le hb.1 (by omega)⟩
  ·by_cases hlt : b < w.heap.size
   ·by_cases hm : γ0.col b ∈ L
    ·simp [hlt, hm] at h0; rw [h0] at hm; exact absurd hm h0L
    ·by_cases hz : γ0.col b = 0
     ·exact ⟨hlt, hz⟩
     ·simp [hlt, hm, hz] at h0
   ·simp [hlt] at h0
  ·by_cases hlt : b < w.heap.size
   ·by_cases hm : γ0.col b ∈ L
    ·exact ⟨hlt, hm⟩
    ·by_cases hz : γ0.col b = 0
     ·simp [hlt, hz, h0L] at h2
     ·simp [hlt, hm, hz] at h2
   ·simp [hlt] at h2
 -- the caller's
 obtain ⟨γ1, hγ1⟩ : ∃ γ1 : Gh, γ1 = ⟨fun b => if b < w.heap.size then (if γ0.col b ∈ L then 1 else γ0.col b) else 1, γ0.box⟩ := ⟨_, rfl⟩
 have h1same : ∀ (C : List Nat), (∀ c ∈ C, c ∉ 1 :: L) → ∀ b, b < w.heap.size → γ0.col b ∈ C → γ1.col b = γ0.col b := fun C hC b hb hc => by
  have hn : γ0.col b ∉ L := fun h => hC _ hc (List.mem_cons_of_mem _ h)
  simp [hγ1, hb, hn]
 have tr1 : Tr [] [] γ1 w γ1 W1 := trn γ1 γ1 (fun _ _ => rfl) rfl (fun b h1 _ => by simp [hγ1, Nat.not_lt.2 h1])
 have hI0 : CI cx.X a.defers F (w.heap.size + 1) w.heap.size rec a.tmps slE Bs Br cd (.inl s0) own0 W1 γ1 := by
  have ha : zrT γ0 ⟨fun b => if γ0.col b ∈ L then 2 else γ0.col b, γ0.box⟩ := by
   refine ⟨fun b hb => by simp [hb, h0L], fun b hb => by simp [hb, h1L], fun b hb => ?_, fun b hb => ?_⟩
   ·by_cases hm : γ0.col b ∈ L
    ·simp [hm] at hb
    ·simpa [hm] using hb
   ·have hm : γ0.col b ∉ L := fun hm => by
     have := List.all_eq_true.1 hLs _ hm
     rw [hb] at this; cases this
    simp [hm]
  have htx : Tr [] [] ⟨fun b => if γ0.col b ∈ L then 2 else γ0.col b, γ0.box⟩ w ⟨fun b => if b < w.heap.size then (if γ0.col b ∈ L then 2 else γ0.col b) else if b < w.heap.size + 2 then 2 else 1, γ0.box⟩ W1 :=
   trn _ _ (fun b hb => by simp [hb]) rfl (fun b h1 h2 => by simp [Nat.not_lt.2 h1, h2])
  refine ⟨⟨_, cx.X.tr (cx.X.ren hB.ext ha) htx (fun c hc => by cases hc) (fun c hc => by cases hc), (hB.defers.ren ha).tr htx (fun c hc => by cases hc), by rw [hγ1], fun b hz => ?_, fun b hz => ?_, fun b hz => ?_⟩, fun b hb => ?_, ?_, ?_, hD1, fun p hp => ?_, fun c hc => ?_, hl1⟩
  ·rw [hown0] at hz
   rcases hz with ⟨h1, h2⟩ | rfl | rfl
   ·simp [h1, h2, hγ1]
   ·have q1 : ¬ w.heap.size + 1 < w.heap.size := by omega
    have q2 : w.heap.size + 1 < w.heap.size + 2 := by omega
    simp only [hγ1, if_neg q1, if_pos q2, and_self]
   ·have q1 : ¬ w.heap.size < w.heap.size := by omega
    have q2 : w.heap.size < w.heap.size + 2 := by omega
    simp only [hγ1, if_neg q1, if_pos q2, and_self]
  ·rw [hown0] at hz
   by_cases hb : b < w.heap.size
   ·have hm : γ0.col b ∉ L := fun hm => hz (.inl ⟨hb, hm⟩)
    simp [hγ1, hb, hm]
   ·have hb2 : ¬ b < w.heap.size + 2 := fun h => hz (by
     have : b = w.heap.size + 1 ∨ b = w.heap.size := by omega
     exact .inr this)
    simp [hγ1, hb, hb2]
  ·rw [hown0] at hz
   rw [hsz]
   rcases hz with ⟨h1, h2⟩ | rfl | rfl <;> omega
  ·rw [hF] at hb
   refine ⟨?_, by rw [hsz]; exact Nat.lt_of_lt_of_le hb.1 (by omega)⟩
   simp [hγ1, hb.1, hb.2, h0L]
  ·rw [hown0]; intro h; have := h.1; omega
  ·rw [hown0]; intro h; have := h.1; omega
  ·obtain ⟨f1, f2⟩ := AV.free_spec (hfs p hp)
   exact p.2.keep tr1 (fun c _ h => by cases h) (fun c _ h => by cases h) (AV.regh p.2 (h1same _ f1) (fun ℓ _ => by rw [hγ1]) (hS p (hslm p hp)))
  ·have hc' : c ∈ zgD (1 :: L) [] (Bs s0) := by rw [hB0]; exact hc
   obtain ⟨k1, k2⟩ := zwm hc'
   obtain ⟨k3, _⟩ := zyk k2
   obtain ⟨g1, cs, g2, g3, g4⟩ := hX c (hbxm c hc)
   have hlt := (Array.getElem?_eq_some_iff.1 g2).1
   have hbox : γ1.box = γ0.box := by rw [hγ1]
   refine ⟨?_, cs, ?_, AV.keepL c.avs tr1 (fun c _ h => by cases h) (fun c _ h => by cases h) (AV.reghL c.avs (h1same _ k3) (fun ℓ _ => by rw [hbox]) g3), g4⟩
   ·rw [hbox]
    have := h1same [c.lab] (fun d hd => by simp at hd; rw [hd]; exact k1) (γ0.box c.lab) hlt (by rw [g1]; exact List.mem_cons_self)
    rw [this]; exact g1
   ·rw [hbox, hblk _ hlt]; exact g2
 have hfs1 : ∀ p ∈ slE, p.2.free [1] [] = true := fun p hp => by
  obtain ⟨f1, f2⟩ := AV.free_spec (hfs p hp)
  unfold AV.free
  simp only [Bool.and_eq_true, List.all_eq_true, Bool.not_eq_true']
  refine ⟨fun c hc => ?_, fun c hc => rfl⟩
  cases hm : memN c [1] with
  | false => rfl
  | true => have := zcf.1 hm; exact absurd (List.mem_cons.2 (.inl (by simpa using this))) (f1 c hc)
 have hT := CI.takes (P := P) (X := cx.X) (ds := a.defers) (F := F) (l := w.heap.size + 1) (D := w.heap.size) (rec := rec) (old := a.tmps) (slE := slE) (Bs := Bs) (Br := Br) (cd := cd) (asg := asg) (body := body) (prm := prm) (N := cx.n.n) (ks := ks) (kb := kb) (ps := ps) (Eb := Eb)
  fn hrec hB.size (by omega) hfs1 hBs hBr (fun p hp => zcf.1 (hks p hp)) (fun q hq => by
   have := hpk q hq
   simp only [Bool.and_eq_true] at this
   exact ⟨zdz this.1, Nat.lt_of_succ_le (Nat.le_of_ble_eq_true this.2)⟩) hprm hasg hfree hbody
 refine ⟨w.heap.size + 1, [{ target := .collected w.heap.size, args := #[] }], W1, { target := .fn (.func gf) vs.toArray, args := #[.func (.yield (w.heap.size + 1)) #[] #[]] }, W1, gf,
  (.func (.yield (w.heap.size + 1)) #[] #[] :: vs).toArray, W1, ?_, ?_, fun _ _ => trivial, ?_, nofun, ?_⟩
 ·rw [← hW1, hrec]; exact run_enterLoop_outer _ _ _ _ _
 ·simp only [resolve, hv]
  simp [go_sem]
 ·simp [invoke, go_sem, heg]
 ·refine zoR.2 (Calls.mono (ok (σ ⊕ ρ) (rnd kb) (.inl s0) o hit (w.heap.size + 1) γi W1 F own0 vs _ hci hGi (CI.abid hfs1 hBs hBr) hT ⟨γ1, hI0⟩) ?_)
  rintro e W2 ⟨⟨v, rfl⟩, own', γ4, h4⟩
  have hend := run_endLoop (P := P) h4.lp (by cases o <;> simp [lpOf, hrec])
  obtain ⟨w4, hw4⟩ : ∃ w4, W2.putObj (w.heap.size + 1) (.loop { lpOf rec cd o with state := .exhausted }) = w4 := ⟨_, rfl⟩
  rw [hw4] at hend
  refine ⟨_, _, hend, ?_⟩
  have hZl : Zof own' (w.heap.size + 1) w.heap.size (w.heap.size + 1) := .inr (.inl rfl)
  have hsx : Sx cx ⟨slE, bxOf Bs Br o⟩ { a with defers := [{ target := .collected w.heap.size, args := #[] }] ++ a.defers } w4 := by
   have hLl : Lets (fun b => b = w.heap.size + 1) W2 w4 := by rw [← hw4]; exact Lets.put (Z := fun b => b = w.heap.size + 1) rfl _
   have hT4 := zlV hLl fun b e => by rw [e]; exact h4.two.one _ hZl
   have hout := (show Two cx.X a.defers (Zof own' (w.heap.size + 1) w.heap.size) (zcn γ4 W2.heap.size) w4 by rw [← hw4]; exact h4.two.put hZl _).out
   refine ⟨zcn γ4 W2.heap.size, ⟨?_, (fun e => by rw [hmk] at e; cases e), hB.size, hB.kept, hout.1⟩, fun p hp => ?_, ?_⟩
   ·obtain ⟨Ds, hd, hnd, hDs⟩ := hout.2
    obtain ⟨Ds0, hd0, _, hDs0⟩ := hB.defers
    refine ⟨w.heap.size :: Ds, by simp only [List.map_cons, ← hd]; rfl, List.nodup_cons.2 ⟨fun hm => ?_, hnd⟩, fun D hD => ?_⟩
    ·have : ({ target := .collected w.heap.size, args := #[] } : Deferred) ∈ a.defers := by rw [hd]; exact List.mem_map.2 ⟨_, hm, rfl⟩
     rw [hd0] at this
     obtain ⟨D', hD', e⟩ := List.mem_map.1 this
     have e' : D' = w.heap.size := by injection e with e1; injection e1
     have := (Array.getElem?_eq_some_iff.1 (hDs0 D' hD').2.1).1
     omega
    ·rcases List.mem_cons.1 hD with rfl | hD
     ·have hDl := (Array.getElem?_eq_some_iff.1 h4.blk).1
      refine ⟨cx.X.le hB.ext, (hLl.block _ hDl (by omega)).trans h4.blk, ?_⟩
      simp [zcn, hDl]; exact h4.two.one _ (.inr (.inr rfl))
     ·exact hDs D hD
   ·obtain ⟨f1, f2⟩ := AV.free_spec (hfs1 p hp)
    exact p.2.keep hT4 f1 f2 (h4.sl p hp)
   ·have := h4.bx.tr hT4
    cases o with
    | inl s => rw [show bxOf Bs Br (Sum.inl s) = Bs s from rfl, hBs] at this; exact this
    | inr r => rw [show bxOf Bs Br (Sum.inr r) = Br r from rfl, hBr] at this; exact this
  cases o with
  | inl s =>
   have hpn : (lpOf rec cd (Sum.inl s : σ ⊕ ρ)).pending = none := by simp [lpOf, hrec]
   rw [hpn]; exact hk _ _ hsx
  | inr r =>
   have hpn : (lpOf rec cd (Sum.inr r : σ ⊕ ρ)).pending = some (cd r) := by simp [lpOf, hrec]
   rw [hpn]; exact hk _ _ hsx none (fun _ => rfl)
theorem zqG {P : Program} {f : FuncId} {fn : Func} {c : Code} {ins outs : List AV} {E : Env} (N : Nat) (hf : P.funcs[f]? = some fn) (hb : fn.body = some c) (hN : fn.ntmps = N) (hlen : Nat.ble ins.length N = true) (hres : zmF P E fn.results.toList outs)
  (hE1 : znx [1] [] E.sl = E.sl) (hE2 : zgD [1] [] E.bx = E.bx)
  (hj : ∀ X : Ext, J true P c (Sx ⟨⟨N, []⟩, X, true, #[]⟩ ⟨zoS 0 ins, []⟩) fun e a w => e = .ret ∧ Sx ⟨⟨N, []⟩, X, true, #[]⟩ E a w) : FnOk P f ins outs := by
 subst hN
 intro w F vs hr
 have hl := zcw hr
 have hlen := Nat.le_of_ble_eq_true hlen
 refine (zoR (ro := none) (n := 0)).1 (callsIn_of_wp_marks (F := RF none) hf hb trivial (wpIn_mono (hj (fnX w F) { tmps := vs.toArray ++ Array.replicate (fn.ntmps - vs.toArray.size) undef, defers := [] } w ⟨gh0 F, ⟨⟨[], rfl, List.nodup_nil, fun D hD => by cases hD⟩, (fun _ => rfl), ?_, (fun k hk => by cases hk), Below.refl _ _, fun b _ => ?_, fun b h1 h2 => by omega⟩, ?_, fun b hb => by cases hb⟩ none (fun _ => rfl)) ?_))
 ·simp [hl]; omega
 ·by_cases hF : F b <;> simp [gh0, hF]
 ·intro p hp
  have := zoT hr [] (List.replicate (fn.ntmps - vs.length) undef) p hp
  simp only [List.nil_append] at this
  have e : (vs ++ List.replicate (fn.ntmps - vs.length) undef).toArray = vs.toArray ++ Array.replicate (fn.ntmps - vs.toArray.size) undef := by simp
  rw [e] at this
  exact this
 ·rintro e a w1 ⟨rfl, γ, hB, hS, hX⟩
  obtain ⟨Ds, hd, hnd, hDs⟩ := hB.defers
  obtain ⟨hx1, hx2, hx3⟩ := hB.ext
  show LeavesInM (RF none) 0 P fn a.tmps _ a.defers .returning w1
  rw [hd]
  have key : ∀ (Ds : List Nat) (w2 : World), Ds.Nodup → (∀ D ∈ Ds, w.heap.size ≤ D ∧ w2.heap[D]? = some (.deferred (some [])) ∧ γ.col D = 1) → Lets (fun b => γ.col b = 1 ∧ w.heap.size ≤ b) w1 w2 → w2.heap.size = w1.heap.size →
    LeavesInM (RF none) 0 P fn a.tmps (fun e w' => ∃ γ us, e = .returned (zjM us) ∧ Below w.heap.size w w' ∧
     ((∀ b, b < w.heap.size → (γ.col b = 0 ∧ F b) ∨ γ.col b = 1) ∧ ∀ b, w.heap.size ≤ b → b < w'.heap.size → γ.col b ≠ 0) ∧ AV.relL γ w' outs us) (Ds.map fun D => { target := .collected D, args := #[] }) .returning w2 := by
   intro Ds
   induction Ds with
   | nil =>
    intro w2 _ _ hLs hsz
    have hT := zlV hLs fun b hb => hb.1
    have hS2 := hS.tr hT
    have hX2 := hX.tr hT
    rw [hE1] at hS2
    rw [hE2] at hX2
    obtain ⟨us, hu, hu'⟩ := zkZ (P := P) (fn := fn) hS2 hX2 hres
    refine ⟨_, hu, zcn γ w1.heap.size, us, rfl, ⟨hLs.os.trans hx1.os, hLs.tape.trans hx1.tape, hLs.output.trans hx1.output, Nat.le_trans hx1.size hLs.size, fun b hb => ?_⟩, ⟨fun b hb => ?_, fun b h1 h2 => ?_⟩, hu'⟩
    ·rw [hLs.block b (Nat.lt_of_lt_of_le hb hx1.size) (fun h => by have := h.2; omega)]; exact hx1.block b hb
    ·have h1 := Nat.lt_of_lt_of_le hb hx1.size
     simp only [zcn, if_pos h1]; exact hx2 b hb
    ·rw [hsz] at h2
     simp only [zcn, if_pos h2]; exact hx3 b h1 h2
   | cons D Ds ih =>
    intro w2 hnd hDs hLs hsz
    obtain ⟨n1, n2⟩ := List.nodup_cons.1 hnd
    obtain ⟨g0, g1, g2⟩ := hDs D List.mem_cons_self
    refine ⟨nofun, .inl ⟨D, w2.putObj D (.deferred none), rfl, run_takeDeferred g1, ih _ n2 (fun D' hD' => ?_) ⟨hLs.os, hLs.tape, hLs.output, by simpa using hLs.size, fun b hb hn => ?_⟩ (by simpa using hsz)⟩⟩
    ·obtain ⟨k0, k1, k2⟩ := hDs D' (List.mem_cons_of_mem _ hD')
     exact ⟨k0, (World.putObj_heap_other fun e => n1 (by rw [← e]; exact hD')).trans k1, k2⟩
    ·rw [World.putObj_heap_other (fun e => hn (by rw [e]; exact ⟨g2, g0⟩))]; exact hLs.block b hb hn
  exact key Ds w1 hnd hDs ⟨rfl, rfl, rfl, Nat.le_refl _, fun _ _ _ => rfl⟩ rfl
section
variable {m : Bool} {P : Program} {l : List It} {cx : Cx} {E E1 : Env} {Q : Exit → Act → World → Prop} {id : Nat} {c : Code}
theorem zxx (h : zdX E E1) : JI m P [] (Sx cx E) fun e a w => (e = .normal ∨ e = .ret) ∧ Sx cx E1 a w := zxy fun _ _ hs => ⟨.inl rfl, h.go hs⟩
theorem zCy (h : zdX E E1) : JI m P (.c .ret :: l) (Sx cx E) fun e a w => (e = .normal ∨ e = .ret) ∧ Sx cx E1 a w := zsv fun _ _ hs => ⟨.inr rfl, h.go hs⟩
theorem zuS (h : zdX E E1) : ∀ e a w, (e = .ret ∧ Sx cx E a w) → zhW m P (fun e a w => (e = .normal ∨ e = .ret) ∧ Sx cx E1 a w) l e a w := zAv fun _ _ hs => ⟨.inr rfl, h.go hs⟩
theorem zBJ (h : zdX E E1) : JI m P (.c .ret :: l) (Sx cx E) fun e a w => Jump e .ret ∧ Sx cx E1 a w := zsv fun _ _ hs => ⟨trivial, h.go hs⟩
theorem zpN {σ ρ : Type} (body : σ → Option (σ ⊕ ρ)) (Cs : σ → Cx) (Es : σ → Env) (R : ρ → Exit → Act → World → Prop)
  (hb : ∀ s o, body s = some o → J m P c (Sx (Cs s) (Es s)) (match o with
   | .inl s' => fun e a w => e = .normal ∧ Sx (Cs s') (Es s') a w
   | .inr r => fun e a w => e ≠ .normal ∧ R r e a w))
  {s : σ} {r : ρ} (h : zah body s = some r) (hC : cx = Cs s) (hS : zdX E (Es s)) (k : ∀ e a w, R r e a w → zhW m P Q l e a w) : JI m P (.c (.loop c) :: l) (Sx cx E) Q :=
 zyx body (fun s => Sx (Cs s) (Es s)) R hb h (fun _ _ hs => by subst hC; exact hS.go hs) k
end
end Go.Proofs.YtglkepeofhonlaaGreatDoor
namespace Go.Proofs.YtglkepeofhonlaaGreatDoor
open Go Go.RowKit
abbrev kI (x : Int) : AV := .lf (.int .i64 x)
abbrev k8 (x : Int) : AV := .lf (.int .u8 x)
abbrev kB (x : Bool) : AV := .lf (.bool x)
abbrev kS (x : List UInt8) : AV := .lf (.str x)
abbrev kN : AV := .lf (.val (.slice none 0 0))
theorem bnd {α β : Type} {x : Option α} {f : α → Option β} {r : β} (h : (x >>= f) = some r) : ∃ a, x = some a ∧ f a = some r := zxh h
theorem sj {α : Type} {a b : α} (h : some a = some b) : a = b := Option.some.inj h
def Env.keys (E : Env) : List Nat := E.sl.map (·.1)
def Env.labs (E : Env) : List Nat := E.bx.map (·.lab)
def nthO {α : Type} : List α → Nat → Option α
 | [], _ => none
 | x :: _, 0 => some x
 | _ :: l, n + 1 => nthO l n
theorem zop {α : Type} : ∀ {l : List α} {n : Nat} {x : α}, nthO l n = some x → l.drop n = x :: l.drop (n + 1)
 | [], _, _, h => by cases h
 | y :: l, 0, x, h => by cases h; rfl
 | y :: l, n + 1, x, h => by
  have := zop (l := l) (n := n) h
  simpa using this
def zls (E : Env) : List Operand → Option (List AV)
 | [] => some []
 | x :: l => match E.opd x, zls E l with
  | some a, some r => some (a :: r)
  | _, _ => none
theorem zpi {E : Env} : ∀ {ins : List (Operand × AV)}, zls E (ins.map (·.1)) = some (ins.map (·.2)) → zng E ins
 | [], _ => trivial
 | p :: l, h => by
  simp only [List.map_cons, zls] at h
  split at h
  ·rename_i a r h1 h2
   simp only [Option.some.injEq, List.cons.injEq] at h
   obtain ⟨rfl, rfl⟩ := h
   exact ⟨h1, zpi h2⟩
  ·cases h
theorem zsW {E : Env} : ∀ {bxs : List Bx}, znP E.bx (bxs.map (·.lab)) = some bxs → ztH E bxs
 | [], _ => trivial
 | b :: l, h => by
  simp only [List.map_cons, znP] at h
  split at h
  ·rename_i a r h1 h2
   simp only [Option.some.injEq, List.cons.injEq] at h
   obtain ⟨rfl, rfl⟩ := h
   exact ⟨h1, zsW h2⟩
  ·cases h
section
variable {P : Program} {N : Lim} {ops : Array Oper} {rest : List Oper} {E E' : Env} {o : Oper} {ins : List (Operand × AV)} {bxs : List Bx} {W V : List Nat} {av : AV} {bs : List Bx}
def zCp (t : Nat) (b : Bool) (E : Env) : Env := ⟨E.sl.map fun p => match Nat.beq p.1 t with
 | true => (p.1, .lf (.bool b))
 | false => p, E.bx⟩
theorem zaS (E1 : Env) (h : E.pick E1.keys E1.labs = some E1) (k : zdX E1 E') : zdX E E' := (zrK _ _ h).trans k
theorem zDb (x o : Nat) (h : (Nat.ble 2 x && Nat.ble 2 o && !spB x) = true) (k : zdX (E.ren x o) E') : zdX E E' := (zCB x o h).trans k
theorem zbL (t : Nat) {av : AV} (av' : AV) (hl : lookup E.sl t = some av) (hle : av.le av') (k : zdX ⟨zgB (some t) av' E.sl, E.bx⟩ E') : zdX E E' := (zDa t av' hl hle).trans k
theorem ziI (ℓ i : Nat) {b : Bx} {av : AV} (av' : AV) (hb : zgC E.bx ℓ = some b) (hi : b.avs[i]? = some av) (hle : av.le av') (k : zdX ⟨E.sl, ⟨b.lab, b.typ, b.avs.set i av'⟩ :: E.bx.filter fun c => !Nat.beq c.lab ℓ⟩ E') : zdX E E' := (zCA ℓ i av' hb hi hle).trans k
end
section
variable {m : Bool} {P : Program} {l l' : List It} {cx : Cx} {E E1 : Env} {Q : Exit → Act → World → Prop} {id : Nat} {ops : List Oper}
theorem zp (h : zdX E E1) : JI m P (.c .ret :: l) (Sx cx E) fun e a w => e = .ret ∧ Sx cx E1 a w := zsv fun _ _ hs => ⟨rfl, h.go hs⟩
theorem zaW (h : zdX E E1) : JI m P (.c .ret :: l) (Sx cx E) fun e a w => e ≠ .normal ∧ e = .ret ∧ Sx cx E1 a w := zsv fun _ _ hs => ⟨nofun, rfl, h.go hs⟩
theorem zJ (h : zdX E E1) : JI m P [] (Sx cx E) fun e a w => e = .normal ∧ Sx cx E1 a w := zxy fun _ _ hs => ⟨rfl, h.go hs⟩
theorem zai (he : zoH id l = none) (h : zdX E E1) : JI m P (.c (.exit id) :: l) (Sx cx E) fun e a w => e ≠ .normal ∧ e = .exit id ∧ Sx cx E1 a w := zAr he fun _ _ hs => ⟨nofun, rfl, h.go hs⟩
end
section
variable {m : Bool} {P : Program} {l : List It} {cx : Cx} {E E1 : Env} {Q : Exit → Act → World → Prop} {c : Code}
theorem zam {σ ρ : Type} (body : σ → Option (σ ⊕ ρ)) (Es : σ → Env) (R : ρ → Exit → Act → World → Prop)
  (hb : ∀ s o, body s = some o → J m P c (Sx cx (Es s)) (match o with
   | .inl s' => fun e a w => e = .normal ∧ Sx cx (Es s') a w
   | .inr r => fun e a w => e ≠ .normal ∧ R r e a w))
  {s : σ} {r : ρ} (h : zah body s = some r) (hS : zdX E (Es s)) (k : ∀ e a w, R r e a w → zhW m P Q l e a w) : JI m P (.c (.loop c) :: l) (Sx cx E) Q :=
 zyx body (fun s => Sx cx (Es s)) R hb h (fun _ _ hs => hS.go hs) k
theorem zdi (h : zdX E E1) : ∀ e a w, (e = .ret ∧ Sx cx E a w) → zhW m P (fun e a w => e = .ret ∧ Sx cx E1 a w) l e a w := zAv fun _ _ hs => ⟨rfl, h.go hs⟩
theorem zyA (h : zdX E E1) : ∀ e a w, (e = .ret ∧ Sx cx E a w) → zhW m P (fun e a w => e ≠ .normal ∧ e = .ret ∧ Sx cx E1 a w) l e a w := zAv fun _ _ hs => ⟨nofun, rfl, h.go hs⟩
end
end Go.Proofs.YtglkepeofhonlaaGreatDoor
namespace Go.Proofs.YtglkepeofhonlaaGreatDoor
open Go Go.RowKit
theorem znA {P : Program} {o : Oper} {α : Type} {r : Rp α} {e ℓ : Nat} {C : List Nat} {xs : List α} {k : IntKind} {i : Int} {x : α} {t e' : TypeId} {y z : Operand} {bytes : Nat}
  (ho : o.op = .indexAddr t y z) (hT : ElT P t e' r.size bytes) (hx : idx xs i = some x) : zL P o [(y, .own r e ℓ C xs), (z, .lf (.int k i))] [] [] [] (.ptr ℓ (i.toNat * r.size)) [] := by
 refine zR fun γ ev w hi _ => ?_
 obtain ⟨cs, hown, hg, hA, hn⟩ := hi (y, .own r e ℓ C xs) (by simp)
 have h2 := zfI (hi (z, .lf (.int k i)) (by simp))
 simp only at hown hg h2
 obtain ⟨i0, i1, _⟩ := zpM hx
 rcases hown.2 with ⟨_, hz⟩ | ⟨g, cap, cur, hv, _, hh, hnc, hcm, hcs, htake⟩
 ·omega
 ·have hbox := (hg g (by rw [hv]; rfl)).2
  refine ⟨.pointer (some ⟨g, 0 + i.toNat * r.size, none⟩), w, γ, by simp [execOp, ho, hv, h2, zrB hT w g 0 _ cap k i i0 i1], Tr.refl _ _ _ _, ?_, fun b hb => by cases hb⟩
  show _ = _
  rw [hbox, Nat.zero_add]
theorem zvU {α : Type} (r : Rp α) (xs : List α) (i f : Nat) (x x' : α) (ls : List LV) (hx : xs[i]? = some x) (hf : f + ls.length ≤ r.size) (h : r.lv x' = (r.lv x).take f ++ ls ++ (r.lv x).drop (f + ls.length)) :
  (xs.set i x').flatMap r.lv = (xs.flatMap r.lv).take (i * r.size + f) ++ ls ++ (xs.flatMap r.lv).drop (i * r.size + f + ls.length) := by
 have hi := (List.getElem?_eq_some_iff.1 hx).1
 have hs : xs = xs.take i ++ x :: xs.drop (i + 1) := by
  have h1 := (List.getElem?_eq_some_iff.1 hx).2
  rw [← h1, ← List.drop_eq_getElem_cons hi, List.take_append_drop]
 have hA : ((xs.take i).flatMap r.lv).length = i * r.size := by rw [r.flat, List.length_take, Nat.min_eq_left (by omega)]
 have hB := r.len x
 have e : xs.flatMap r.lv = (xs.take i).flatMap r.lv ++ (r.lv x ++ (xs.drop (i + 1)).flatMap r.lv) := by
  have := congrArg (List.flatMap r.lv) hs
  rw [List.flatMap_append, List.flatMap_cons] at this
  exact this
 have e1 : (xs.flatMap r.lv).take (i * r.size + f) = (xs.take i).flatMap r.lv ++ (r.lv x).take f := by
  rw [e, List.take_append, hA, List.take_of_length_le (by omega), Nat.add_sub_cancel_left, List.take_append_of_le_length (by omega)]
 have e2 : (xs.flatMap r.lv).drop (i * r.size + f + ls.length) = (r.lv x).drop (f + ls.length) ++ (xs.drop (i + 1)).flatMap r.lv := by
  rw [e, List.drop_append, hA, List.drop_eq_nil_of_le (by omega), List.nil_append, show i * r.size + f + ls.length - i * r.size = f + ls.length by omega, List.drop_append_of_le_length (by omega)]
 rw [List.set_eq_take_append_cons_drop, if_pos hi, List.flatMap_append, List.flatMap_cons, h, e1, e2]
 simp only [List.append_assoc]
theorem zot {α : Type} {r : Rp α} {x' : α} {ls : List LV} (h : ls = r.lv x') (x : α) : r.lv x' = (r.lv x).take 0 ++ ls ++ (r.lv x).drop (0 + ls.length) := by
 subst h
 rw [List.take_zero, List.nil_append, List.drop_eq_nil_of_le (by rw [r.len, r.len]; omega), List.append_nil]
theorem zkS {α : Type} {xs : List α} {i : Int} {x : α} (h : idx xs i = some x) : xs[i.toNat]? = some x := by
 unfold idx at h
 split at h
 ·exact h
 ·cases h
theorem zqY {P : Program} {N : Lim} {ops : Array Oper} {rest : List Oper} {E E' : Env} {o : Oper} {α : Type} {r : Rp α} {e ℓ : Nat} {C : List Nat} {xs : List α} {t : TypeId} {y z : Operand} {a : AV} {ls : List LV} {off : Nat}
  (ks : List Nat) (i f : Nat) (x x' : α) (C2 : List Nat) (hg : zfB ops E o = some true) (ho : o.op = .store t y z) (hd : o.dst = none) (hy : E.opd y = some (.ptr ℓ off)) (hz : E.opd z = some a) (hp : znM a = some ls) (hsz : ∀ w, (sizeOf t).run P w = .ok ls.length w)
  (hoff : off = i * r.size + f) (hk : E.pick ks [] = some ⟨ks.map fun k => (k, .own r e ℓ C xs), []⟩) (hne : ks.isEmpty = false) (hx : xs[i]? = some x) (hf : Nat.ble (f + ls.length) r.size = true)
  (hx' : r.lv x' = (r.lv x).take f ++ ls ++ (r.lv x).drop (f + ls.length)) (hC : (subN a.cols C2 && subN C C2 && !memN ℓ C2 && Nat.ble 2 ℓ) = true)
  (k : zcd P N ops rest ⟨(ks.map fun k => (k, .own r e ℓ C2 (xs.set i x'))) ++ (E.step [ℓ] [] none .any []).sl, (E.step [ℓ] [] none .any []).bx⟩ E') : zcd P N ops (o :: rest) E E' := by
 intro cx a' w Q hn hs hQ
 simp only [Bool.and_eq_true] at hC
 obtain ⟨⟨⟨hC1, hC2⟩, hC3⟩, hC4⟩ := hC
 have hs2 := hs
 obtain ⟨γ, hB, hS, hX⟩ := hs
 have hsl : ∀ kk ∈ ks, AV.rel γ w (.own r e ℓ C xs) (a'.tmps.getD kk undef) := by
  have hS1 : Sl γ w a' (ks.map fun k => (k, AV.own r e ℓ C xs)) := by
   have hk' := hk
   unfold Env.pick at hk'
   split at hk'
   ·rename_i s b h1 h2
    simp only [Option.some.injEq, Env.mk.injEq] at hk'
    rw [← hk'.1]
    exact fun p hp => hS p (zkv _ _ h1 p hp)
   ·cases hk'
  intro kk hkk
  exact hS1 (kk, .own r e ℓ C xs) (List.mem_map.2 ⟨kk, hkk, rfl⟩)
 obtain ⟨k0, hk0⟩ : ∃ k0, k0 ∈ ks := by
  cases ks with
  | nil => cases hne
  | cons k0 ks => exact ⟨k0, List.mem_cons_self⟩
 obtain ⟨cs, hown, hgb, hA, hnC⟩ := hsl k0 hk0
 have hi := (List.getElem?_eq_some_iff.1 hx).1
 rcases hown.2 with ⟨_, hz0⟩ | ⟨g, cap, cur, hv, _, hh, hnc, hcm, hcs, htake⟩
 ·omega
 ·obtain ⟨hcol, hbox⟩ := hgb g (by rw [hv]; rfl)
  have hf' := Nat.le_of_ble_eq_true hf
  have h1 : a'.eval y = .pointer (some ⟨g, off, none⟩) := by
   have := Env.opd_rel hy hS
   rw [show a'.eval y = _ from this, hbox]
  have hzr := Env.opd_rel hz hS
  have hV := zmy hp hzr hC1
  have hVl : (a'.eval z).cells.toList.length = ls.length := hV.1.symm
  have hcl : cs.length = xs.length * r.size := hown.1
  have hin : i * r.size + f + ls.length ≤ xs.length * r.size := by
   have : (i + 1) * r.size ≤ xs.length * r.size := Nat.mul_le_mul_right _ hi
   rw [Nat.succ_mul] at this
   omega
  have hcap : xs.length * r.size ≤ cap * r.size := Nat.mul_le_mul_right _ hnc
  have hst := run_storeCells_at P g off e (a'.eval z).cells.toList 0 cur w hh (by rw [hVl, hoff, hcs]; omega) hV.one
  simp only [Nat.add_zero, hVl] at hst
  have hrun : (execOp a'.eval o).run P w = .ok .skip (w.setRow g (cur.toList.take off ++ (a'.eval z).cells.toList ++ cur.toList.drop (off + ls.length)).toArray) := by
   have hsz' : (a'.eval z).cells.size = ls.length := by simpa using hVl
   simp [execOp, ho, h1, Instr.storeAt, Instr.sureAddr, storeVar, hsz, hsz', hst]
  have hcol' : γ.col (γ.box ℓ) = ℓ := by rw [hbox]; exact hcol
  have ht := zre (w := w) hcol' (cur.toList.take off ++ (a'.eval z).cells.toList ++ cur.toList.drop (off + ls.length)).toArray
  rw [hbox] at ht
  refine zhN (zeA hg hS) (zqe hrun ?_)
  rw [hd]
  have hnot : ∀ c ∈ C2, c ∉ [ℓ] := fun c hc h => by
   simp only [List.mem_cons, List.not_mem_nil, or_false] at h
   subst h
   exact zdz hC3 hc
  have hA2 : zab (γ.F C2) w (xs.flatMap r.lv) cs := hA.mono fun b _ hb => zbi hC2 _ hb
  refine k cx _ _ Q hn ⟨γ, (hB.tr ht (W := [ℓ]) (V := []) (by simp [okW, hC4]) rfl).put _ _ (fun k hk => by first | cases hk | (rw [hd] at hk; cases hk)), ?_, hX.tr ht⟩ hQ
  intro p hp
  rcases List.mem_append.1 hp with hp | hp
  ·obtain ⟨kk, hkk, rfl⟩ := List.mem_map.1 hp
   obtain ⟨cs1, hown1, hgb1, _, _⟩ := hsl kk hkk
   show AV.rel γ _ (.own r e ℓ C2 (xs.set i x')) (a'.tmps.getD kk undef)
   rcases hown1.2 with ⟨_, hz0⟩ | ⟨g1, cap1, cur1, hv1, _, hh1, hnc1, hcm1, hcs1, htake1⟩
   ·omega
   ·have hg1 : g1 = g := by rw [← (hgb1 g1 (by rw [hv1]; rfl)).2, hbox]
    subst hg1
    rw [hh] at hh1
    simp only [Option.some.injEq, Obj.cells.injEq] at hh1
    obtain ⟨rfl, _⟩ := hh1
    have ecs : cs1 = cs := by rw [← htake1, ← htake]
    subst ecs
    have hcurl : cur.toList.length = cap * r.size := by rw [Array.length_toList, hcs]
    have hcap1 : xs.length * r.size ≤ cap1 * r.size := Nat.mul_le_mul_right _ hnc1
    refine ⟨cs1.take off ++ (a'.eval z).cells.toList ++ cs1.drop (off + ls.length), ⟨?_, .inr ⟨g1, cap1, _, hv1.trans ?_, Nat.zero_le _, setRow_heap w _ _ _ _ _ hh, ?_, hcm1, ?_, ?_⟩⟩, ?_, ?_, fun hc => zdz hC3 hc⟩
    ·simp only [List.length_append, List.length_take, List.length_drop, hVl, List.length_set, hcl, hoff]
     omega
    ·simp
    ·simpa using hnc1
    ·simp only [List.size_toArray, List.length_append, List.length_take, List.length_drop, hVl, hcurl, ← hcs1, hcs]
     omega
    ·have e1 : cur.toList.take off = cs1.take off := by rw [← htake, List.take_take, Nat.min_eq_left (by omega)]
     have e2 : (cur.toList.drop (off + ls.length)).take (xs.length * r.size - (off + ls.length)) = cs1.drop (off + ls.length) := by
      rw [← htake, List.drop_take]
     have e3 : (cs1.take off ++ (a'.eval z).cells.toList).length = off + ls.length := by simp only [List.length_append, List.length_take, hVl, hcl, hoff]; omega
     rw [List.length_set, e1, List.take_append, e3, List.take_of_length_le (by omega), e2]
    ·intro g2 hg2
     have : g2 = g1 := by rw [hv1] at hg2; simpa [Value.ownBlock] using hg2.symm
     subst this
     exact ⟨hcol, hbox⟩
    ·rw [zvU r xs i f x x' ls hx hf' hx', ← hoff]
     exact ((ht.all hnot (hA2.take off)).append (ht.all hnot hV)).append (ht.all hnot (hA2.drop (off + ls.length)))
  ·exact ((hS.tr ht) : Sl _ _ _ _) p hp
end Go.Proofs.YtglkepeofhonlaaGreatDoor
namespace Go.Proofs.YtglkepeofhonlaaGreatDoor
open Go Go.RowKit
set_option linter.unusedVariables false
set_option linter.unusedSectionVars false
def zoQ (γ : Gh) (w : World) (γ' : Gh) (w' : World) (p : AV × AV) : Prop := ∀ v, p.1.rel γ w v → p.2.rel γ' w' v
def zvu (W V : List Nat) (T : List (AV × AV)) (a a' : AV) : Prop := ∀ γ w γ' w', Tr W V γ w γ' w' → (∀ p ∈ T, zoQ γ w γ' w' p) → ∀ v, a.rel γ w v → a'.rel γ' w' v
def zqB (W V : List Nat) (T : List (AV × AV)) : List AV → List AV → Prop
 | [], [] => True
 | a :: l, b :: m => zvu W V T a b ∧ zqB W V T l m
 | _, _ => False
section
variable {W V : List Nat} {T : List (AV × AV)} {a a' : AV} {l l' : List AV}
theorem zK (h : a.free W V = true) : zvu W V T a a := fun _ _ _ _ t _ v hv => a.keep t (AV.free_spec h).1 (AV.free_spec h).2 hv
theorem zfX (i : Nat) (h : T[i]? = some (a, a')) : zvu W V T a a' := fun _ _ _ _ _ hT v hv => hT _ (List.mem_of_getElem? h) v hv
theorem zqB.rel {γ γ' : Gh} {w w' : World} (t : Tr W V γ w γ' w') (hT : ∀ p ∈ T, zoQ γ w γ' w' p) : ∀ {l l' : List AV} {vs : List Value}, zqB W V T l l' → AV.relL γ w l vs → AV.relL γ' w' l' vs
 | [], [], _, _, h => h
 | a :: l, b :: m, _, h, hr => by
  obtain ⟨v, vs', rfl, h1, h2⟩ := hr
  exact ⟨v, vs', rfl, h.1 _ _ _ _ t hT v h1, zqB.rel t hT h.2 h2⟩
 | [], _ :: _, _, h, _ => h.elim
 | _ :: _, [], _, h, _ => h.elim
theorem zwT (h : zqB W V T l l') : zvu W V T (.ag l) (.ag l') := fun _ _ _ _ t hT v ⟨vs, hv, hL, h1⟩ => ⟨vs, hv, h.rel t hT hL, h1⟩
end
def SlT (W V : List Nat) (T : List (AV × AV)) (l : List (Nat × AV)) : List (Nat × AV) → Prop
 | [] => True
 | p :: r => (∃ a, lookup l p.1 = some a ∧ zvu W V T a p.2) ∧ SlT W V T l r
def BxT (W V : List Nat) (T : List (AV × AV)) (l : List Bx) : List Bx → Prop
 | [] => True
 | b :: r => (∃ c, zgC l b.lab = some c ∧ c.typ = b.typ ∧ (!memN b.lab W && !memN b.lab V) = true ∧ zqB W V T c.avs b.avs) ∧ BxT W V T l r
section
variable {W V : List Nat} {T : List (AV × AV)} {γ γ' : Gh} {w w' : World}
theorem SlT.rel (t : Tr W V γ w γ' w') (hT : ∀ p ∈ T, zoQ γ w γ' w' p) {l : List (Nat × AV)} {a : Act} (hs : Sl γ w a l) : ∀ {r : List (Nat × AV)}, SlT W V T l r → Sl γ' w' a r
 | [], _, p, hp => by cases hp
 | q :: r, h, p, hp => by
  obtain ⟨⟨x, hx, ht⟩, h2⟩ := h
  cases hp with
  | head => exact ht _ _ _ _ t hT _ (hs _ (zdP hx))
  | tail _ hp => exact SlT.rel t hT hs h2 p hp
theorem BxT.rel (t : Tr W V γ w γ' w') (hT : ∀ p ∈ T, zoQ γ w γ' w' p) {l : List Bx} (hs : Bxs γ w l) : ∀ {r : List Bx}, BxT W V T l r → Bxs γ' w' r
 | [], _, p, hp => by cases hp
 | q :: r, h, p, hp => by
  obtain ⟨⟨c, hc, hty, hWV, ht⟩, h2⟩ := h
  cases hp with
  | head =>
   obtain ⟨hm, hlab⟩ := zdY hc
   obtain ⟨g1, cs, hh, hL, h1⟩ := hs c hm
   simp only [Bool.and_eq_true] at hWV
   have hlt := (Array.getElem?_eq_some_iff.1 hh).1
   refine ⟨?_, cs, ?_, ht.rel t hT hL, h1⟩
   ·rw [t.box _ (zdz hWV.2), ← hlab, t.col _ hlt]; exact g1
   ·rw [t.box _ (zdz hWV.2), ← hlab, ← hty, t.block _ hlt (by rw [g1, hlab]; exact zdz hWV.1)]; exact hh
  | tail _ hp => exact BxT.rel t hT hs h2 p hp
end
def zoF (P : Program) (o : Oper) (ins : List (Operand × AV)) (W V : List Nat) (av : AV) (T : List (AV × AV)) : Prop :=
 ∀ (γ : Gh) (a : Act) (w : World), (∀ p ∈ ins, p.2.rel γ w (a.eval p.1)) → ∀ (next : Act → World → Prop) (Q : Exit → Act → World → Prop),
  (∀ γ' w' v, Tr W V γ w γ' w' → av.rel γ' w' v → (∀ p ∈ T, zoQ γ w γ' w' p) → next (a.put o.dst v) w') → opq P o a w next Q
theorem zhu {P : Program} {N : Lim} {ops : Array Oper} {rest : List Oper} {E E' : Env} {o : Oper} {ins : List (Operand × AV)} {W V : List Nat} {av : AV} {T : List (AV × AV)} (E1 : Env)
  (hs : zoF P o ins W V av T) (hg : zfB ops E o = some true) (hi : zls E (ins.map (·.1)) = some (ins.map (·.2))) (hc : (okW W && okW V && zhO N o.dst) = true)
  (hS : SlT W V T E.sl E1.sl) (hB : BxT W V T E.bx E1.bx) (k : zcd P N ops rest ⟨zgB o.dst av E1.sl, E1.bx⟩ E') : zcd P N ops (o :: rest) E E' := by
 intro cx a w Q hn hx hQ
 obtain ⟨γ, hb, hsl, hbx⟩ := hx
 simp only [Bool.and_eq_true] at hc
 obtain ⟨⟨c1, c2⟩, c3⟩ := hc
 refine zhN (zeA hg hsl) (hs γ a w ((zpi hi).rel hsl) _ Q fun γ' w' v ht hv hT => ?_)
 refine k cx _ _ Q hn ⟨γ', (hb.tr ht c1 c2).put _ _ (by rw [hn]; exact zdQ c3), ?_, hB.rel ht hT hbx⟩ hQ
 exact (hS.rel ht hT hsl).put (fun k hk => by rw [hb.size, hn]; exact zgc c3 k hk) hv
theorem zqw {P : Program} {o : Oper} {κ ν : Type} [DecidableEq κ] {rk : Rp κ} {rv : Rp ν} {m : List (κ × ν)} {t kt et : TypeId} {x0 : ν} {ℓ : Nat} {y z u : Operand} {ak av : AV} {C C1 D : List Nat} (k : κ) (x : ν) (C2 : List Nat) (hT : MapT P t kt et rk rv x0)
  (ho : o.op = .mapUpdate t y z u ∨ o.op = .insert t y z u) (hka : asV rk k C1 ak) (hva : asV rv x D av) (hC : (subN C C2 && subN C1 C2 && subN D C2 && !memN ℓ C2) = true) :
  zoF P o [(y, .om rk rv ℓ C m), (z, ak), (u, av)] [ℓ] [] .any [(.om rk rv ℓ C m, .om rk rv ℓ C2 (mput m k x))] := by
 intro γ a w hi next Q hk
 simp only [Bool.and_eq_true] at hC
 obtain ⟨⟨⟨hC1, hC2⟩, hC3⟩, hC4⟩ := hC
 obtain ⟨b, es, cl, hv, ⟨g1, g2⟩, hb, hh, hE, hnC⟩ := hi (y, .om rk rv ℓ C m) (by simp)
 have hkr := hka γ w _ (hi (z, ak) (by simp))
 have hxr := hva γ w _ (hi (u, av) (by simp))
 simp only at hv hkr hxr
 have hE2 : zdE (γ.F C2) w rk rv m es.toList := hE.mono fun b _ h => zbi hC1 _ h
 obtain ⟨es', cl', hrun, hE', hO'⟩ := zwO hh.2 hT hh.1 hE2 hkr (fun b h => zbi hC2 _ h) hxr (fun b h => zbi hC3 _ h)
 have hrun' : (execOp a.eval o).run P w = .ok .skip { w with heap := w.heap.setIfInBounds b (.map es' cl') } := by
  rcases ho with ho | ho <;> simp [execOp, ho, hv, hrun]
 have ht := zBn (w := w) g1 (.map es' cl')
 have hnot : ∀ c ∈ C2, c ∉ [ℓ] := fun c hc h => by
  simp only [List.mem_cons, List.not_mem_nil, or_false] at h
  subst h
  exact zdz hC4 hc
 refine zqe hrun' (hk γ _ undef ht trivial fun p hp v hpv => ?_)
 simp only [List.mem_cons, List.not_mem_nil, or_false] at hp
 subst hp
 obtain ⟨b', es2, cl2, hv2, ⟨q1, q2⟩, _⟩ := hpv
 have hbb : b' = b := by rw [← q2, g2]
 subst hbb
 exact ⟨b', es', cl', hv2, ⟨q1, q2⟩, by simpa using hb, ⟨by simp [hb], hO'⟩, ht.es hnot hE', fun hc => zdz hC4 hc⟩
theorem zCM {P : Program} {o : Oper} {α : Type} {r : Rp α} {e ℓ : Nat} {C : List Nat} {xs : List α} {t : TypeId} {y z : Operand} {a : AV} {ls : List LV} {off : Nat}
  (y0 : Operand) (i f : Nat) (x x' : α) (C2 : List Nat) (ho : o.op = .store t y z) (hp : znM a = some ls) (hsz : ∀ w, (sizeOf t).run P w = .ok ls.length w)
  (hoff : off = i * r.size + f) (hx : xs[i]? = some x) (hf : Nat.ble (f + ls.length) r.size = true)
  (hx' : r.lv x' = (r.lv x).take f ++ ls ++ (r.lv x).drop (f + ls.length)) (hC : (subN a.cols C2 && subN C C2 && !memN ℓ C2) = true) :
  zoF P o [(y0, .own r e ℓ C xs), (y, .ptr ℓ off), (z, a)] [ℓ] [] .any [(.own r e ℓ C xs, .own r e ℓ C2 (xs.set i x'))] := by
 intro γ a' w hin next Q hk
 simp only [Bool.and_eq_true] at hC
 obtain ⟨⟨hC1, hC2⟩, hC3⟩ := hC
 obtain ⟨cs, hown, hgb, hA, hnC⟩ := hin (y0, .own r e ℓ C xs) (by simp)
 have hi := (List.getElem?_eq_some_iff.1 hx).1
 rcases hown.2 with ⟨_, hz0⟩ | ⟨g, cap, cur, hv, _, hh, hnc, hcm, hcs, htake⟩
 ·omega
 ·obtain ⟨hcol, hbox⟩ := hgb g (by rw [hv]; rfl)
  have hf' := Nat.le_of_ble_eq_true hf
  have h1 : a'.eval y = .pointer (some ⟨g, off, none⟩) := by
   have := hin (y, .ptr ℓ off) (by simp)
   rw [show a'.eval y = _ from this, hbox]
  have hzr := hin (z, a) (by simp)
  have hV := zmy hp hzr hC1
  have hVl : (a'.eval z).cells.toList.length = ls.length := hV.1.symm
  have hcl : cs.length = xs.length * r.size := hown.1
  have hin' : i * r.size + f + ls.length ≤ xs.length * r.size := by
   have : (i + 1) * r.size ≤ xs.length * r.size := Nat.mul_le_mul_right _ hi
   rw [Nat.succ_mul] at this
   omega
  have hcap : xs.length * r.size ≤ cap * r.size := Nat.mul_le_mul_right _ hnc
  have hst := run_storeCells_at P g off e (a'.eval z).cells.toList 0 cur w hh (by rw [hVl, hoff, hcs]; omega) hV.one
  simp only [Nat.add_zero, hVl] at hst
  have hrun : (execOp a'.eval o).run P w = .ok .skip (w.setRow g (cur.toList.take off ++ (a'.eval z).cells.toList ++ cur.toList.drop (off + ls.length)).toArray) := by
   have hsz' : (a'.eval z).cells.size = ls.length := by simpa using hVl
   simp [execOp, ho, h1, Instr.storeAt, Instr.sureAddr, storeVar, hsz, hsz', hst]
  have hcol' : γ.col (γ.box ℓ) = ℓ := by rw [hbox]; exact hcol
  have ht := zre (w := w) hcol' (cur.toList.take off ++ (a'.eval z).cells.toList ++ cur.toList.drop (off + ls.length)).toArray
  rw [hbox] at ht
  have hnot : ∀ c ∈ C2, c ∉ [ℓ] := fun c hc h => by
   simp only [List.mem_cons, List.not_mem_nil, or_false] at h
   subst h
   exact zdz hC3 hc
  have hA2 : zab (γ.F C2) w (xs.flatMap r.lv) cs := hA.mono fun b _ hb => zbi hC2 _ hb
  refine zqe hrun (hk γ _ undef ht trivial fun p hp v hpv => ?_)
  simp only [List.mem_cons, List.not_mem_nil, or_false] at hp
  subst hp
  obtain ⟨cs1, hown1, hgb1, _, _⟩ := hpv
  rcases hown1.2 with ⟨_, hz0⟩ | ⟨g1, cap1, cur1, hv1, _, hh1, hnc1, hcm1, hcs1, htake1⟩
  ·omega
  ·have hg1 : g1 = g := by rw [← (hgb1 g1 (by rw [hv1]; rfl)).2, hbox]
   subst hg1
   rw [hh] at hh1
   simp only [Option.some.injEq, Obj.cells.injEq] at hh1
   obtain ⟨rfl, _⟩ := hh1
   have ecs : cs1 = cs := by rw [← htake1, ← htake]
   subst ecs
   have hcurl : cur.toList.length = cap * r.size := by rw [Array.length_toList, hcs]
   have hcap1 : xs.length * r.size ≤ cap1 * r.size := Nat.mul_le_mul_right _ hnc1
   refine ⟨cs1.take off ++ (a'.eval z).cells.toList ++ cs1.drop (off + ls.length), ⟨?_, .inr ⟨g1, cap1, _, hv1.trans ?_, Nat.zero_le _, setRow_heap w _ _ _ _ _ hh, ?_, hcm1, ?_, ?_⟩⟩, ?_, ?_, fun hc => zdz hC3 hc⟩
   ·simp only [List.length_append, List.length_take, List.length_drop, hVl, List.length_set, hcl, hoff]
    omega
   ·simp
   ·simpa using hnc1
   ·simp only [List.size_toArray, List.length_append, List.length_take, List.length_drop, hVl, hcurl, ← hcs1, hcs]
    omega
   ·have e1 : cur.toList.take off = cs1.take off := by rw [← htake, List.take_take, Nat.min_eq_left (by omega)]
    have e2 : (cur.toList.drop (off + ls.length)).take (xs.length * r.size - (off + ls.length)) = cs1.drop (off + ls.length) := by
     rw [← htake, List.drop_take]
    have e3 : (cs1.take off ++ (a'.eval z).cells.toList).length = off + ls.length := by simp only [List.length_append, List.length_take, hVl, hcl, hoff]; omega
    rw [List.length_set, e1, List.take_append, e3, List.take_of_length_le (by omega), e2]
   ·intro g2 hg2
    have : g2 = g1 := by rw [hv1] at hg2; simpa [Value.ownBlock] using hg2.symm
    subst this
    exact ⟨hcol, hbox⟩
   ·rw [zvU r xs i f x x' ls hx hf' hx', ← hoff]
    exact ((ht.all hnot (hA2.take off)).append (ht.all hnot hV)).append (ht.all hnot (hA2.drop (off + ls.length)))
def fnXW (w0 : World) (γ0 : Gh) : Ext where
 X γ w := (w.os = w0.os ∧ w.tape = w0.tape ∧ w.output = w0.output ∧ w0.heap.size ≤ w.heap.size) ∧ (∀ b, b < w0.heap.size → γ0.col b < 2 → γ.col b = γ0.col b ∧ w.heap[b]? = w0.heap[b]?) ∧
  (∀ b, b < w0.heap.size → 2 ≤ γ0.col b → γ.col b ≠ 0) ∧ ∀ b, w0.heap.size ≤ b → b < w.heap.size → γ.col b ≠ 0
 tr := fun {γ γ' w w' W V} ⟨⟨h1, h2, h3, h4⟩, h5, h6, h7⟩ t hW hV => by
  have hlt : ∀ b, b < w0.heap.size → b < w.heap.size := fun b hb => Nat.lt_of_lt_of_le hb h4
  refine ⟨⟨t.os.trans h1, t.tape.trans h2, t.output.trans h3, Nat.le_trans h4 t.size⟩, fun b hb h0 => ?_, fun b hb h0 => ?_, fun b k1 k2 h0 => ?_⟩
  ·obtain ⟨e1, e2⟩ := h5 b hb h0
   refine ⟨(t.col b (hlt b hb)).trans e1, (t.block b (hlt b hb) fun hc => ?_).trans e2⟩
   have := hW _ hc
   omega
  ·rw [t.col b (hlt b hb)]; exact h6 b hb h0
  ·by_cases hb : b < w.heap.size
   ·exact h7 b k1 hb (by rw [← t.col b hb]; exact h0)
   ·rcases t.fresh b (Nat.le_of_not_lt hb) k2 h0 with e | e
    ·have := hW _ e; omega
    ·have := hV _ e; omega
 ren := fun {γ γ' w} ⟨h1, h2, h3, h4⟩ k => ⟨h1, fun b hb h0 => by
  obtain ⟨e1, e2⟩ := h2 b hb h0
  refine ⟨?_, e2⟩
  rcases Nat.lt_or_ge (γ0.col b) 1 with h | h
  ·have h' : γ0.col b = 0 := by omega
   rw [h']; exact k.zero b (by rw [e1, h'])
  ·have h' : γ0.col b = 1 := by omega
   rw [h']; exact k.one b (by rw [e1, h']), fun b hb h0 h => h3 b hb h0 (k.back b h), fun b k1 k2 h => h4 b k1 k2 (k.back b h)⟩
 base := w0.heap.size
 le := fun h => h.1.2.2.2
def zkj (P : Program) (f : FuncId) (ins outs ts : List AV) : Prop :=
 ∀ (w : World) (γ0 : Gh) (vs : List Value), AV.relL γ0 w ins vs → Calls P f vs.toArray w fun e w' => ∃ γ us, e = .returned (zjM us) ∧ (fnXW w γ0).X γ w' ∧ AV.relL γ w' outs us ∧ AV.relL γ w' ts vs
def anyB : AV → Bool
 | .any => true
 | _ => false
def TsOk (E : Env) (ks : List Nat) : Nat → List AV → Prop
 | _, [] => True
 | n, a :: l => (anyB a = true ∨ memN n ks = true ∧ lookup E.sl n = some a) ∧ TsOk E ks (n + 1) l
theorem TsOk.rel {E : Env} {ks : List Nat} {γ : Gh} {w : World} {a : Act} (hs : Sl γ w a E.sl) {old : Array Value} (hk : ∀ k ∈ ks, a.tmps.getD k undef = old.getD k undef) : ∀ (l : List AV) (vs : List Value) (n : Nat), TsOk E ks n l → l.length = vs.length →
  (∀ i v, vs[i]? = some v → old.getD (n + i) undef = v) → AV.relL γ w l vs
 | [], [], _, _, _, _ => rfl
 | x :: l, v :: vs, n, h, hl, ho => by
  refine ⟨v, vs, rfl, ?_, TsOk.rel hs hk l vs (n + 1) h.2 (by simpa using hl) fun i u hu => by rw [show n + 1 + i = n + (i + 1) by omega]; exact ho (i + 1) u (by simpa using hu)⟩
  rcases h.1 with h1 | ⟨h1, h2⟩
  ·cases x <;> first | trivial | cases h1
  ·have := hs _ (zdP h2)
   have e := (hk n (zcf.1 h1)).trans (ho 0 v rfl)
   simp only at this
   rwa [e] at this
 | [], _ :: _, _, _, h, _ => by simp at h
 | _ :: _, [], _, _, h, _ => by simp at h
theorem zob {P : Program} {f : FuncId} {fn : Func} {c : Code} {ins outs ts : List AV} {E : Env} (N : Nat) (ks : List Nat) (hf : P.funcs[f]? = some fn) (hb : fn.body = some c) (hN : fn.ntmps = N) (hlen : Nat.ble ins.length N = true) (hres : zmF P E fn.results.toList outs)
  (hts : TsOk E ks 0 ts) (hl2 : ts.length = ins.length)
  (hj : ∀ (X : Ext) (old : Array Value), J true P c (Sx ⟨⟨N, ks⟩, X, false, old⟩ ⟨zoS 0 ins, []⟩) fun e a w => (e = .ret ∨ e = .normal) ∧ Sx ⟨⟨N, ks⟩, X, false, old⟩ E a w) : zkj P f ins outs ts := by
 subst hN
 intro w γ0 vs hr
 have hl := zcw hr
 have hlen := Nat.le_of_ble_eq_true hlen
 obtain ⟨tm, htm⟩ : ∃ tm : Array Value, tm = vs.toArray ++ Array.replicate (fn.ntmps - vs.toArray.size) undef := ⟨_, rfl⟩
 have hX0 : (fnXW w (⟨fun b => if b < w.heap.size then γ0.col b else 2, γ0.box⟩)).X ⟨fun b => if b < w.heap.size then γ0.col b else 2, γ0.box⟩ w → (fnXW w γ0).X ⟨fun b => if b < w.heap.size then γ0.col b else 2, γ0.box⟩ w := fun h => ⟨h.1, fun b hb h0 => by simp [hb], fun b hb h0 => by simp only [if_pos hb]; omega, fun b k1 k2 => by omega⟩
 have hr' : AV.relL ⟨fun b => if b < w.heap.size then γ0.col b else 2, γ0.box⟩ w ins vs := AV.reghL (γ := γ0) ins (fun b hb _ => by simp [hb]) (fun ℓ _ => rfl) hr
 have hwp := hj (fnXW w γ0) tm { tmps := tm, defers := [] } w ⟨_, ⟨⟨[], rfl, List.nodup_nil, fun D hD => by cases hD⟩, fun _ => rfl, ?_, fun k hk => rfl, hX0 ⟨⟨rfl, rfl, rfl, Nat.le_refl _⟩, fun b hb h0 => ⟨rfl, rfl⟩, fun b hb h0 => by have h0' := h0; simp only [if_pos hb] at h0' ⊢; omega, fun b k1 k2 => by omega⟩⟩, ?_, fun b hb => by cases hb⟩
 ·subst htm
  refine calls_of_wp hf hb (wp_mono (zBs hwp) ?_)
  rintro e a w' ⟨he, γ, hB, hS, hX⟩
  obtain ⟨us, hu, hu'⟩ := zkZ (P := P) (fn := fn) hS hX hres
  have hts' : AV.relL γ w' ts vs := hts.rel hS (hB.kept) ts vs 0 (by rw [hl2, ← hl]) fun i v hv => by
   rw [Nat.zero_add, Array.getD_eq_getD_getElem?, Array.getElem?_append_left (by simpa using (List.getElem?_eq_some_iff.1 hv).1)]
   simp [hv]
  have key : ∃ γ us', zjM us = zjM us' ∧ (fnXW w γ0).X γ w' ∧ AV.relL γ w' outs us' ∧ AV.relL γ w' ts vs := ⟨γ, us, rfl, hB.ext, hu', hts'⟩
  obtain ⟨γ2, us2, k1, k2, k3, k4⟩ := key
  rcases he with rfl | rfl
  ·exact ⟨hB.clean rfl, zjM us, hu, γ2, us2, by rw [k1], k2, k3, k4⟩
  ·exact ⟨hB.clean rfl, zjM us, hu, γ2, us2, by rw [k1], k2, k3, k4⟩
 ·rw [htm]; simp [hl]; omega
 ·intro p hp
  have := zoT hr' [] (List.replicate (fn.ntmps - vs.length) undef) p hp
  simp only [List.nil_append] at this
  have e : (vs ++ List.replicate (fn.ntmps - vs.length) undef).toArray = tm := by rw [htm]; simp
  rw [e] at this
  exact this
def zgg : List (Nat × Nat) → Nat → Option Nat
 | [], _ => none
 | p :: l, c => match Nat.beq p.1 c with
  | true => some p.2
  | false => zgg l c
def zmO : List (Nat × Nat) → Nat → Option Nat
 | [], _ => none
 | p :: l, c => match Nat.beq p.2 c with
  | true => some p.1
  | false => zmO l c
theorem zgs : ∀ {l : List (Nat × Nat)} {c k : Nat}, zgg l c = some k → (c, k) ∈ l
 | [], _, _, h => by cases h
 | p :: l, c, k, h => by
  rw [zgg] at h
  split at h
  ·rename_i hb; cases h; rw [← Nat.eq_of_beq_eq_true hb]; exact List.mem_cons_self
  ·exact List.mem_cons_of_mem _ (zgs h)
def inW1 (p : List (Nat × Nat)) : AV → AV
 | .own r e ℓ C xs => match zgg p ℓ with
  | some k => .own r e k [0] xs
  | none => .sl r [0] xs
 | .om rk rv ℓ C m => match zgg p ℓ with
  | some k => .om rk rv k [0] m
  | none => .mp rk rv [0] m
 | a => ztW a
def inW (p : List (Nat × Nat)) : AV → AV
 | .ag l => .ag (l.map (inW1 p))
 | .fv g l => .fv g (l.map (inW1 p))
 | a => inW1 p a
def mlab (p : List (Nat × Nat)) : AV → Option Nat
 | .own _ _ ℓ _ _ => match zgg p ℓ with
  | some _ => some ℓ
  | none => none
 | .om _ _ ℓ _ _ => match zgg p ℓ with
  | some _ => some ℓ
  | none => none
 | _ => none
def ziH (p : List (Nat × Nat)) : AV → List Nat
 | .own r e ℓ C xs => match zgg p ℓ with
  | some _ => C
  | none => ℓ :: C
 | .om rk rv ℓ C m => match zgg p ℓ with
  | some _ => C
  | none => ℓ :: C
 | a => zoe a
def blk : Value → Option Nat
 | .map b => b
 | v => v.ownBlock
def zoV : AV → List AV
 | .ag m => m
 | .fv _ m => m
 | a => [a]
def zjr : List AV → List AV
 | [] => []
 | x :: l => (zoV x) ++ zjr l
def zyi : Value → List Value
 | .func _ _ cs => cs.toList
 | _ => []
def zkn : AV → Value → List Value
 | .ag _, v => v.cells.toList
 | .fv _ _, v => zyi v
 | _, v => [v]
def zpL : List AV → List Value → List Value
 | x :: l, v :: vs => (zkn x v) ++ zpL l vs
 | _, _ => []
def zsl : AV → AV → List AV
 | .ag _, .ag m => m
 | .ag m, _ => m.map fun _ => .any
 | .fv _ m, _ => m.map fun _ => .any
 | _, t => [t]
def zuO : List AV → List AV → List AV
 | x :: l, t :: ts => (zsl x t) ++ zuO l ts
 | _, _ => []
theorem zqj {γ : Gh} {w : World} : ∀ {l m : List AV} {us vs : List Value}, AV.relL γ w l us → AV.relL γ w m vs → AV.relL γ w (l ++ m) (us ++ vs)
 | [], _, _, _, h, k => by cases h; exact k
 | a :: l, _, _, _, h, k => by
  obtain ⟨v, vs', rfl, h1, h2⟩ := h
  exact ⟨v, _, rfl, h1, zqj h2 k⟩
theorem zqU {γ : Gh} {w : World} : ∀ {l : List AV} {vs : List Value}, l.length = vs.length → AV.relL γ w (l.map fun _ => .any) vs
 | [], [], _ => rfl
 | _ :: l, v :: vs, h => ⟨v, vs, rfl, trivial, zqU (by simpa using h)⟩
 | [], _ :: _, h => by simp at h
 | _ :: _, [], h => by simp at h
theorem zvS {γ : Gh} {w : World} {x : AV} {v : Value} (h : x.rel γ w v) : AV.relL γ w (zoV x) (zkn x v) := by
 cases x with
 | ag l => obtain ⟨vs, rfl, hL, h1⟩ := h; simpa [zoV, zkn, Value.cells] using hL
 | fv g l => obtain ⟨vs, rfl, hL⟩ := h; simpa [zoV, zkn, zyi] using hL
 | _ => exact ⟨v, [], rfl, h, rfl⟩
theorem zvT {γ : Gh} {w : World} : ∀ {l : List AV} {vs : List Value}, AV.relL γ w l vs → AV.relL γ w (zjr l) (zpL l vs)
 | [], _, h => by cases h; rfl
 | x :: l, _, h => by
  obtain ⟨v, vs', rfl, h1, h2⟩ := h
  exact zqj (zvS h1) (zvT h2)
theorem zyZ {γ γ' : Gh} {w w' : World} {x t : AV} {v : Value} (h : x.rel γ w v) (k : t.rel γ' w' v) : AV.relL γ' w' (zsl x t) (zkn x v) := by
 cases x with
 | ag l =>
  obtain ⟨vs, rfl, hL, h1⟩ := h
  have hl : l.length = vs.length := (zcw hL).symm
  cases t with
  | ag m => obtain ⟨vs2, e, hL2, _⟩ := k; cases e; simpa [zsl, zkn, Value.cells] using hL2
  | _ => simpa [zsl, zkn, Value.cells] using zqU (γ := γ') (w := w') hl
 | fv g l =>
  obtain ⟨vs, rfl, hL⟩ := h
  have hl : l.length = vs.length := (zcw hL).symm
  cases t <;> simpa [zsl, zkn, zyi] using zqU (γ := γ') (w := w') hl
 | _ => exact ⟨v, [], rfl, k, rfl⟩
theorem ztS {γ γ' : Gh} {w w' : World} : ∀ {l ts : List AV} {vs : List Value}, AV.relL γ w l vs → AV.relL γ' w' ts vs → AV.relL γ' w' (zuO l ts) (zpL l vs)
 | [], _, _, h, _ => by cases h; rfl
 | x :: l, [], _, h, k => by obtain ⟨v, vs', rfl, _⟩ := h; cases k
 | x :: l, t :: ts, _, h, k => by
  obtain ⟨v, vs', rfl, h1, h2⟩ := h
  obtain ⟨v2, vs2, e, k1, k2⟩ := k
  cases e
  exact zqj (zyZ h1 k1) (ztS h2 k2)
theorem zwK {γ γ' : Gh} {w w' : World} : ∀ {l m : List AV} {us : List Value}, AV.relL γ w l us → AV.relL γ' w' m us → ∀ p ∈ l.zip m, ∃ u, (p.1, u) ∈ l.zip us ∧ p.1.rel γ w u ∧ p.2.rel γ' w' u
 | [], _, _, _, _, p, hp => by cases hp
 | _ :: _, [], _, _, _, p, hp => by cases hp
 | a :: l, b :: m, _, h, k, p, hp => by
  obtain ⟨v, vs', rfl, h1, h2⟩ := h
  obtain ⟨v2, vs2, e, k1, k2⟩ := k
  cases e
  cases hp with
  | head => exact ⟨v, List.mem_cons_self, h1, k1⟩
  | tail _ hp =>
   obtain ⟨u, g1, g2⟩ := zwK h2 k2 p hp
   exact ⟨u, List.mem_cons_of_mem _ g1, g2⟩
theorem zqV {γ γ' : Gh} {w w' : World} : ∀ {l m : List AV} {us : List Value}, AV.relL γ w l us → AV.relL γ' w' m us → ∀ q ∈ l.zip us, ∃ t, (q.1, t) ∈ l.zip m ∧ q.1.rel γ w q.2 ∧ t.rel γ' w' q.2
 | [], _, _, _, _, p, hp => by cases hp
 | a :: l, [], _, h, k, p, hp => by obtain ⟨v, vs', rfl, _⟩ := h; cases k
 | a :: l, b :: m, _, h, k, p, hp => by
  obtain ⟨v, vs', rfl, h1, h2⟩ := h
  obtain ⟨v2, vs2, e, k1, k2⟩ := k
  cases e
  cases hp with
  | head => exact ⟨b, List.mem_cons_self, h1, k1⟩
  | tail _ hp =>
   obtain ⟨u, g1, g2⟩ := zqV h2 k2 p hp
   exact ⟨u, List.mem_cons_of_mem _ g1, g2⟩
def zqa (p : List (Nat × Nat)) : List AV → List Nat
 | [] => []
 | a :: l => (match mlab p a with
  | some ℓ => [ℓ]
  | none => []) ++ zqa p l
theorem zoo {p : List (Nat × Nat)} {ℓ : Nat} : ∀ {l : List AV} {us : List Value} {q : AV × Value}, q ∈ l.zip us → mlab p q.1 = some ℓ → ℓ ∈ zqa p l
 | [], _, _, h, _ => by cases h
 | _ :: _, [], _, h, _ => by cases h
 | a :: l, u :: us, q, h, hl => by
  rw [zqa]
  cases h with
  | head => rw [hl]; simp
  | tail _ h => exact List.mem_append_right _ (zoo h hl)
def zsL : List Nat → Bool
 | [] => true
 | c :: l => !memN c l && zsL l
theorem zuk {p : List (Nat × Nat)} {ℓ : Nat} : ∀ {l : List AV} {us : List Value} {q q' : AV × Value}, zsL (zqa p l) = true → q ∈ l.zip us → q' ∈ l.zip us → mlab p q.1 = some ℓ → mlab p q'.1 = some ℓ → q = q'
 | [], _, _, _, _, h, _, _, _ => by cases h
 | _ :: _, [], _, _, _, h, _, _, _ => by cases h
 | a :: l, u :: us, q, q', hn, h, h', hl, hl' => by
  rw [zqa] at hn
  have tl : zsL (zqa p l) = true ∧ (mlab p a = some ℓ → ℓ ∉ zqa p l) := by
   cases ha : mlab p a with
   | none => rw [ha] at hn; exact ⟨hn, fun e => by cases e⟩
   | some x =>
    rw [ha] at hn
    simp only [List.cons_append, List.nil_append, zsL, Bool.and_eq_true] at hn
    exact ⟨hn.2, fun e => by cases e; exact zdz hn.1⟩
  cases h with
  | head =>
   cases h' with
   | head => rfl
   | tail _ h' => exact absurd (zoo h' hl') (tl.2 hl)
  | tail _ h =>
   cases h' with
   | head => exact absurd (zoo h hl) (tl.2 hl')
   | tail _ h' => exact zuk tl.1 h h' hl hl'
def beqT {α β : Type} (r : Rp α) (r' : Rp β) (e e' k k' : Nat) : Bool := Nat.beq r.size r'.size && Nat.beq e e' && Nat.beq k k'
def tOk (p : List (Nat × Nat)) (D : List Nat) (s : Nat) (K : List Nat) : AV × AV → Bool
 | (.own r e ℓ C xs, t) => (match zgg p ℓ with
  | some k => (match t with
   | .own r' e' k' C' xs' => beqT r r' e e' k k' && zik K C' && !memN ℓ (outC D s C')
   | _ => false)
  | none => anyB t)
 | (.om rk rv ℓ C m, t) => (match zgg p ℓ with
  | some k => (match t with
   | .om rk' rv' k' C' m' => Nat.beq k k' && zik K C' && !memN ℓ (outC D s C')
   | _ => false)
  | none => anyB t)
 | (_, t) => anyB t
def tp1 (D : List Nat) (s : Nat) : AV × AV → List (AV × AV)
 | (.own r e ℓ C xs, .own r' e' _ C' xs') => [(.own r e ℓ C xs, .own r' e' ℓ (outC D s C') xs')]
 | (.om rk rv ℓ C m, .om rk' rv' _ C' m') => [(.om rk rv ℓ C m, .om rk' rv' ℓ (outC D s C') m')]
 | _ => []
def zvq (D : List Nat) (s : Nat) (xs ts : List AV) : List (AV × AV) := ((zjr xs).zip (zuO xs ts)).flatMap (tp1 D s)
def zzW (p : List (Nat × Nat)) (D : List Nat) (s : Nat) (V : List Nat) (xs ts : List AV) : Bool :=
 zsL (zqa p (zjr xs)) && (p.all fun q => Nat.ble 2 q.2 && (match zmO p q.2 with | some c => Nat.beq c q.1 | none => false)) && zik (p.map (·.1)) D &&
  ((zjr xs).all fun a => subN (ziH p a) D) && (((zjr xs).zip (zuO xs ts)).all (tOk p D s (1 :: p.map (·.2)))) && zik (p.map (·.1)) V
open Classical in
noncomputable def ghW (γ : Gh) (D : List Nat) (p : List (Nat × Nat)) (S : Fp) : Gh :=
 ⟨fun b => match (if S b then zgg p (γ.col b) else none) with
  | some k => k
  | none => if γ.F D b then 0 else 1, fun k => match zmO p k with
  | some ℓ => γ.box ℓ
  | none => 0⟩
theorem zCX {γ : Gh} {D : List Nat} {p : List (Nat × Nat)} {S : Fp} (hd : zik (p.map (·.1)) D = true) {b : Nat} (h : γ.F D b) : (ghW γ D p S).col b = 0 := by
 have hn : zgg p (γ.col b) = none := by
  cases hf : zgg p (γ.col b) with
  | none => rfl
  | some k => exact absurd h (zkm hd _ (List.mem_map.2 ⟨_, zgs hf, rfl⟩))
 unfold ghW
 simp only [hn, ite_self, if_pos h]
theorem zCl {γ : Gh} {D : List Nat} {p : List (Nat × Nat)} {S : Fp} {b k : Nat} (h : S b) (hk : zgg p (γ.col b) = some k) : (ghW γ D p S).col b = k := by
 unfold ghW
 simp only [if_pos h, hk]
theorem zuP {γ : Gh} {D : List Nat} {p : List (Nat × Nat)} {S : Fp} {b : Nat} (h : 2 ≤ (ghW γ D p S).col b) : S b ∧ ∃ k, zgg p (γ.col b) = some k := by
 unfold ghW at h
 simp only at h
 by_cases hs : S b
 ·rw [if_pos hs] at h
  cases hf : zgg p (γ.col b) with
  | some k => exact ⟨hs, k, rfl⟩
  | none => rw [hf] at h; simp only at h; split at h <;> omega
 ·rw [if_neg hs] at h; simp only at h; split at h <;> omega
theorem zvW {γ : Gh} {D : List Nat} {p : List (Nat × Nat)} {S : Fp} {b : Nat} (hp : (p.all fun q => Nat.ble 2 q.2) = true) (h : (ghW γ D p S).col b = 0) : γ.F D b := by
 unfold ghW at h
 simp only at h
 split at h
 ·rename_i k hk
  split at hk
  ·have := List.all_eq_true.1 hp _ (zgs hk)
   have := Nat.le_of_ble_eq_true this
   simp only at this
   omega
  ·cases hk
 ·split at h
  ·assumption
  ·omega
section
variable {γ : Gh} {w : World} {D : List Nat} {p : List (Nat × Nat)} {S : Fp}
theorem zwb {a : AV} {v : Value} (h : a.rel γ w v) (hD : ∀ c ∈ ziH p a, c ∈ D) (hd : zik (p.map (·.1)) D = true) (hb : ∀ q ∈ p, zmO p q.2 = some q.1) (h2 : ∀ q ∈ p, 2 ≤ q.2) (hS : ∀ ℓ, mlab p a = some ℓ → ∀ b, blk v = some b → S b) : (inW1 p a).rel (ghW γ D p S) w v := by
 have key : ∀ (C : List Nat), (∀ c ∈ C, c ∈ D) → ∀ b, b < w.heap.size → γ.F C b → (ghW γ D p S).F [0] b := fun C hC b _ hb => by
  show (ghW γ D p S).col b ∈ [0]
  rw [zCX hd (hC _ hb)]; exact List.mem_cons_self
 have hbx : ∀ ℓ k, zgg p ℓ = some k → (ghW γ D p S).box k = γ.box ℓ := fun ℓ k hk => by
  have := hb _ (zgs hk)
  unfold ghW
  simp only [this]
 cases a with
 | own r e ℓ C xs =>
  simp only [inW1]
  cases hf : zgg p ℓ with
  | some k =>
   obtain ⟨cs, ho, hg, hA, hn⟩ := h
   refine ⟨cs, ho, fun g hgb => ?_, hA.mono (key C (by simpa [ziH, hf] using hD)), by have := h2 _ (zgs hf); simp only [List.mem_cons, List.not_mem_nil, or_false]; simp only at this; omega⟩
   obtain ⟨g1, g2⟩ := hg g hgb
   have hbv : blk v = some g := by cases v <;> first | (cases hgb; done) | exact hgb
   exact ⟨zCl (hS ℓ (by simp [mlab, hf]) g hbv) (by rw [g1]; exact hf), (hbx ℓ k hf).trans g2⟩
  | none => exact (zsU h).mono (key _ (by simpa [ziH, hf] using hD))
 | om rk rv ℓ C m =>
  simp only [inW1]
  cases hf : zgg p ℓ with
  | some k =>
   obtain ⟨b, es, cl, hv, ⟨g1, g2⟩, hlt, hh, hE, hn⟩ := h
   refine ⟨b, es, cl, hv, ⟨zCl (hS ℓ (by simp [mlab, hf]) b (by rw [hv]; rfl)) (by rw [g1]; exact hf), (hbx ℓ k hf).trans g2⟩, hlt, hh, hE.mono (key C (by simpa [ziH, hf] using hD)), by have := h2 _ (zgs hf); simp only [List.mem_cons, List.not_mem_nil, or_false]; simp only at this; omega⟩
  | none =>
   obtain ⟨b, es, cl, hv, ⟨g1, g2⟩, hlt, hh, hE, hn⟩ := h
   have hC : ∀ c ∈ ℓ :: C, c ∈ D := by simpa [ziH, hf] using hD
   exact ⟨b, es, cl, hv, key (ℓ :: C) hC b hlt (by show γ.col b ∈ ℓ :: C; rw [g1]; exact List.mem_cons_self), hlt, hh, (hE.mono fun b _ hb => List.mem_cons_of_mem _ hb).mono (key (ℓ :: C) hC)⟩
 | any => trivial
 | lf l => exact h
 | sl r C xs => exact zbC.mono h (key C hD)
 | rc r C x => obtain ⟨cs, hv, hA⟩ := h; exact ⟨cs, hv, hA.mono (key C hD)⟩
 | mp rk rv C m =>
  obtain ⟨b, es, cl, hv, hF, hlt, hh, hE⟩ := h
  exact ⟨b, es, cl, hv, key C hD b hlt hF, hlt, hh, hE.mono (key C hD)⟩
 | ep r C x off =>
  obtain ⟨b, o, cs, hv, hF, hlt, hA, hc⟩ := h
  exact ⟨b, o, cs, hv, key C hD b hlt hF, hlt, hA.mono (key C hD), hc⟩
 | qp r C o =>
  cases o with
  | none => exact h
  | some x =>
   obtain ⟨b, cs, hv, hF, hlt, hA, hc⟩ := h
   exact ⟨b, cs, hv, key C hD b hlt hF, hlt, hA.mono (key C hD), hc⟩
 | em rk rv C m =>
  obtain ⟨a, b, es, cl, hv, hFa, ha, hc1, hF, hlt, hh, hE⟩ := h
  exact ⟨a, b, es, cl, hv, key C hD a ha hFa, ha, hc1, key C hD b hlt hF, hlt, hh, hE.mono (key C hD)⟩
 | bs => trivial
 | tl => trivial
 | ptr => trivial
 | tup => trivial
 | ag => trivial
 | fv => trivial
 | bp => trivial
 | it => trivial
theorem zqH (hd : zik (p.map (·.1)) D = true) (hb : ∀ q ∈ p, zmO p q.2 = some q.1) (h2 : ∀ q ∈ p, 2 ≤ q.2) : ∀ {l : List AV} {vs : List Value}, AV.relL γ w l vs → (∀ a ∈ l, ∀ c ∈ ziH p a, c ∈ D) →
  (∀ q ∈ l.zip vs, ∀ ℓ, mlab p q.1 = some ℓ → ∀ b, blk q.2 = some b → S b) → AV.relL (ghW γ D p S) w (l.map (inW1 p)) vs
 | [], _, h, _, _ => h
 | a :: l, _, h, hD, hS => by
  obtain ⟨v, vs', rfl, h1, h2'⟩ := h
  exact ⟨v, vs', rfl, zwb h1 (hD a List.mem_cons_self) hd hb h2 (hS (a, v) List.mem_cons_self), zqH hd hb h2 h2' (fun x hx => hD x (List.mem_cons_of_mem _ hx)) (fun q hq => hS q (List.mem_cons_of_mem _ hq))⟩
theorem zuR (hd : zik (p.map (·.1)) D = true) (hb : ∀ q ∈ p, zmO p q.2 = some q.1) (h2 : ∀ q ∈ p, 2 ≤ q.2) : ∀ {l : List AV} {vs : List Value}, AV.relL γ w l vs → (∀ a ∈ zjr l, ∀ c ∈ ziH p a, c ∈ D) →
  (∀ q ∈ (zjr l).zip (zpL l vs), ∀ ℓ, mlab p q.1 = some ℓ → ∀ b, blk q.2 = some b → S b) → AV.relL (ghW γ D p S) w (l.map (inW p)) vs
 | [], _, h, _, _ => h
 | a :: l, _, h, hD, hS => by
  obtain ⟨v, vs', rfl, h1, h2'⟩ := h
  have hf := zvS h1
  have hlen := (zcw hf).symm
  have hz : ∀ q ∈ (zjr l).zip (zpL l vs'), ∀ ℓ, mlab p q.1 = some ℓ → ∀ b, blk q.2 = some b → S b := fun q hq => hS q (by
   rw [zjr, zpL, List.zip_append hlen]; exact List.mem_append_right _ hq)
  have hz1 := fun q hq => hS q (by rw [zjr, zpL, List.zip_append hlen]; exact List.mem_append_left _ hq)
  have hD1 := fun x hx => hD x (by rw [zjr]; exact List.mem_append_left _ hx)
  refine ⟨v, vs', rfl, ?_, zuR hd hb h2 h2' (fun x hx => hD x (by rw [zjr]; exact List.mem_append_right _ hx)) hz⟩
  cases a with
  | ag m => obtain ⟨us, rfl, hL, h1c⟩ := h1; exact ⟨us, rfl, zqH hd hb h2 hL hD1 (fun q hq => hz1 q (by simpa [zoV, zkn, Value.cells] using hq)), h1c⟩
  | fv g m => obtain ⟨us, rfl, hL⟩ := h1; exact ⟨us, rfl, zqH hd hb h2 hL hD1 (fun q hq => hz1 q (by simpa [zoV, zkn, zyi] using hq))⟩
  | _ => exact zwb h1 (hD1 _ List.mem_cons_self) hd hb h2 (hz1 (_, v) List.mem_cons_self)
end
theorem zoq {γ : Gh} {w : World} {a : Act} : ∀ {args : List Operand} {xs : List AV}, xs.length = args.length → (∀ p ∈ args.zip xs, p.2.rel γ w (a.eval p.1)) → AV.relL γ w xs (args.map a.eval)
 | [], [], _, _ => rfl
 | y :: args, x :: xs, hl, hi => ⟨_, _, rfl, hi (y, x) (by simp), zoq (by simpa using hl) (fun p hp => hi p (by simp [hp]))⟩
 | [], _ :: _, h, _ => by simp at h
 | _ :: _, [], h, _ => by simp at h
theorem zAV {γ : Gh} {w : World} {α : Type} {r : Rp α} {e ℓ : Nat} {C : List Nat} {xs : List α} {v u : Value} {g : Nat} (h : AV.rel γ w (.own r e ℓ C xs) v) (k : AV.rel γ w (.own r e ℓ C xs) u) (hv : v.ownBlock = some g) (hu : u ≠ .slice none 0 0) : v = u := by
 obtain ⟨cs, ho, hg, _⟩ := h
 obtain ⟨cs2, ho2, hg2, _⟩ := k
 rcases ho.2 with ⟨rfl, _⟩ | ⟨g1, cap, cur, rfl, _, hh, hc, _, hs, _⟩
 ·cases hv
 ·rcases ho2.2 with ⟨rfl, _⟩ | ⟨g2, cap2, cur2, rfl, _, hh2, hc2, _, hs2, _⟩
  ·exact absurd rfl hu
  ·have e1 := (hg g1 rfl).2
   have e2 := (hg2 g2 rfl).2
   have : g2 = g1 := by rw [← e1, ← e2]
   subst this
   rw [hh] at hh2
   simp only [Option.some.injEq, Obj.cells.injEq] at hh2
   obtain ⟨rfl, _⟩ := hh2
   have : cap = cap2 := Nat.eq_of_mul_eq_mul_right r.pos (hs.symm.trans hs2)
   subst this
   rfl
theorem ziK {γ : Gh} {w : World} {α : Type} {r : Rp α} {e ℓ : Nat} {C : List Nat} {xs : List α} {v : Value} (h : AV.rel γ w (.own r e ℓ C xs) v) : (v = .slice none 0 0 ∧ xs = []) ∨ ∃ g cap, v = .slice (some ⟨g, 0, none⟩) xs.length cap ∧ γ.col g = ℓ ∧ γ.box ℓ = g ∧ g < w.heap.size := by
 obtain ⟨cs, ho, hg, _⟩ := h
 rcases ho.2 with ⟨rfl, h0⟩ | ⟨g1, cap, cur, rfl, _, hh, hc, _, hs, _⟩
 ·exact .inl ⟨rfl, List.eq_nil_of_length_eq_zero h0⟩
 ·obtain ⟨q1, q2⟩ := hg g1 rfl
  exact .inr ⟨g1, cap, rfl, q1, q2, (Array.getElem?_eq_some_iff.1 hh).1⟩
theorem zyJ {γ : Gh} {w : World} {α : Type} (r : Rp α) (e ℓ : Nat) (C : List Nat) (hn : ℓ ∉ C) : AV.rel γ w (.own r e ℓ C ([] : List α)) (.slice none 0 0) :=
 ⟨[], ⟨by simp, .inl ⟨rfl, rfl⟩⟩, fun g hg => (by cases hg), zab.nil, hn⟩
theorem zya {γ γc : Gh} {w w' : World} {K D V : List Nat} {s : Nat} {α β : Type} {r : Rp α} {r' : Rp β} {e ℓ k' : Nat} {C C' : List Nat} {xs : List α} {xs' : List β} {u : Value}
  (h1 : AV.rel γ w (.own r e ℓ C xs) u) (h2 : AV.rel γc w' (.own r' e k' C' xs') u) (hsz : r.size = r'.size) (hold : zrU γ γc w.heap.size K D) (hk1 : 1 ∈ K) (hD : D ≠ []) (hdis : zik K C' = true) (hn : ℓ ∉ outC D s C') (hV : ℓ ∉ V)
  (hnil : u = .slice none 0 0 → ∀ g, g < w.heap.size → γ.col g = ℓ → w'.heap[g]? = w.heap[g]?) : zoQ γ w (zgf γ γc w.heap.size D s V) w' (.own r e ℓ C xs, .own r' e ℓ (outC D s C') xs') := by
 intro v hv
 have hF : ∀ b, b < w'.heap.size → γc.F C' b → (zgf γ γc w.heap.size D s V).F (outC D s C') b := fun b _ hb => outF hold (zkm hdis) hk1 hb (fun _ e => absurd e hD)
 have hcol : ∀ g, g < w.heap.size → γ.col g = ℓ → (zgf γ γc w.heap.size D s V).col g = ℓ := fun g hg h => by unfold zgf; simp only [if_pos hg]; exact h
 have hbox : (zgf γ γc w.heap.size D s V).box ℓ = γ.box ℓ := by unfold zgf; simp only [if_neg hV]
 rcases ziK h1 with ⟨hu, hx⟩ | ⟨g, cap, hu, hg1, hg2, hglt⟩
 ·have hx' : xs' = [] := by
   rcases ziK h2 with ⟨_, h⟩ | ⟨g, cap, hu', _⟩
   ·exact h
   ·rw [hu] at hu'; cases hu'
  subst hx hx'
  rcases ziK hv with ⟨rfl, _⟩ | ⟨g', cap', hv', q1, q2, q3⟩
  ·exact zyJ r' e ℓ _ hn
  ·obtain ⟨cs, ho, _, _, _⟩ := hv
   refine ⟨[], ⟨by simp, ?_⟩, fun g hg => ?_, zab.nil, hn⟩
   ·rcases ho.2 with ⟨e1, _⟩ | ⟨g1, cap1, cur, e1, e2, e3, e4, e5, e6, e7⟩
    ·exact .inl ⟨e1, rfl⟩
    ·have hg1 : g1 = g' := by rw [hv'] at e1; cases e1; rfl
     subst hg1
     exact .inr ⟨g1, cap1, cur, e1, e2, (hnil hu g1 q3 q1).trans e3, Nat.zero_le _, e5, by rw [← hsz]; exact e6, by simp⟩
   ·rw [hv'] at hg
    cases hg
    exact ⟨hcol _ q3 q1, hbox.trans q2⟩
 ·by_cases hvn : v = .slice none 0 0
  ·subst hvn
   have hx : xs = [] := by
    rcases ziK hv with ⟨_, h⟩ | ⟨g, cap, hu', _⟩
    ·exact h
    ·cases hu'
   have hx' : xs' = [] := by
    rcases ziK h2 with ⟨_, h⟩ | ⟨g, cap, hu', _⟩
    ·exact h
    ·rw [hu, hx] at hu'
     injection hu' with _ e2 _
     exact List.eq_nil_of_length_eq_zero (by rw [← e2]; rfl)
   subst hx'
   exact zyJ r' e ℓ _ hn
  ·have huv : u = v := zAV h1 hv (by rw [hu]; rfl) hvn
   subst huv
   obtain ⟨cs, ho, hg, hA, _⟩ := h2
   refine ⟨cs, ho, fun g' hg' => ?_, hA.mono hF, hn⟩
   have : g' = g := by rw [hu] at hg'; cases hg'; rfl
   subst this
   exact ⟨hcol _ hglt hg1, hbox.trans hg2⟩
theorem zzL {γ γc : Gh} {w w' : World} {K D V : List Nat} {s : Nat} {κ ν κ' ν' : Type} {rk : Rp κ} {rv : Rp ν} {rk' : Rp κ'} {rv' : Rp ν'} {ℓ k' : Nat} {C C' : List Nat} {m : List (κ × ν)} {m' : List (κ' × ν')} {u : Value}
  (h1 : AV.rel γ w (.om rk rv ℓ C m) u) (h2 : AV.rel γc w' (.om rk' rv' k' C' m') u) (hold : zrU γ γc w.heap.size K D) (hk1 : 1 ∈ K) (hD : D ≠ []) (hdis : zik K C' = true) (hn : ℓ ∉ outC D s C') (hV : ℓ ∉ V) :
  zoQ γ w (zgf γ γc w.heap.size D s V) w' (.om rk rv ℓ C m, .om rk' rv' ℓ (outC D s C') m') := by
 intro v hv
 have hF : ∀ b, b < w'.heap.size → γc.F C' b → (zgf γ γc w.heap.size D s V).F (outC D s C') b := fun b _ hb => outF hold (zkm hdis) hk1 hb (fun _ e => absurd e hD)
 have hbox : (zgf γ γc w.heap.size D s V).box ℓ = γ.box ℓ := by unfold zgf; simp only [if_neg hV]
 obtain ⟨b, es, cl, hu, ⟨g1, g2⟩, hb, _⟩ := h1
 obtain ⟨b', es', cl', hu', _, hb', hh', hE', _⟩ := h2
 obtain ⟨b2, es2, cl2, hv2, ⟨q1, q2⟩, _⟩ := hv
 have e1 : b' = b := by rw [hu] at hu'; cases hu'; rfl
 have e2 : b2 = b := by rw [← q2, ← g2]
 subst e1 e2
 exact ⟨_, es', cl', hv2, ⟨by unfold zgf; simp only [if_pos hb]; exact g1, hbox.trans g2⟩, hb', hh', hE'.mono hF, hn⟩
theorem zCe {p : List (Nat × Nat)} {D : List Nat} {s : Nat} {K : List Nat} {a t : AV} {ℓ b : Nat} {γ : Gh} {w : World} {v : Value} (h : tOk p D s K (a, t) = true) (hl : mlab p a = some ℓ) (hb : blk v = some b) (hr : t.rel γ w v) : ∃ k, (ℓ, k) ∈ p ∧ γ.col b = k := by
 cases a with
 | own r e ℓ' C xs =>
  simp only [mlab] at hl
  cases hf : zgg p ℓ' with
  | none => rw [hf] at hl; cases hl
  | some k =>
   rw [hf] at hl
   cases hl
   simp only [tOk, hf] at h
   cases t with
   | own r' e' k' C' xs' =>
    simp only [Bool.and_eq_true, beqT] at h
    have hk := Nat.eq_of_beq_eq_true h.1.1.2
    subst hk
    refine ⟨k, zgs hf, ?_⟩
    rcases ziK hr with ⟨rfl, _⟩ | ⟨g, cap, rfl, g1, _⟩
    ·cases hb
    ·cases hb; exact g1
   | _ => cases h
 | om rk rv ℓ' C m =>
  simp only [mlab] at hl
  cases hf : zgg p ℓ' with
  | none => rw [hf] at hl; cases hl
  | some k =>
   rw [hf] at hl
   cases hl
   simp only [tOk, hf] at h
   cases t with
   | om rk' rv' k' C' m' =>
    simp only [Bool.and_eq_true] at h
    have hk := Nat.eq_of_beq_eq_true h.1.1
    subst hk
    obtain ⟨b', _, _, rfl, ⟨g1, _⟩, _⟩ := hr
    cases hb
    exact ⟨k, zgs hf, g1⟩
   | _ => cases h
 | _ => cases hl
theorem zCf {P : Program} {o : Oper} {f : FuncId} {args : List Operand} {ts : Array TypeId} {a : Act} {w : World} {next : Act → World → Prop} {Q : Exit → Act → World → Prop} {R : Ending → World → Prop} {vs : List Value}
  (hrun : (execOp a.eval o).run P w = .ok (.enter f vs.toArray) w) (hd : ∀ c, o.op ≠ .defer c) (h : Calls P f vs.toArray w R) (k : ∀ e w', R e w' → ∃ v, e = .returned v ∧ next (a.put o.dst v) w') : opq P o a w next Q := by
 refine zpk hd ?_
 unfold Oper.wp
 rw [hrun, Oper.upon_enter]
 refine h.mono fun e w' hR => ?_
 obtain ⟨v, rfl, hn⟩ := k e w' hR
 exact hn
theorem zBk {P : Program} {o : Oper} {f : FuncId} {args : List Operand} {ins outs tns : List AV} (xs : List AV) (p : List (Nat × Nat)) (D : List Nat) (s : Nat) (V : List Nat) (ok : zkj P f ins outs tns)
  (hrun : ∀ (a : Act) (w : World) (γ : Gh), AV.relL γ w xs (args.map a.eval) → ∃ vs : List Value, (execOp a.eval o).run P w = .ok (.enter f vs.toArray) w ∧ ∃ ys, ys.map (inW p) = ins ∧ zzW p D s V ys tns = true ∧ zvq D s ys tns = zvq D s xs tns ∧ AV.relL γ w ys vs) (hdf : ∀ c, o.op ≠ .defer c)
  (hlen : xs.length = args.length) (hD0 : D.isEmpty = false) (hout : (outs.all (zsT (1 :: p.map (·.2)) D s)) = true) (hV : outs.flatMap (zia s) = V) :
  zoF P o (args.zip xs) (p.map (·.1)) V (zuu (outs.map (zrv D s))) (zvq D s xs tns) := by
 intro γ a w hi next Q hk
 obtain ⟨vs, hr0, ys, hin, hB, hTP, hvs⟩ := hrun a w γ (zoq hlen hi)
 simp only [zzW, Bool.and_eq_true, List.all_eq_true] at hB
 obtain ⟨⟨⟨⟨⟨b1, b2⟩, b3⟩, b4⟩, b5⟩, b6⟩ := hB
 have h2 : ∀ q ∈ p, 2 ≤ q.2 := fun q hq => Nat.le_of_ble_eq_true (b2 q hq).1
 have hpb : ∀ q ∈ p, zmO p q.2 = some q.1 := fun q hq => by
  have := (b2 q hq).2
  cases hf : zmO p q.2 with
  | none => rw [hf] at this; cases this
  | some c => rw [hf] at this; rw [Nat.eq_of_beq_eq_true this]
 obtain ⟨S, hS⟩ : ∃ S : Fp, ∀ b, S b ↔ ∃ q ∈ (zjr ys).zip (zpL ys vs), (∃ ℓ, mlab p q.1 = some ℓ) ∧ blk q.2 = some b := ⟨_, fun b => Iff.rfl⟩
 have hin' : AV.relL (ghW γ D p S) w ins vs := by
  rw [← hin]
  exact zuR b3 hpb h2 hvs (fun x hx c hc => zbi (b4 x hx) c hc) (fun q hq ℓ hℓ b hb => (hS b).2 ⟨q, hq, ⟨ℓ, hℓ⟩, hb⟩)
 have hp2 : (p.all fun q => Nat.ble 2 q.2) = true := List.all_eq_true.2 fun q hq => (b2 q hq).1
 refine zCf (args := args) (ts := #[]) hr0 hdf (ok w _ _ hin') fun e w' hR => ?_
 obtain ⟨γc, us, rfl, ⟨⟨x1, x2, x3, x4⟩, x5, x6, x7⟩, hr, ht⟩ := hR
 have hA := zvT hvs
 have hTt := ztS hvs ht
 have hold : zrU γ γc w.heap.size (1 :: p.map (·.2)) D := fun b hb => by
  rcases Nat.lt_or_ge ((ghW γ D p S).col b) 2 with h | h
  ·obtain ⟨e1, _⟩ := x5 b hb h
   rcases Nat.lt_or_ge ((ghW γ D p S).col b) 1 with h0 | h0
   ·exact .inl ⟨by omega, zvW (p := p) (S := S) hp2 (by omega)⟩
   ·have h1 : γc.col b = 1 := by omega
    exact .inr (by rw [h1]; exact List.mem_cons_self)
  ·obtain ⟨hs, _⟩ := zuP h
   obtain ⟨q, hq, ⟨ℓ, hℓ⟩, hbk⟩ := (hS b).1 hs
   obtain ⟨t, hqt, _, g2⟩ := zqV hA hTt q hq
   obtain ⟨k, hk1, hk2⟩ := zCe (b5 _ hqt) hℓ hbk g2
   exact .inr (by rw [hk2]; exact List.mem_cons_of_mem _ (List.mem_map.2 ⟨_, hk1, rfl⟩))
 have hDne : D ≠ [] := fun e => by rw [e] at hD0; cases hD0
 have low : ∀ b, b < w.heap.size → ¬ (S b ∧ ∃ k, zgg p (γ.col b) = some k) → w'.heap[b]? = w.heap[b]? := fun b hb hn => by
  rcases Nat.lt_or_ge ((ghW γ D p S).col b) 2 with h | h
  ·exact (x5 b hb h).2
  ·exact absurd (zuP h) hn
 simp only [List.all_eq_true] at hout
 subst hV
 refine ⟨_, rfl, hk (zgf γ γc w.heap.size D s (outs.flatMap (zia s))) w' _ ⟨x1, x2, x3, x4, fun b hb hn => low b hb (fun ⟨_, k, hk⟩ => hn (List.mem_map.2 ⟨_, zgs hk, rfl⟩)), fun b hb => ?_, fun ℓ hℓ => ?_, fun b h1 h2 h0 => ?_⟩ (zqX (zql hr fun x hx v hv => ?_)) ?_⟩
 ·show (if b < w.heap.size then γ.col b else _) = _
  rw [if_pos hb]
 ·show (if ℓ ∈ outs.flatMap (zia s) then _ else γ.box ℓ) = _
  rw [if_neg hℓ]
 ·exfalso
  have hne := x7 b h1 h2
  have h0' : (if b < w.heap.size then γ.col b else if γc.col b = 0 then D.headD 1 else if γc.col b = 1 then 1 else γc.col b + s) = 0 := h0
  rw [if_neg (Nat.not_lt.2 h1), if_neg hne] at h0'
  split at h0' <;> omega
 ·exact zqS hold List.mem_cons_self hDne (hout x hx) (fun c hc => List.mem_flatMap.2 ⟨x, hx, hc⟩) hv
 ·intro q hq
  rw [← hTP] at hq
  obtain ⟨⟨x, t⟩, hm, hq⟩ := List.mem_flatMap.1 hq
  obtain ⟨u, hu, g1, g2⟩ := zwK hA hTt (x, t) hm
  have htk := b5 _ hm
  simp only at g1 g2 hu
  have hdV : ∀ ℓ k, zgg p ℓ = some k → ℓ ∉ outs.flatMap (zia s) := fun ℓ k hf => zkm b6 _ (List.mem_map.2 ⟨_, zgs hf, rfl⟩)
  cases x with
  | own r e ℓ C xs =>
   cases t with
   | own r' e' k' C' xs' =>
    simp only [tp1, List.mem_singleton] at hq
    subst hq
    simp only [tOk] at htk
    cases hf : zgg p ℓ with
    | none => rw [hf] at htk; cases htk
    | some k =>
     rw [hf] at htk
     simp only [Bool.and_eq_true, beqT] at htk
     obtain ⟨⟨⟨⟨t1, t2⟩, t3⟩, t4⟩, t5⟩ := htk
     have e1 := Nat.eq_of_beq_eq_true t2
     subst e1
     refine zya g1 g2 (Nat.eq_of_beq_eq_true t1) hold List.mem_cons_self hDne t4 (zdz t5) (hdV ℓ k hf) fun hnil g hg hcol => low g hg fun ⟨hs, _⟩ => ?_
     obtain ⟨q2, hq2, ⟨ℓ2, hℓ2⟩, hbk⟩ := (hS g).1 hs
     obtain ⟨t', hqt', g3, _⟩ := zqV hA hTt q2 hq2
     have hc2 : γ.col g = ℓ2 := by
      obtain ⟨a2, v2⟩ := q2
      simp only at hℓ2 hbk g3
      cases a2 with
      | own r2 e2 l2 C2 y2 =>
       simp only [mlab] at hℓ2
       rcases ziK g3 with ⟨rfl, _⟩ | ⟨g', cap', rfl, p1, _⟩
       ·cases hbk
       ·cases hbk; split at hℓ2 <;> cases hℓ2; exact p1
      | om rk2 rv2 l2 C2 m2 =>
       simp only [mlab] at hℓ2
       obtain ⟨b2, _, _, rfl, ⟨p1, _⟩, _⟩ := g3
       cases hbk; split at hℓ2 <;> cases hℓ2; exact p1
      | _ => cases hℓ2
     have hl2 : ℓ2 = ℓ := by rw [← hc2, hcol]
     subst hl2
     have := zuk b1 hq2 hu hℓ2 (by simp [mlab, hf])
     subst this
     simp only at hbk
     rw [hnil] at hbk
     cases hbk
   | _ => simp [tp1] at hq
  | om rk rv ℓ C m =>
   cases t with
   | om rk' rv' k' C' m' =>
    simp only [tp1, List.mem_singleton] at hq
    subst hq
    simp only [tOk] at htk
    cases hf : zgg p ℓ with
    | none => rw [hf] at htk; cases htk
    | some k =>
     rw [hf] at htk
     simp only [Bool.and_eq_true] at htk
     obtain ⟨⟨t3, t4⟩, t5⟩ := htk
     exact zzL g1 g2 hold List.mem_cons_self hDne t4 (zdz t5) (hdV ℓ k hf)
   | _ => simp [tp1] at hq
  | _ => simp [tp1] at hq
theorem zou {P : Program} {o : Oper} {f : FuncId} {args : List Operand} {ts : Array TypeId} {ins outs tns : List AV} (xs : List AV) (p : List (Nat × Nat)) (D : List Nat) (s : Nat) (V : List Nat) (ho : o.op = .call ⟨.value (.func f), args.toArray, ts⟩)
  (hc : ∀ as w, (callFunc f as).run P w = .ok (.enter f as) w) (ok : zkj P f ins outs tns) (hin : xs.map (inW p) = ins) (hlen : xs.length = args.length) (hB : zzW p D s V xs tns = true) (hD0 : D.isEmpty = false)
  (hout : (outs.all (zsT (1 :: p.map (·.2)) D s)) = true) (hV : outs.flatMap (zia s) = V) : zoF P o (args.zip xs) (p.map (·.1)) V (zuu (outs.map (zrv D s))) (zvq D s xs tns) :=
 zBk xs p D s V ok (fun a w γ h => ⟨_, by simp [execOp, ho, resolve, Act.eval, Deferred.ofValue, invoke, hc], xs, hin, hB, rfl, h⟩) (fun c => by rw [ho]; exact nofun) hlen hD0 hout hV
def zyn : List Bx → List AV → Prop
 | [], [] => True
 | b :: bs, .ep r C x off :: cs => (off = 0 ∧ zhj b.avs = some (r.lv x) ∧ subN (b.lab :: AV.colsL b.avs) C = true) ∧ zyn bs cs
 | b :: bs, .em rk rv C m :: cs => ((∃ ℓ C0, b.avs = [.om rk rv ℓ C0 m] ∧ subN (b.lab :: ℓ :: C0) C = true) ∨ ∃ C0, b.avs = [.mp rk rv C0 m] ∧ subN (b.lab :: C0) C = true) ∧ zyn bs cs
 | _, _ => False
theorem zqE {γ : Gh} {w : World} {ev : Operand → Value} : ∀ (xs : List Operand) (bs : List Bx) (cs : List AV), zyn bs cs → xs.length = bs.length → (∀ p ∈ xs.zip (bs.map fun b => AV.ptr b.lab 0), p.2.rel γ w (ev p.1)) → Bxs γ w bs → AV.relL γ w cs (xs.map ev)
 | [], [], [], _, _, _, _ => rfl
 | [], [], _ :: _, h, _, _, _ => h.elim
 | x :: xs, b :: bs, .ep r C y off :: cs, h, hl, hi, hb => by
  obtain ⟨⟨rfl, h1, h2⟩, h3⟩ := h
  refine ⟨ev x, xs.map ev, rfl, ?_, zqE xs bs cs h3 (by simpa using hl) (fun p hp => hi p (List.mem_cons_of_mem _ hp)) (fun c hc => hb c (List.mem_cons_of_mem _ hc))⟩
  have hv := hi (x, .ptr b.lab 0) List.mem_cons_self
  obtain ⟨hc, cells, hh, hL, hone⟩ := hb b List.mem_cons_self
  have hsub := zbi h2
  refine ⟨γ.box b.lab, 0, cells, hv, by rw [hc]; exact hsub _ List.mem_cons_self, (Array.getElem?_eq_some_iff.1 hh).1, zki h1 hL (fun c hc => hsub c (List.mem_cons_of_mem _ hc)), fun i hi => ?_⟩
  rw [cell_of_row w _ _ _ _ _ hh]; simp
 | x :: xs, b :: bs, .em rk rv C m :: cs, h, hl, hi, hb => by
  obtain ⟨h1, h3⟩ := h
  refine ⟨ev x, xs.map ev, rfl, ?_, zqE xs bs cs h3 (by simpa using hl) (fun p hp => hi p (List.mem_cons_of_mem _ hp)) (fun c hc => hb c (List.mem_cons_of_mem _ hc))⟩
  have hv := hi (x, .ptr b.lab 0) List.mem_cons_self
  obtain ⟨hc, cells, hh, hL, hone⟩ := hb b List.mem_cons_self
  have hlt := (Array.getElem?_eq_some_iff.1 hh).1
  have hcell : ∀ u, cells = [u] → w.cell? ⟨γ.box b.lab, 0, none⟩ = some u := fun u hu => by rw [cell_of_row w _ _ _ _ _ hh]; simp [hu]
  rcases h1 with ⟨ℓ, C0, e1, h2⟩ | ⟨C0, e1, h2⟩
  ·have hsub := zbi h2
   rw [e1] at hL
   obtain ⟨u, r, hu, ⟨b', es, cl, hu', ⟨g1, _⟩, hlt', hh', hE, _⟩, hr⟩ := hL
   cases hr
   exact ⟨γ.box b.lab, b', es, cl, hv, by rw [hc]; exact hsub _ List.mem_cons_self, hlt, by rw [hcell u hu, hu'], by rw [g1]; exact hsub _ (List.mem_cons_of_mem _ List.mem_cons_self), hlt', hh', hE.mono fun c _ hc' => hsub _ (List.mem_cons_of_mem _ (List.mem_cons_of_mem _ hc'))⟩
  ·have hsub := zbi h2
   rw [e1] at hL
   obtain ⟨u, r, hu, ⟨b', es, cl, hu', hF, hlt', hh', hE⟩, hr⟩ := hL
   cases hr
   exact ⟨γ.box b.lab, b', es, cl, hv, by rw [hc]; exact hsub _ List.mem_cons_self, hlt, by rw [hcell u hu, hu'], hsub _ (List.mem_cons_of_mem _ hF), hlt', hh', hE.mono fun c _ hc' => hsub _ (List.mem_cons_of_mem _ hc')⟩
 | _ :: _, _ :: _, [], h, _, _, _ => h.elim
 | _ :: _, _ :: _, .any :: _, h, _, _, _ => h.elim
 | _ :: _, _ :: _, .lf _ :: _, h, _, _, _ => h.elim
 | _ :: _, _ :: _, .sl .. :: _, h, _, _, _ => h.elim
 | _ :: _, _ :: _, .own .. :: _, h, _, _, _ => h.elim
 | _ :: _, _ :: _, .rc .. :: _, h, _, _, _ => h.elim
 | _ :: _, _ :: _, .ptr .. :: _, h, _, _, _ => h.elim
 | _ :: _, _ :: _, .bs .. :: _, h, _, _, _ => h.elim
 | _ :: _, _ :: _, .tl .. :: _, h, _, _, _ => h.elim
 | _ :: _, _ :: _, .qp .. :: _, h, _, _, _ => h.elim
 | _ :: _, _ :: _, .mp .. :: _, h, _, _, _ => h.elim
 | _ :: _, _ :: _, .om .. :: _, h, _, _, _ => h.elim
 | _ :: _, _ :: _, .tup .. :: _, h, _, _, _ => h.elim
 | _ :: _, _ :: _, .ag .. :: _, h, _, _, _ => h.elim
 | _ :: _, _ :: _, .fv .. :: _, h, _, _, _ => h.elim
 | _ :: _, _ :: _, .bp .. :: _, h, _, _, _ => h.elim
 | _ :: _, _ :: _, .it .. :: _, h, _, _, _ => h.elim
 | [], _ :: _, _, _, hl, _, _ => by simp at hl
 | _ :: _, [], _, _, hl, _, _ => by simp at hl
theorem zyC {α : Type} (r : Rp α) (t : TypeId) (ℓ : Nat) (C C' : List Nat) (x : α) (h : subN (ℓ :: C) C' = true) : AV.le (.bp r t ℓ C x) (.ep r C' x 0) := fun γ w v ⟨b, cs, hv, ⟨g1, _⟩, hlt, hh, _, hA⟩ => by
 have hsub := zbi h
 refine ⟨b, 0, cs.toList, hv, by rw [g1]; exact hsub _ List.mem_cons_self, hlt, hA.mono fun c _ hc => hsub _ (List.mem_cons_of_mem _ hc), fun i hi => ?_⟩
 rw [cell_of_row w _ _ _ _ _ hh]; simp
theorem zCn {g : Nat} {l m : List AV} (h : leL l m) : AV.le (.fv g l) (.fv g m) := fun _ _ _ ⟨vs, hv, hL⟩ => ⟨vs, hv, zpQ h hL⟩
theorem zpU {P : Program} {o : Oper} {g : Nat} (xs : List Operand) (bs : List Bx) (cs : List AV) (ho : o.op = .makeFunc (.func g) #[] xs.toArray) (hc : zyn bs cs) (hl : xs.length = bs.length) :
  zL P o (xs.zip (bs.map fun b => AV.ptr b.lab 0)) bs [] [] (.fv g cs) [] := by
 refine zR fun γ ev w hi hb => ?_
 exact ⟨.func (.func g) #[] (xs.map ev).toArray, w, γ, by simp [execOp, ho, Instr.makeFunc], Tr.refl _ _ _ _, ⟨xs.map ev, rfl, zqE xs bs cs hc hl hi hb⟩, fun b hb => by cases hb⟩
def isFv (g : Nat) (l : List AV) (a : AV) : Prop := ∀ γ w v, a.rel γ w v → ∃ us : List Value, v = .func (.func g) #[] us.toArray ∧ AV.relL γ w l us
theorem zof (g : Nat) (l : List AV) : isFv g l (.fv g l) := fun _ _ _ ⟨vs, hv, hL⟩ => ⟨vs, hv, hL⟩
theorem zwd (g : Nat) : isFv g [] (.lf (.val (.func (.func g) #[] #[]))) := fun _ _ _ h => ⟨[], znz h, rfl⟩
theorem zjx {P : Program} {o : Oper} {f : FuncId} {y : Operand} {a : AV} {caps : List AV} {args : List Operand} {ts : Array TypeId} {ins outs : List AV} (xs : List AV) (D : List Nat) (s : Nat)
  (ho : o.op = .call ⟨.value y, args.toArray, ts⟩) (hf : isFv f caps a) (hc : ∀ as w, (callFunc f as).run P w = .ok (.enter f as) w) (ok : FnOk P f ins outs)
  (hin : (xs ++ caps).map inAV = ins) (hlen : xs.length = args.length) (hD : ((xs ++ caps).all fun a => subN (zuQ a) D) = true) (hD0 : D.isEmpty = false) (hout : (outs.all (zsT [1] D s)) = true) :
  zL P o ((y, a) :: args.zip xs) [] [] (outs.flatMap (zia s)) (zuu (outs.map (zrv D s))) [] := by
 intro γ av w hi hb next Q hk
 obtain ⟨us, hv, hcaps⟩ := hf γ w _ (hi (y, a) List.mem_cons_self)
 have hxs : AV.relL γ w xs (args.map av.eval) := zoq hlen fun p hp => hi p (List.mem_cons_of_mem _ hp)
 have hall := zqj hxs hcaps
 have hvs : AV.relL (gh0 (γ.F D)) w ins (args.map av.eval ++ us) := by
  subst hin
  simp only [List.all_eq_true] at hD
  exact zql hall fun x hx v hv => zwa hv (zbi (hD x hx))
 have hcall := ok w (γ.F D) _ hvs
 have hrun : (execOp av.eval o).run P w = .ok (.enter f (args.map av.eval ++ us).toArray) w := by
  simp only at hv
  simp [execOp, ho, resolve, hv, Deferred.ofValue, invoke, hc]
 unfold Oper.wp
 rw [hrun, Oper.upon_enter]
 refine hcall.mono fun e w' ⟨γc, us, he, hB, ⟨hold, hfr⟩, hr⟩ => ?_
 subst he
 have hDne : D ≠ [] := fun e => by rw [e] at hD0; cases hD0
 simp only [List.all_eq_true] at hout
 refine hk (zgf γ γc w.heap.size D s (outs.flatMap (zia s))) w' _ ⟨hB.os, hB.tape, hB.output, hB.size, fun b hb _ => hB.block b hb, fun b hb => ?_, fun ℓ hℓ => ?_, fun b h1 h2 h0 => ?_⟩ (zqX (zql hr fun x hx v hv => ?_)) (fun b hb => by cases hb)
 ·show (if b < w.heap.size then γ.col b else _) = _
  rw [if_pos hb]
 ·show (if ℓ ∈ outs.flatMap (zia s) then _ else γ.box ℓ) = _
  rw [if_neg hℓ]
 ·exfalso
  have hne := hfr b h1 h2
  have h0' : (if b < w.heap.size then γ.col b else if γc.col b = 0 then D.headD 1 else if γc.col b = 1 then 1 else γc.col b + s) = 0 := h0
  rw [if_neg (Nat.not_lt.2 h1), if_neg hne] at h0'
  split at h0' <;> omega
 ·exact zqS (K := [1]) (fun b hb => (hold b hb).imp id fun h => by simp [h]) (by simp) hDne (hout x hx) (fun c hc => List.mem_flatMap.2 ⟨x, hx, hc⟩) hv
section
variable {m : Bool} {P : Program} {l : List It} {cx : Cx} {E E1 : Env}
theorem zkU (h : zdX E E1) : JI m P (.c .ret :: l) (Sx cx E) fun e a w => (e = .ret ∨ e = .normal) ∧ Sx cx E1 a w := zsv fun _ _ hs => ⟨.inl rfl, h.go hs⟩
theorem zCZ (h : zdX E E1) : JI m P [] (Sx cx E) fun e a w => (e = .ret ∨ e = .normal) ∧ Sx cx E1 a w := zxy fun _ _ hs => ⟨.inr rfl, h.go hs⟩
end
theorem zoF.le {P : Program} {o : Oper} {ins ins' : List (Operand × AV)} {W V : List Nat} {av : AV} {T : List (AV × AV)} (h : zoF P o ins W V av T) (hl : leI ins' ins) : zoF P o ins' W V av T :=
 fun γ a w hi => h γ a w (zuV _ _ hl hi)
theorem zkj.le {P : Program} {f : FuncId} {ins ins' outs ts : List AV} (h : zkj P f ins outs ts) (hl : leL ins' ins) : zkj P f ins' outs ts := fun w γ vs hr => h w γ vs (zpQ hl hr)
theorem zzB {P : Program} {t e : TypeId} (hu : P.underlying t = some (.slice e)) (A : Option Addr) (n c : Nat) (w : World) : (binOp .eql t (.slice A n c) (.slice none 0 0)).run P w = .ok (.bool A.isNone) w := by
 have hd : ∀ d : Nat, (Op.equalIn (d + 1) t (.slice A n c) (.slice none 0 0)).run P w = .ok A.isNone w := fun d => by cases A <;> simp [Op.equalIn, run_underlying hu]
 simp only [binOp]; simp [Op.equal, Op.maxDepth, hd 9999]
theorem zwN {P : Program} {t e : TypeId} (hu : P.underlying t = some (.slice e)) (A : Option Addr) (n c : Nat) (w : World) : (binOp .neq t (.slice A n c) (.slice none 0 0)).run P w = .ok (.bool (!A.isNone)) w := by
 have hd : ∀ d : Nat, (Op.equalIn (d + 1) t (.slice A n c) (.slice none 0 0)).run P w = .ok A.isNone w := fun d => by cases A <;> simp [Op.equalIn, run_underlying hu]
 simp only [binOp]; simp [Op.equal, Op.maxDepth, hd 9999]
theorem ztQ (P : Program) (op : BinOp) (t : TypeId) (x y : Operand) (A : Option Addr) (n c : Nat) (b : Value) (w : World) : (eqGuard op t x y (.slice A n c) b).run P w = .ok () w := by
 unfold eqGuard
 split <;> rfl
theorem runq {P : Program} {N : Lim} {ops : Array Oper} {cx : Cx} {Q : Exit → Act → World → Prop} (hn : cx.n = N) : ∀ (l rest : List Oper) (E E1 : Env) (a : Act) (w : World), zpJ P N ops l E = some E1 → Sx cx E a w → (∀ a' w', Sx cx E1 a' w' → zlH P ops Q rest a' w') → zlH P ops Q (l ++ rest) a w
 | [], rest, E, E1, a, w, h, hs, k => by cases h; exact k a w hs
 | o :: l, rest, E, E1, a, w, h, hs, k => by
  rw [zpJ] at h
  obtain ⟨γ, hB, hS, hX⟩ := hs
  split at h
  ·rename_i hg
   split at h
   ·rename_i av hd he
    obtain ⟨v, hr, hv⟩ := zmi he (γ := γ) (w := w) (ev := a.eval) (fun x _ av hx => Env.opd_rel hx hS) hX
    rw [List.cons_append]
    refine zhN (zeA hg hS) (zkg hr ?_)
    exact runq hn l rest _ _ _ _ h ⟨γ, hB.put _ _ (by rw [hn]; exact zdQ hd), hS.put (fun k hk => by rw [hB.size, hn]; exact zgc hd k hk) hv, hX⟩ k
   ·cases h
  ·rename_i hg
   split at h
   ·rename_i hd
    rw [List.cons_append]
    exact zsx (zeA hg hS) (runq hn l rest _ _ _ _ h ⟨γ, hB.put _ _ (by rw [hn]; exact zdQ hd), hS.put_undef _, hX⟩ k)
   ·cases h
  ·cases h
theorem zwk {m : Bool} {P : Program} {cx : Cx} {E : Env} {id : Nat} {ops : List Oper} {l : List It} {Q : Exit → Act → World → Prop} {o : Oper} {α : Type} {r : Rp α} {D : List Nat} {xs : List α} {a : AV} {x : Operand} {t e yt : TypeId}
  (n d : Nat) (eq : Bool) (E0 ET EF : Env) (h0 : zyp P cx.n ops.toArray (ops.take n) E E0.keys E0.labs = some E0) (hd : ops.drop n = [o]) (ho : o.op = .binOp (if eq then .eql else .neq) t x (.const (.slice none 0 0)) yt) (hdst : o.dst = some d)
  (hg : zfB ops.toArray E0 o = some true) (hok : zhO cx.n o.dst = true) (hu : P.underlying t = some (.slice e)) (hx : E0.opd x = some a) (hs : isSl r xs D a)
  (hT : (⟨zgB (some d) (.lf (.bool eq)) E0.sl, E0.bx⟩ : Env).pick ET.keys ET.labs = some ET) (hF : (⟨zgB (some d) (.lf (.bool (!eq))) E0.sl, E0.bx⟩ : Env).pick EF.keys EF.labs = some EF)
  (kT : xs = [] → JI m P l (Sx cx ET) Q) (kF : JI m P l (Sx cx EF) Q) : JI m P (.c (.region id ops.toArray false) :: l) (Sx cx E) Q := by
 intro ac w hsx
 rw [zmR]
 refine zlv ?_
 have hsplit : ops = ops.take n ++ [o] := by rw [← hd, List.take_append_drop]
 unfold zyp at h0
 split at h0
 ·rename_i E1 h1
  have step : ∀ a' w', Sx cx E1 a' w' → zlH P ops.toArray (zhW m P Q l) [o] a' w' := by
   intro a' w' hs1
   obtain ⟨γ, hB, hS, hX⟩ := hs1.pick h0
   have hv := hs γ w' _ (Env.opd_rel hx hS)
   obtain ⟨A, c, cs, he, hc, hm, _, _, hA⟩ := zqt hv
   have hrun : (execOp a'.eval o).run P w' = .ok (.value (.bool (if A.isNone then eq else !eq))) w' := by
    cases eq
    ·simp only [execOp, ho, Sem.run_bind, he, ztQ, Result.andThen_ok, if_neg Bool.false_ne_true]
     simp only [Act.eval, zwN hu, Result.andThen_ok, Sem.run_pure]
     cases A <;> rfl
    ·simp only [execOp, ho, Sem.run_bind, he, ztQ, Result.andThen_ok, if_true]
     simp only [Act.eval, zzB hu, Result.andThen_ok, Sem.run_pure]
     cases A <;> rfl
   refine zhN (zeA hg hS) (zkg hrun ?_)
   rw [hdst] at hok ⊢
   intro ro
   unfold wpListIn
   have hput : ∀ b, (Sx cx ⟨zgB (some d) (.lf (.bool b)) E0.sl, E0.bx⟩ (a'.put (some d) (.bool b)) w') := fun b =>
    ⟨γ, hB.put _ _ (zdQ hok), hS.put (fun k hk => by rw [hB.size]; exact zgc hok k hk) (zva _ _ _), hX⟩
   cases A with
   | none =>
    have hxs : xs = [] := by
     rcases Nat.eq_zero_or_pos xs.length with h | h
     ·exact List.eq_nil_of_length_eq_zero h
     ·obtain ⟨b, off, e, _⟩ := hA h; cases e
    exact kT hxs _ _ ((hput eq).pick hT)
   | some A => exact kF _ _ ((hput (!eq)).pick hF)
  have hall := runq (P := P) (ops := ops.toArray) (Q := zhW m P Q l) rfl (ops.take n) [o] E E1 ac w h1 hsx step
  rw [← hsplit] at hall
  exact hall
 ·cases h0
section
end
end Go.Proofs.YtglkepeofhonlaaGreatDoor
namespace Go.Proofs.YtglkepeofhonlaaGreatDoor
open Go Go.RowKit
set_option linter.unusedVariables false
theorem zBV {P : Program} {o : Oper} {α : Type} {r : Rp α} {xs ys : List α} {C : List Nat} {i : Int} {k : IntKind} {t e : TypeId} {x y : Operand} {bytes ℓ : Nat}
  (ho : o.op = .slice t x (some y) none none) (hT : ElT P t e r.size bytes) (hy : cut xs i xs.length = some ys) :
  zL P o [(x, .own r e ℓ C xs), (y, .lf (.int k i))] [] [] [] (.tl ℓ (i.toNat * r.size) (xs.length - i.toNat)) [] := by
 refine zR fun γ ev w hin _ => ?_
 have hx := hin (x, .own r e ℓ C xs) (by simp)
 have h2 := zfI (hin (y, .lf (.int k i)) (by simp))
 simp only at hx h2
 obtain ⟨c0, c1, c2, rfl⟩ := zly hy
 have hlt : (xs.length : Int).toNat = xs.length := Int.toNat_natCast _
 rcases ziK hx with ⟨hv, hx0⟩ | ⟨g, cap, hv, hg1, hg2, hglt⟩
 ·subst hx0
  have hr := zqp hT w none 0 0 (Nat.le_refl _) (some (.int k i)) none i 0 (.inr ⟨k, rfl⟩) (.inl ⟨rfl, rfl⟩) c0 (by simpa using c1) (Int.le_refl _)
  refine ⟨_, w, γ, by simp only [execOp, ho, hv, h2, Option.map_none, Option.map_some, Sem.run_bind, hr]; rfl, Tr.refl _ _ _ _, ⟨_, _, rfl, fun hn => ?_⟩, fun b hb => by cases hb⟩
  simp at hn
 ·have hc : xs.length ≤ cap := by
   obtain ⟨cs, ho', _⟩ := hx
   rcases ho'.2 with ⟨e1, _⟩ | ⟨g1, cap1, cur, e1, _, _, h, _⟩
   ·rw [hv] at e1; cases e1
   ·rw [hv] at e1; cases e1; exact h
  have hr := zqp hT w (some ⟨g, 0, none⟩) xs.length cap hc (some (.int k i)) none i xs.length (.inr ⟨k, rfl⟩) (.inl ⟨rfl, rfl⟩) c0 c1 (Int.le_refl _)
  rw [hlt] at hr
  refine ⟨_, w, γ, by simp only [execOp, ho, hv, h2, Option.map_none, Option.map_some, Sem.run_bind, hr]; rfl, Tr.refl _ _ _ _, ⟨_, _, rfl, fun hn => ?_⟩, fun b hb => by cases hb⟩
  rw [if_neg (by omega), hg2]
  simp [zjn]
theorem zCL {P : Program} {o : Oper} {α : Type} {r : Rp α} {e ℓ : Nat} {C : List Nat} {xs : List α} {t : TypeId} {y : Operand} {x0 : α} {bytes i : Nat}
  (y0 : Operand) (ho : o.op = .call ⟨.builtin .clear, #[y], #[t]⟩) (hT : ZeT P t e r bytes x0) (hC : memN ℓ C = false) :
  zoF P o [(y0, .own r e ℓ C xs), (y, .tl ℓ (i * r.size) (xs.length - i))] [ℓ] [] .any [(.own r e ℓ C xs, .own r e ℓ C (xs.take i ++ List.replicate (xs.length - i) x0))] := by
 intro γ a' w hin next Q hk
 have hx := hin (y0, .own r e ℓ C xs) (by simp)
 obtain ⟨A, c, hv, hA⟩ := hin (y, .tl ℓ (i * r.size) (xs.length - i)) (by simp)
 simp only at hx hv
 by_cases hn0 : xs.length - i = 0
 ·have hrun : (execOp a'.eval o).run P w = .ok (.value (.tuple #[])) w := zcu (args := [y]) (ts := [t]) ho rfl rfl rfl fun consts => by
   simp only [builtin, List.map_cons, List.map_nil, hv, hn0, Sem.run_bind]
   cases A <;> simp [Builtin.clear_, run_underlying hT.u]
  refine zkg hrun (hk γ w _ (Tr.refl _ _ _ _) trivial fun p hp v hpv => ?_)
  simp only [List.mem_cons, List.not_mem_nil, or_false] at hp
  subst hp
  rw [hn0, List.take_of_length_le (by omega), List.replicate_zero, List.append_nil]
  exact hpv
 ·obtain ⟨n, hn⟩ : ∃ n, n = xs.length - i := ⟨_, rfl⟩
  rw [← hn] at hn0 hA hv hk
  have hA' := hA (by omega)
  subst hA'
  obtain ⟨cs, hown, hgb, hAll, hnC⟩ := hx
  obtain ⟨ti, z, hi', hz, hs, hby, hzs, hzo⟩ := hT.ex
  rcases hown.2 with ⟨_, hz0⟩ | ⟨g, cap, cur, hvx, _, hh, hnc, hcm, hcs, htake⟩
  ·omega
  ·obtain ⟨hcol, hbox⟩ := hgb g (by rw [hvx]; rfl)
   rw [hbox] at hv
   have hZl : (Builtin.zeroCells z.cells n).toList.length = n * r.size := by rw [Array.length_toList, size_zeroCells, hzs]
   have hinl : i * r.size + n * r.size = xs.length * r.size := by rw [← Nat.add_mul]; congr 1; omega
   have hcl : cs.length = xs.length * r.size := hown.1
   have hcap : xs.length * r.size ≤ cap * r.size := Nat.mul_le_mul_right _ hnc
   have hzr : zab (γ.F C) w ((List.replicate n x0).flatMap r.lv) (Builtin.zeroCells z.cells n).toList := by
    have := zpV hzs hzo (γ.F C) w n n (Nat.le_refl _)
    rw [List.take_of_length_le (by rw [Array.length_toList, size_madeCells]; exact Nat.le_refl _)] at this
    have e : (Builtin.zeroCells z.cells n).toList = (madeCells z.cells (n * r.size)).toList := by rw [znX, hzs]
    rw [e]; exact this
   have hst := run_storeCells_at P g (i * r.size) e (Builtin.zeroCells z.cells n).toList 0 cur w hh (by rw [hZl, hcs]; omega) hzr.one
   simp only [Nat.add_zero, hZl] at hst
   have hrun : (execOp a'.eval o).run P w = .ok (.value (.tuple #[])) (w.setRow g (cur.toList.take (i * r.size) ++ (Builtin.zeroCells z.cells n).toList ++ cur.toList.drop (i * r.size + n * r.size)).toArray) := zcu (args := [y]) (ts := [t]) ho rfl rfl rfl fun consts => by
    simp only [builtin, List.map_cons, List.map_nil, hv, Sem.run_bind]
    obtain ⟨m, rfl⟩ : ∃ m, n = m + 1 := ⟨n - 1, by omega⟩
    simp [Builtin.clear_, run_underlying hT.u, zeroValue, typeInfo, hi', hz, hst]
   have hcol' : γ.col (γ.box ℓ) = ℓ := by rw [hbox]; exact hcol
   have ht := zre (w := w) hcol' (cur.toList.take (i * r.size) ++ (Builtin.zeroCells z.cells n).toList ++ cur.toList.drop (i * r.size + n * r.size)).toArray
   rw [hbox] at ht
   have hnot : ∀ c ∈ C, c ∉ [ℓ] := fun c hc h => by
    simp only [List.mem_cons, List.not_mem_nil, or_false] at h
    subst h
    exact zdz (by rw [hC]; rfl) hc
   refine zkg hrun (hk γ _ _ ht trivial fun p hp v hpv => ?_)
   simp only [List.mem_cons, List.not_mem_nil, or_false] at hp
   subst hp
   obtain ⟨cs1, hown1, hgb1, _, _⟩ := hpv
   rcases hown1.2 with ⟨_, hz0⟩ | ⟨g1, cap1, cur1, hv1, _, hh1, hnc1, hcm1, hcs1, htake1⟩
   ·omega
   ·have hg1 : g1 = g := by rw [← (hgb1 g1 (by rw [hv1]; rfl)).2, hbox]
    subst hg1
    rw [hh] at hh1
    simp only [Option.some.injEq, Obj.cells.injEq] at hh1
    obtain ⟨rfl, _⟩ := hh1
    have ecs : cs1 = cs := by rw [← htake1, ← htake]
    subst ecs
    have hcurl : cur.toList.length = cap * r.size := by rw [Array.length_toList, hcs]
    have hcap1 : xs.length * r.size ≤ cap1 * r.size := Nat.mul_le_mul_right _ hnc1
    have hle : i * r.size ≤ xs.length * r.size := by omega
    have hlen2 : (xs.take i ++ List.replicate n x0).length = xs.length := by simp; omega
    refine ⟨cs1.take (i * r.size) ++ (Builtin.zeroCells z.cells n).toList, ⟨?_, .inr ⟨g1, cap1, _, hv1.trans ?_, Nat.zero_le _, setRow_heap w _ _ _ _ _ hh, ?_, hcm1, ?_, ?_⟩⟩, ?_, ?_, hnC⟩
    ·rw [List.length_append, List.length_take, hZl, hcl, hlen2]; omega
    ·rw [hlen2]
    ·rw [hlen2]; exact hnc1
    ·simp only [List.size_toArray, List.length_append, List.length_take, List.length_drop, hZl, hcurl, ← hcs1, hcs]
     omega
    ·have e1 : cur.toList.take (i * r.size) = cs1.take (i * r.size) := by rw [← htake, List.take_take, Nat.min_eq_left (by omega)]
     have e3 : (cs1.take (i * r.size) ++ (Builtin.zeroCells z.cells n).toList).length = xs.length * r.size := by rw [List.length_append, List.length_take, hZl, hcl]; omega
     rw [hlen2, e1, List.take_append, e3, Nat.sub_self, List.take_zero, List.append_nil, List.take_of_length_le (by omega)]
    ·intro g2 hg2
     have : g2 = g1 := by rw [hv1] at hg2; simpa [Value.ownBlock] using hg2.symm
     subst this
     exact ⟨hcol, hbox⟩
    ·rw [List.flatMap_append, r.flat_take]
     exact (ht.all hnot (hAll.take (i * r.size))).append (ht.all hnot hzr)
theorem zBT {P : Program} {o : Oper} {κ ν : Type} {rk : Rp κ} {rv : Rp ν} {D : List Nat} {m : List (κ × ν)} {t : TypeId} {y : Operand}
  (ho : o.op = .load t y) (hT : zdZ P t = true) : zL P o [(y, .em rk rv D m)] [] [] [] (.mp rk rv D m) [] := by
 refine zR fun γ ev w hi _ => ?_
 obtain ⟨a, b, es, cl, hv, hFa, ha, hc1, hF, hb, hh, hE⟩ := hi (y, .em rk rv D m) (by simp)
 simp only at hv
 exact ⟨_, w, γ, by simp [execOp, ho, hv, zhg hT hc1], Tr.refl _ _ _ _, ⟨b, es, cl, rfl, hF, hb, hh, hE⟩, fun b hb => by cases hb⟩
theorem zmn {β : Type} (r : Rp β) : ∀ l : List (List β), l.flatMap (Rp.list r).lv = l.map fun x => LV.sl x.length r.size (x.flatMap r.lv)
 | [] => rfl
 | z :: l => by rw [List.flatMap_cons, List.map_cons, zmn r l]; rfl
theorem zCE {P : Program} {o : Oper} {β : Type} {r : Rp β} {e ℓ : Nat} {C : List Nat} {xs : List (List β)} {t : TypeId} {y : Operand} (y0 : Operand) (i : Nat) (x : List β)
  (ho : o.op = .load t y) (hT : zdZ P t = true) (hx : xs[i]? = some x) : zL P o [(y0, .own (Rp.list r) e ℓ C xs), (y, .ptr ℓ (i * (Rp.list r).size))] [] [] [] (.sl r C x) [] := by
 refine zR fun γ ev w hin _ => ?_
 obtain ⟨cs, hown, hgb, hA, hnC⟩ := hin (y0, .own (Rp.list r) e ℓ C xs) (by simp)
 have hp : ev y = .pointer (some ⟨γ.box ℓ, i * (Rp.list r).size, none⟩) := hin (y, .ptr ℓ (i * (Rp.list r).size)) (by simp)
 have hi := (List.getElem?_eq_some_iff.1 hx).1
 rcases hown.2 with ⟨_, hz0⟩ | ⟨g, cap, cur, hv, _, hh, hnc, hcm, hcs, htake⟩
 ·omega
 ·obtain ⟨hcol, hbox⟩ := hgb g (by rw [hv]; rfl)
  rw [hbox, show (Rp.list r).size = 1 from rfl, Nat.mul_one] at hp
  have hcl : cs.length = xs.length := by rw [hown.1]; exact Nat.mul_one _
  have hic : i < cs.length := by omega
  rw [zmn] at hA
  have hr := hA.2 i (.sl x.length r.size (x.flatMap r.lv)) cs[i] (by rw [List.getElem?_map, hx]; rfl) (List.getElem?_eq_getElem hic)
  have hcell : w.cell? ⟨g, i, none⟩ = some cs[i] := by
   rw [cell_of_row w _ _ _ _ _ hh, ← Array.getElem?_toList]
   have h1 := congrArg (fun l : List Value => l[i]?) htake
   rw [show (Rp.list r).size = 1 from rfl, Nat.mul_one] at h1
   simp only [List.getElem?_take, if_pos hi, List.getElem?_eq_getElem hic] at h1
   exact h1
  exact ⟨_, w, γ, by simp [execOp, ho, hp, zhg hT hcell], Tr.refl _ _ _ _, hr, fun b hb => by cases hb⟩
theorem zAL {P : Program} {o : Oper} {f : FuncId} {args : List Operand} {ts : Array TypeId} {α : Type} {r : Rp α} {e ℓ : Nat} {C : List Nat} {xs ys : List α} {ins' tns : List AV} {y : Operand} (zs : List AV) (D : List Nat)
  (ho : o.op = .call ⟨.value (.func f), (y :: args).toArray, ts⟩) (hc : ∀ us w, (callFunc f us).run P w = .ok (.enter f us) w) (ok : zkj P f (.own r e 2 [0] xs :: ins') [.own r e 2 [0] ys] tns)
  (hin : zs.map (inW [(ℓ, 2)]) = ins') (hlen : zs.length = args.length) (hD : ((zjr (.own r e ℓ C xs :: zs)).all fun a => subN (ziH [(ℓ, 2)] a) D) = true) (hℓ : memN ℓ D = false) (hz : zqa [(ℓ, 2)] (zjr zs) = []) :
  zL P o ((y, .own r e ℓ C xs) :: args.zip zs) [] [ℓ] [ℓ] (.own r e ℓ D ys) [] := by
 intro γ a w hi hb next Q hk
 have hvs : AV.relL γ w (.own r e ℓ C xs :: zs) ((y :: args).map a.eval) := zoq (args := y :: args) (by simpa using hlen) hi
 obtain ⟨vs, hvse⟩ : ∃ vs, vs = (y :: args).map a.eval := ⟨_, rfl⟩
 rw [← hvse] at hvs
 have hf2 : zgg [(ℓ, 2)] ℓ = some 2 := by simp [zgg]
 have b3 : zik ([(ℓ, 2)].map (·.1)) D = true := by simp [zik, hℓ]
 have hpb : ∀ q ∈ [(ℓ, 2)], zmO [(ℓ, 2)] q.2 = some q.1 := fun q hq => by
  simp only [List.mem_cons, List.not_mem_nil, or_false] at hq; subst hq; simp [zmO]
 have h2 : ∀ q ∈ [(ℓ, 2)], 2 ≤ q.2 := fun q hq => by
  simp only [List.mem_cons, List.not_mem_nil, or_false] at hq; subst hq; exact Nat.le_refl _
 simp only [List.all_eq_true] at hD
 have hx : (AV.own r e ℓ C xs).rel γ w (a.eval y) := hi (y, .own r e ℓ C xs) List.mem_cons_self
 have hin' : AV.relL (ghW γ D [(ℓ, 2)] fun b => (a.eval y).ownBlock = some b) w (.own r e 2 [0] xs :: ins') vs := by
  have h := zuR (S := fun b => (a.eval y).ownBlock = some b) b3 hpb h2 hvs (fun x hx c hc => zbi (hD x hx) c hc) (fun q hq ℓ' hℓ' b hb => ?_)
  ·rw [List.map_cons, hin, show inW [(ℓ, 2)] (AV.own r e ℓ C xs) = .own r e 2 [0] xs by simp [inW, inW1, hf2]] at h
   exact h
  ·rw [hvse, List.map_cons, zjr, zpL] at hq
   have e1 : zoV (AV.own r e ℓ C xs) = [AV.own r e ℓ C xs] := rfl
   have e2 : zkn (AV.own r e ℓ C xs) (a.eval y) = [a.eval y] := rfl
   rw [e1, e2, List.singleton_append, List.singleton_append, List.zip_cons_cons] at hq
   rcases List.mem_cons.1 hq with rfl | hq
   ·rcases ziK hx with ⟨hv, _⟩ | ⟨g, cap, hv, _⟩
    ·simp only [hv] at hb; cases hb
    ·simp only [hv] at hb ⊢; exact hb
   ·have := zoo hq hℓ'
    rw [hz] at this; cases this
 have hrun : (execOp a.eval o).run P w = .ok (.enter f vs.toArray) w := by rw [hvse]; simp [execOp, ho, resolve, Act.eval, Deferred.ofValue, invoke, hc]
 unfold Oper.wp
 rw [hrun, Oper.upon_enter]
 refine (ok w _ _ hin').mono fun e1 w' hR => ?_
 obtain ⟨γc, us, rfl, ⟨⟨x1, x2, x3, x4⟩, x5, x6, x7⟩, hr, _⟩ := hR
 obtain ⟨v, r', hu, hv, hr'⟩ := hr
 cases hr'
 subst hu
 have hp2 : ([(ℓ, 2)].all fun q => Nat.ble 2 q.2) = true := rfl
 have hS : ∀ b, b < w.heap.size → ¬ (ghW γ D [(ℓ, 2)] fun b => (a.eval y).ownBlock = some b).col b < 2 → γ.col b = ℓ := fun b hb hn => by
  obtain ⟨_, k, hk⟩ := zuP (Nat.le_of_not_lt hn)
  have := zgs hk
  simp only [List.mem_cons, List.not_mem_nil, or_false, Prod.mk.injEq] at this
  exact this.1
 have hl2 : ℓ ∉ D := fun h => by rw [zcf.2 h] at hℓ; cases hℓ
 obtain ⟨cs, hown, hg, hA, hn2⟩ := hv
 let γ' : Gh := ⟨fun b => if b < w.heap.size then γ.col b else if γc.col b = 2 then ℓ else 1, fun l => if l = ℓ then γc.box 2 else γ.box l⟩
 refine hk γ' w' v ⟨x1, x2, x3, x4, fun b hb hn => ?_, fun b hb => ?_, fun l hl => ?_, fun b k1 k2 h0 => ?_⟩ ⟨cs, hown, fun g hgb => ?_, ?_, hl2⟩ (fun b hb => by cases hb)
 ·by_cases h : (ghW γ D [(ℓ, 2)] fun b => (a.eval y).ownBlock = some b).col b < 2
  ·exact (x5 b hb h).2
  ·exact absurd (by rw [hS b hb h]; exact List.mem_cons_self) hn
 ·show (if b < w.heap.size then γ.col b else _) = _
  rw [if_pos hb]
 ·show (if l = ℓ then γc.box 2 else γ.box l) = _
  rw [if_neg (fun e => hl (by rw [e]; exact List.mem_cons_self))]
 ·have h0' : (if b < w.heap.size then γ.col b else if γc.col b = 2 then ℓ else 1) = 0 := h0
  rw [if_neg (Nat.not_lt.2 k1)] at h0'
  split at h0'
  ·exact .inl (by rw [h0']; exact List.mem_cons_self)
  ·cases h0'
 ·obtain ⟨g1, g2⟩ := hg g hgb
  refine ⟨?_, ?_⟩
  ·show (if g < w.heap.size then γ.col g else if γc.col g = 2 then ℓ else 1) = ℓ
   by_cases hlt : g < w.heap.size
   ·rw [if_pos hlt]
    by_cases h : (ghW γ D [(ℓ, 2)] fun b => (a.eval y).ownBlock = some b).col g < 2
    ·have := (x5 g hlt h).1
     omega
    ·exact hS g hlt h
   ·rw [if_neg hlt, if_pos g1]
  ·show (if ℓ = ℓ then γc.box 2 else γ.box ℓ) = g
   rw [if_pos rfl]; exact g2
 ·refine hA.mono fun b hlt hb => ?_
  have hb0 : γc.col b = 0 := by
   have : γc.col b ∈ [0] := hb
   simpa using this
  show γ'.col b ∈ D
  show (if b < w.heap.size then γ.col b else if γc.col b = 2 then ℓ else 1) ∈ D
  by_cases hlt' : b < w.heap.size
  ·rw [if_pos hlt']
   by_cases h : (ghW γ D [(ℓ, 2)] fun b => (a.eval y).ownBlock = some b).col b < 2
   ·exact zvW (p := [(ℓ, 2)]) (S := fun b => (a.eval y).ownBlock = some b) hp2 (by rw [← (x5 b hlt' h).1]; exact hb0)
   ·have := x6 b hlt' (Nat.le_of_not_lt h)
    omega
  ·exact absurd hb0 (x7 b (Nat.le_of_not_lt hlt') hlt)
end Go.Proofs.YtglkepeofhonlaaGreatDoor
namespace Go.Proofs.YtglkepeofhonlaaGreatDoor
open Go Go.RowKit
set_option linter.unusedVariables false
set_option linter.unusedSectionVars false
def KpOk (ins : List AV) (E : Env) (keep : List Nat) : List (Nat × Nat) → Prop
 | [] => True
 | q :: l => (memN q.1 keep = true ∧ ins[q.1]? = some (.ptr q.2 0) ∧ lookup E.sl q.1 = some (.ptr q.2 0)) ∧ KpOk ins E keep l
theorem KpOk.at {ins : List AV} {E : Env} {keep : List Nat} : ∀ {l : List (Nat × Nat)}, KpOk ins E keep l → ∀ q ∈ l, memN q.1 keep = true ∧ ins[q.1]? = some (.ptr q.2 0) ∧ lookup E.sl q.1 = some (.ptr q.2 0)
 | [], _, q, hq => by cases hq
 | p :: l, h, q, hq => by
  cases hq with
  | head => exact h.1
  | tail _ hq => exact KpOk.at h.2 q hq
theorem Bxs.regh {γ γ' : Gh} {w : World} {bs : List Bx} (h : ∀ b, b < w.heap.size → γ'.col b = γ.col b) (hb : ∀ ℓ, γ'.box ℓ = γ.box ℓ) (hr : Bxs γ w bs) : Bxs γ' w bs := by
 intro b hm
 obtain ⟨h1, cs, hh, hL, h1c⟩ := hr b hm
 have hlt := (Array.getElem?_eq_some_iff.1 hh).1
 exact ⟨by rw [hb, h _ hlt]; exact h1, cs, by rw [hb]; exact hh, AV.reghL _ (fun b hb _ => h b hb) (fun ℓ _ => hb ℓ) hL, h1c⟩
structure zDq (γ γc : Gh) (n : Nat) (D : List Nat) (p : List (Nat × Nat)) (ks : List Nat) (w' : World) : Prop where
 old : ∀ b, b < n → (γc.col b = 0 ∧ γ.F D b) ∨ γc.col b = 1 ∨ (2 ≤ γc.col b ∧ zmO p (γc.col b) = some (γ.col b))
 new : ∀ b, n ≤ b → b < w'.heap.size → γc.col b ≠ 0
 box : ∀ k ∈ ks, ∀ ℓ, zmO p k = some ℓ → γc.box k = γ.box ℓ
section
end
end Go.Proofs.YtglkepeofhonlaaGreatDoor
namespace Go.Proofs.YtglkepeofhonlaaGreatDoor
open Go Go.RowKit
set_option linter.unusedVariables false
set_option linter.unusedSectionVars false
structure ArT (P : Program) (t e : TypeId) (n : Nat) (zl : List LV) : Prop where
 u : P.underlying t = some (.array n e)
 sz : ∀ w, (sizeOf e).run P w = .ok 1 w
 ex : ∃ z, (∀ w, (zeroValue t).run P w = .ok z w) ∧ zokL zl z.cells.toList = true
def arB (P : Program) (t : TypeId) (zl : List LV) : Bool := match P.info? t with
 | some i => match i.zero with
  | some z => zokL zl z.cells.toList
  | none => false
 | none => false
theorem ArT.ofB {P : Program} {t e : TypeId} {n : Nat} {zl : List LV} (hu : P.underlying t = some (.array n e)) (hs : ∀ w, (sizeOf e).run P w = .ok 1 w) (h : arB P t zl = true) : ArT P t e n zl := by
 unfold arB at h
 split at h
 ·rename_i i hi
  split at h
  ·rename_i z hz
   exact ⟨hu, hs, z, fun w => by simp [zeroValue, typeInfo, hi, hz], h⟩
  ·cases h
 ·cases h
theorem zug {P : Program} {o : Oper} {α : Type} {r : Rp α} {t e n : Nat} {parts : List (Nat × Operand)} {zl : List LV} (as : List AV) (C : List Nat) (x : α)
  (ho : o.op = .build t parts.toArray) (hT : ArT P t e n zl) (hC : subN (AV.colsL as) C = true) (hf : zvR (fun i => some (i * 1, 1)) zl parts as = some (r.lv x)) :
  zL P o ((parts.map (·.2)).zip as) [] [] [] (.rc r C x) [] := by
 refine zR fun γ ev w hi _ => ?_
 obtain ⟨ps, hp, hf⟩ := zoU hf
 obtain ⟨z, hz, hzo⟩ := hT.ex
 obtain ⟨g1, g2⟩ := zkY parts as ps hp hi hC
 obtain ⟨cells', hfill, hA⟩ := zoa ps _ zl z.cells _ hf (zqz hzo _ w) g1 g2
 refine ⟨.agg cells', w, γ, ?_, Tr.refl _ _ _ _, ⟨cells'.toList, by simp, hA⟩, fun b hb => by cases hb⟩
 simp only [execOp, ho, Instr.build, Sem.run_bind, hz, run_underlying hT.u, Result.andThen_ok, hT.sz, List.map_toArray]
 have e : (List.map (fun (x : Nat × Operand) => (x.1, ev x.2)) parts) = parts.map fun p => (p.1, ev p.2) := rfl
 simp only [hfill, Sem.run_pure, Result.andThen_ok]
def zmJ (P : Program) (e : TypeId) (ls : List LV) : Bool := P.plainKey e && ls.all fun l => zmk (P.underlying e) l
theorem zrl {P : Program} {e : TypeId} {ls : List LV} (h : zmJ P e ls = true) : ls.all LV.plain = true ∧ ∀ l ∈ ls, ∀ v, l ≠ .val v := by
 simp only [zmJ, Bool.and_eq_true, List.all_eq_true] at h
 have key : ∀ l ∈ ls, l.plain = true ∧ ∀ v, l ≠ .val v := fun l hl => by
  have hk := h.2 l hl
  unfold zmk at hk
  split at hk <;> first | exact ⟨rfl, nofun⟩ | cases hk
 exact ⟨List.all_eq_true.2 fun l hl => (key l hl).1, fun l hl => (key l hl).2⟩
section
variable {P : Program} {t e n : Nat} {zl : List LV}
theorem znS {xs : Array Value} {ls : List LV} (hs : ∀ w, (sizeOf e).run P w = .ok 1 w) (h : zmJ P e ls = true) (hx : xs = (ls.map zbY).toArray) (em : Bool) (k : Nat) (w : World) : ∀ (is : List Nat), (∀ i ∈ is, i < ls.length) →
  (forIn (m := Sem) is PUnit.unit fun i _ => (do let sz ← sizeOf e; let p ← part e xs (i * sz); Instr.checkKey em (k + 1) e p; pure (ForInStep.yield PUnit.unit))).run P w = .ok PUnit.unit w
 | [], _ => rfl
 | i :: is, hi => by
  have h' := h
  simp only [zmJ, Bool.and_eq_true, List.all_eq_true] at h'
  have hlt := hi i List.mem_cons_self
  have a4 := h'.2 _ (List.getElem_mem hlt)
  have p1 := run_part_plain h'.1 (xs := xs) (off := i * 1) (v := zbY ls[i]) (w := w) (by rw [hx]; simp [hlt])
  have hc : (Instr.checkKey em (k + 1) e (zbY ls[i])).run P w = .ok () w := by
   generalize hu : P.underlying e = u at a4
   unfold zmk at a4
   split at a4 <;> first | (rename_i heq; rw [heq]; exact zgH hu rfl em k _ w) | (exact zgH hu rfl em k _ w) | cases a4
  have ih := znS hs h hx em k w is (fun j hj => hi j (List.mem_cons_of_mem _ hj))
  simp only [List.forIn_cons, Sem.run_bind, hs, p1, hc, Result.andThen_ok, Sem.run_pure]
  exact ih
theorem zpo {ls : List LV} (hu : P.underlying t = some (.array n e)) (hs : ∀ w, (sizeOf e).run P w = .ok 1 w) (h : zmJ P e ls = true) (hl : ls.length = n) (em : Bool) (k : Nat) (w : World) :
  (Instr.checkKey em (k + 1 + 1) t (.agg (ls.map zbY).toArray)).run P w = .ok () w := by
 rw [Instr.checkKey]
 simp only [Sem.run_bind, run_underlying hu, Result.andThen_ok]
 simp only [Std.Legacy.Range.forIn_eq_forIn_range', Std.Legacy.Range.size, Nat.sub_zero, Nat.add_one_sub_one, Nat.div_one]
 have := znS hs h rfl em k w (List.range' 0 n) (fun i hi => by rw [hl]; simp at hi; omega)
 rw [this]
 rfl
theorem zvP {xs ys : Array Value} {ls ms : List LV} (hk : P.plainKey e = true) (h1 : zmJ P e ls = true) (h2 : zmJ P e ms = true) (hx : xs = (ls.map zbY).toArray) (hy : ys = (ms.map zbY).toArray) (hl : ls.length = ms.length) (d : Nat) (w : World) : ∀ (c i : Nat), i + c = ls.length →
  (Op.eqItems (d + 1) e 1 xs ys (List.range' i c)).run P w = .ok (eqL (ls.drop i) (ms.drop i)) w := by
 intro c
 induction c with
 | zero =>
  intro i hi
  rw [List.drop_of_length_le (by omega), List.drop_of_length_le (by omega)]
  rfl
 | succ c ih =>
  intro i hi
  have hlt : i < ls.length := by omega
  have hlt2 : i < ms.length := by omega
  simp only [zmJ, Bool.and_eq_true, List.all_eq_true] at h1 h2
  have p1 := run_part_plain h1.1 (xs := xs) (off := i * 1) (v := zbY ls[i]) (w := w) (by rw [hx]; simp [hlt])
  have p2 := run_part_plain h1.1 (xs := ys) (off := i * 1) (v := zbY ms[i]) (w := w) (by rw [hy]; simp [hlt2])
  have hq := zyE (h1.2 _ (List.getElem_mem hlt)) (h2.2 _ (List.getElem_mem hlt2)) d w
  rw [List.range'_succ, List.drop_eq_getElem_cons hlt, List.drop_eq_getElem_cons hlt2]
  simp only [Op.eqItems, Sem.run_bind, p1, p2, hq, Result.andThen_ok, eqL]
  cases hc : leq ls[i] ms[i] with
  | false => rfl
  | true => simpa using ih (i + 1) (by omega)
theorem eqTr {ls ms : List LV} {b : Bool} {i : TypeInfo} (hu : P.underlying t = some (.array n e)) (hi : P.info? t = P.info? t ∧ P.info? e = some i) (hc : P.cellsOf e = 1) (h1 : zmJ P e ls = true) (h2 : zmJ P e ms = true) (k1 : ls.length = n) (k2 : ms.length = n) (he : eqL ls ms = b) :
  ∀ w, (Op.equalIn 10000 t (.agg (ls.map zbY).toArray) (.agg (ms.map zbY).toArray)).run P w = .ok b w := fun w => by
 have hk : P.plainKey e = true := by
  simp only [zmJ, Bool.and_eq_true] at h1; exact h1.1
 rw [run_equalIn_array (w := w) 9999 _ _ hu hi.2, hc, List.range_eq_range', zvP hk h1 h2 rfl rfl (by omega) 9998 w n 0 (by omega), List.drop_zero, List.drop_zero, he]
theorem zAw {κ : Type} [DecidableEq κ] {r : Rp κ} (hu : P.underlying t = some (.array n e)) (hs : ∀ w, (sizeOf e).run P w = .ok 1 w) (hi' : (P.info? e).isSome = true) (hc : P.cellsOf e = 1) (hr : r.agg = true) (hsz : r.size = n) (hf : ∀ x, zmJ P e (r.lv x) = true)
  (he : ∀ a b, eqL (r.lv a) (r.lv b) = decide (a = b)) : KeyT P t r := by
 obtain ⟨i, hi⟩ := Option.isSome_iff_exists.1 hi'
 have hv : ∀ {F : Fp} {w : World} {x : κ} {v : Value}, VRel F w r x v → v = .agg ((r.lv x).map zbY).toArray := fun {F w x v} h => ztr hr (zrl (hf x)).1 h
 have hlen : ∀ x, (r.lv x).length = n := fun x => by rw [r.len, hsz]
 refine ⟨fun w e' F x v h => ?_, fun w F F' x v ν rv m es h hes => ?_, fun w F F' x v v' h h' => ?_⟩
 ·rw [hv h]; exact zpo hu hs (hf x) (hlen x) e' 9998 w
 ·rw [hv h]
  cases hes with
  | nil => simp [Instr.findKey, run_underlying hu, Instr.findNow, zkR]
  | cons h1 h2 h3 =>
   have hq : ∀ (b : κ) (u : Value), VRel F' w r b u → (Op.equal t (.agg ((r.lv x).map zbY).toArray) u).run P w = .ok (decide (x = b)) w := fun b u hu' => by
    rw [hv hu']
    exact eqTr hu ⟨rfl, hi⟩ hc (hf x) (hf b) (hlen x) (hlen b) (he x b) w
   have := zrk hq (.cons h1 h2 h3) 0
   simp only [Instr.findKey, Sem.run_bind, run_underlying hu, Result.andThen_ok, Instr.findNow, Instr.sameNow]
   exact this
 ·rw [hv h, hv h']
  obtain ⟨p1, p2⟩ := zrl (hf x)
  show Instr.sameBits (9999 + 1) _ _ = true
  simp only [Instr.sameBits, BEq.rfl, Bool.true_and, List.all_eq_true]
  intro p hp'
  have hz : ∀ (l : List Value) (q : Value × Value), q ∈ l.zip l → q.1 = q.2 ∧ q.1 ∈ l := by
   intro l
   induction l with
   | nil => intro q hq; cases hq
   | cons a l ih =>
    intro q hq
    cases hq with
    | head => exact ⟨rfl, List.mem_cons_self⟩
    | tail _ hq => exact ⟨(ih q hq).1, List.mem_cons_of_mem _ (ih q hq).2⟩
  obtain ⟨e1, e2⟩ := hz _ p hp'
  obtain ⟨l, hl, e3⟩ := List.mem_map.1 (by simpa using e2)
  obtain ⟨pa, pb⟩ := p
  simp only at e1 e3 ⊢
  subst e1
  rw [← e3]
  exact zlu _ (by simp only [List.all_eq_true] at p1; exact p1 l hl) (p2 l hl)
end
end Go.Proofs.YtglkepeofhonlaaGreatDoor
namespace Go.Proofs.YtglkepeofhonlaaGreatDoor
open Go Go.RowKit
def zrQ : List LV → Option (List AV)
 | [] => some []
 | l :: ls => match l.plain, zrQ ls with
  | true, some r => some (.lf l :: r)
  | _, _ => none
theorem zmA {C : List Nat} : ∀ {ls : List LV} {as : List AV}, zrQ ls = some as → zhj as = some ls ∧ as.all (zpR C) = true
 | [], as, h => by cases h; exact ⟨rfl, rfl⟩
 | l :: ls, as, h => by
  rw [zrQ] at h
  split at h
  ·rename_i r h1 h2
   cases h
   obtain ⟨g1, g2⟩ := zmA (C := C) h2
   exact ⟨by simp only [zhj, AV.toLV, g1], by simp only [List.all_cons, zpR, h1, g2]; rfl⟩
  ·cases h
def zsd : AV → Option (List AV)
 | .ag l => some l
 | .rc r _ x => zrQ (r.lv x)
 | a => match zml a with
  | true => some [a]
  | false => none
def zAVs : List Value → Option (List AV)
 | [] => some []
 | v :: l => match zpG v, zAVs l with
  | some a, some r => some (a :: r)
  | _, _ => none
theorem zuC {γ : Gh} {w : World} : ∀ {vs : List Value} {as : List AV}, zAVs vs = some as → AV.relL γ w as vs ∧ ∀ u ∈ vs, u.oneCell' = true
 | [], as, h => by cases h; exact ⟨rfl, fun u hu => by cases hu⟩
 | v :: vs, as, h => by
  rw [zAVs] at h
  split at h
  ·rename_i a r h1 h2
   cases h
   obtain ⟨g1, g2⟩ := zuC (γ := γ) (w := w) h2
   have hr := znk h1 γ w
   have h1c : v.oneCell' = true := by
    unfold zpG at h1
    split at h1 <;> first | rfl | cases h1
   exact ⟨⟨v, vs, rfl, hr, g1⟩, fun u hu => by
    cases hu with
    | head => exact h1c
    | tail _ hu => exact g2 u hu⟩
  ·cases h
section
variable {P : Program} {o : Oper} {t : TypeId} {i : TypeInfo}
theorem zqq (h : P.info? t = some i) (w : World) : (sizeOf t).run P w = .ok i.size w := by simp [sizeOf, typeInfo, h]
theorem zzj (ℓ : Nat) {z : Value} {as : List AV} (ho : o.op = .alloc t) (hi : P.info? t = some i) (hz : i.zero = some z) (hs : zAVs z.cells.toList = some as) : zL P o [] [] [] [ℓ] (.ptr ℓ 0) [⟨ℓ, t, as⟩] := by
 have hzv : ∀ w, (zeroValue t).run P w = .ok z w := fun w => by simp [zeroValue, typeInfo, hi, hz]
 refine zR fun γ ev w _ _ => ?_
 refine ⟨.pointer (some ⟨w.heap.size, 0, none⟩), w.alloc (.cells z.cells t), _, ?_, zpw γ w ℓ _, ?_, fun b hb => ?_⟩
 ·simp [execOp, ho, Instr.alloc, Sem.run_bind, hzv, newVar, newRow]
 ·show _ = _
  rw [zfe]
 ·simp only [List.mem_cons, List.not_mem_nil, or_false] at hb
  subst hb
  have h := zuC (γ := zdM γ w.heap.size ℓ w.heap.size) (w := w.alloc (.cells z.cells t)) hs
  refine ⟨by rw [zfe, zlE], z.cells.toList, ?_, h.1, h.2⟩
  rw [zfe, Array.toArray_toList]
  exact heap_alloc_new w _
theorem zzl {y z : Operand} {b : Bx} {off : Nat} {a : AV} {l : List AV} (hl : zsd a = some l) (ho : o.op = .store t y z) (hi : P.info? t = some i) (hn : Nat.beq l.length i.size = true) (hoff : Nat.ble (off + i.size) b.avs.length = true) (hf : AV.free [b.lab] [] (.ag l) = true) :
  zL P o [(y, .ptr b.lab off), (z, a)] [b] [b.lab] [] .any [⟨b.lab, b.typ, (b.avs.map (AV.clear [b.lab] [])).take off ++ l ++ (b.avs.map (AV.clear [b.lab] [])).drop (off + i.size)⟩] := by
 have hag := zom (P := P) (o := o) (off := off) (b := b) l ho (fun w => zqq hi w) hn hoff hf
 unfold zsd at hl
 split at hl
 ·cases hl; exact hag
 ·rename_i r C x
  obtain ⟨g1, g2⟩ := zmA (C := C) hl
  exact hag.le ⟨⟨rfl, AV.le_refl _⟩, ⟨rfl, zBP r C x l g1 g2⟩, trivial⟩
 ·split at hl
  ·rename_i h1
   cases hl
   have hs1 : i.size = 1 := (Nat.eq_of_beq_eq_true hn).symm
   rw [hs1] at hoff ⊢
   have hlt : off < b.avs.length := Nat.lt_of_succ_le (Nat.le_of_ble_eq_true hoff)
   have hf' : a.free [b.lab] [] = true := by simpa [AV.free, AV.cols, AV.colsL, AV.labs, AV.labsL] using hf
   have h := zCF (P := P) (o := o) (off := off) (b := b) ho (fun w => by rw [zqq hi w, hs1]) (Nat.ble_eq_true_of_le hlt) h1 hf'
   rw [List.set_eq_take_append_cons_drop, if_pos (by simpa using hlt)] at h
   simpa using h
  ·cases hl
end
def zuJ (P : Program) (E : Env) (o : Oper) (ℓ : Nat) : Option (List (Operand × AV) × List Bx × List Nat × List Nat × AV × List Bx) :=
 match o.op with
 | .alloc t => match P.info? t with
  | some i => match i.zero with
   | some z => match zAVs z.cells.toList with
    | some as => some ([], [], [], [ℓ], .ptr ℓ 0, [⟨ℓ, t, as⟩])
    | none => none
   | none => none
  | none => none
 | .box t x => match E.opd x with
  | some (.ag l) => match AV.free [] [ℓ] (.ag l) with
   | true => some ([(x, .ag l)], [], [], [ℓ], .ptr ℓ 0, [⟨ℓ, t, l⟩])
   | false => none
  | some a => match zsd a, znM a with
   | some as, some _ => match zhj as with
    | some _ => match as.all (zpR a.cols) with
     | true => some ([(x, a)], [], [], [ℓ], .ptr ℓ 0, [⟨ℓ, t, as⟩])
     | false => none
    | none => none
   | _, _ => none
  | none => none
 | .store t y z => match E.opd y, E.opd z, P.info? t with
  | some (.ptr k off), some a, some i => match zgC E.bx k, zsd a with
   | some b, some l => match Nat.beq l.length i.size && Nat.ble (off + i.size) b.avs.length && AV.free [b.lab] [] (.ag l) with
    | true => some ([(y, .ptr b.lab off), (z, a)], [b], [b.lab], [], .any, [⟨b.lab, b.typ, (b.avs.map (AV.clear [b.lab] [])).take off ++ l ++ (b.avs.map (AV.clear [b.lab] [])).drop (off + i.size)⟩])
    | false => none
   | _, _ => none
  | _, _, _ => none
 | .load t y => match E.opd y, P.underlying t, P.info? t with
  | some (.ptr k off), some (.struct _), some i => match zgC E.bx k with
   | some b => match Nat.beq ((b.avs.drop off).take i.size).length i.size with
    | true => some ([(y, .ptr b.lab off)], [b], [], [], .ag ((b.avs.drop off).take i.size), [])
    | false => none
   | none => none
  | _, _, _ => none
 | _ => none
theorem zux (C : List Nat) : subN C C = true := by
 simp only [subN, List.all_eq_true]
 exact fun c hc => zcf.2 hc
theorem zzv {a : AV} {ls ls' : List LV} (h1 : zml a = true) (hp : znM a = some ls) (ht : zhj [a] = some ls') : zhj [a] = some ls := by
 cases a <;> simp_all [zml, znM, zhj, AV.toLV]
theorem zxi {P : Program} {E : Env} {o : Oper} {ℓ : Nat} {ins : List (Operand × AV)} {bxs : List Bx} {W V : List Nat} {av : AV} {bs : List Bx} (h : zuJ P E o ℓ = some (ins, bxs, W, V, av, bs)) :
  zL P o ins bxs W V av bs ∧ zng E ins ∧ ztH E bxs := by
 unfold zuJ at h
 split at h
 ·rename_i t ho
  split at h
  ·rename_i i hi
   split at h
   ·rename_i z hz
    split at h
    ·rename_i as hs
     simp only [Option.some.injEq, Prod.mk.injEq] at h
     obtain ⟨rfl, rfl, rfl, rfl, rfl, rfl⟩ := h
     exact ⟨zzj ℓ ho hi hz hs, trivial, trivial⟩
    ·cases h
   ·cases h
  ·cases h
 ·rename_i t x ho
  split at h
  ·rename_i l hl
   split at h
   ·rename_i hf
    simp only [Option.some.injEq, Prod.mk.injEq] at h
    obtain ⟨rfl, rfl, rfl, rfl, rfl, rfl⟩ := h
    exact ⟨zBR ℓ ho hf, ⟨hl, trivial⟩, trivial⟩
   ·cases h
  ·rename_i a _ ha
   split at h
   ·rename_i as ls hc hp
    split at h
    ·rename_i ls' ht
     split at h
     ·rename_i hl
      simp only [Option.some.injEq, Prod.mk.injEq] at h
      obtain ⟨rfl, rfl, rfl, rfl, rfl, rfl⟩ := h
      refine ⟨zgW ℓ as a.cols ho hp (zux _) ?_ hl, ⟨ha, trivial⟩, trivial⟩
      unfold zsd at hc
      split at hc
      ·cases hc; exact hp
      ·rename_i r C y _
       cases hp
       exact (zmA (C := C) hc).1
      ·split at hc
       ·cases hc
        rename_i h1
        exact zzv h1 hp ht
       ·cases hc
     ·cases h
    ·cases h
   ·cases h
  ·cases h
 ·rename_i t y z ho
  split at h
  ·rename_i k off a i hy hz hi
   split at h
   ·rename_i b l hb hc
    split at h
    ·rename_i hk
     simp only [Bool.and_eq_true] at hk
     simp only [Option.some.injEq, Prod.mk.injEq] at h
     obtain ⟨rfl, rfl, rfl, rfl, rfl, rfl⟩ := h
     have e := (zdY hb).2
     refine ⟨zzl hc ho hi hk.1.1 hk.1.2 hk.2, ⟨by rw [e]; exact hy, hz, trivial⟩, ?_⟩
     refine ⟨?_, trivial⟩
     rw [e]; exact hb
    ·cases h
   ·cases h
  ·cases h
 ·rename_i t y ho
  split at h
  ·rename_i k off fs i hy hu hi
   split at h
   ·rename_i b hb
    split at h
    ·rename_i hk
     simp only [Option.some.injEq, Prod.mk.injEq] at h
     obtain ⟨rfl, rfl, rfl, rfl, rfl, rfl⟩ := h
     have e := (zdY hb).2
     refine ⟨zdm _ ho ⟨fun w => by simp [isAgg, run_underlying hu], fun w => zqq hi w⟩ rfl hk, ⟨by rw [e]; exact hy, trivial⟩, ?_⟩
     refine ⟨?_, trivial⟩
     rw [e]; exact hb
    ·cases h
   ·cases h
  ·cases h
 ·cases h
def zCY : List Nat → Nat
 | [] => 0
 | x :: _ => x
def zDk : List Nat → List Nat → List Nat
 | [], ls => ls
 | _ :: _, ls => ls.tail
def runX (P : Program) (N : Lim) (ops : Array Oper) : List Oper → List Nat → Env → Option Env
 | [], _, E => some E
 | o :: rest, ls, E => match zfB ops E o with
  | some true => match zhO N o.dst with
   | true => match zqF P E.opd E.bx o.op with
    | some av => runX P N ops rest ls ⟨zgB o.dst av E.sl, E.bx⟩
    | none => match zuJ P E o (zCY ls) with
     | some (_, _, W, V, av, bs) => match okW W && okW V with
      | true => runX P N ops rest (zDk V ls) (E.step W V o.dst av bs)
      | false => none
     | none => none
   | false => none
  | some false => match zhO N o.dst with
   | true => runX P N ops rest ls ⟨zgB o.dst (.tup []) E.sl, E.bx⟩
   | false => none
  | none => none
theorem zos {P : Program} {N : Lim} {ops : Array Oper} {E1 E' : Env} : ∀ (l : List Oper) (rest : List Oper) (ls : List Nat) (E : Env), runX P N ops l ls E = some E1 → zcd P N ops rest E1 E' → zcd P N ops (l ++ rest) E E'
 | [], rest, ls, E, h, k => by cases h; exact k
 | o :: l, rest, ls, E, h, k => by
  rw [runX] at h
  split at h
  ·rename_i hg
   split at h
   ·rename_i hd
    split at h
    ·rename_i av he
     intro cx a w Q hn hs hQ
     obtain ⟨γ, hB, hS, hX⟩ := hs
     obtain ⟨v, hr, hv⟩ := zmi he (γ := γ) (w := w) (ev := a.eval) (fun x _ av hx => Env.opd_rel hx hS) hX
     rw [List.cons_append]
     refine zhN (zeA hg hS) (zkg hr ?_)
     exact zos l rest ls _ h k cx _ _ Q hn ⟨γ, hB.put _ _ (by rw [hn]; exact zdQ hd), hS.put (fun k hk => by rw [hB.size, hn]; exact zgc hd k hk) hv, hX⟩ hQ
    ·split at h
     ·rename_i ins bxs W V av bs hb
      split at h
      ·rename_i hW
       rw [Bool.and_eq_true] at hW
       obtain ⟨h1, h2, h3⟩ := zxi hb
       rw [List.cons_append]
       exact zrR hg h1 h2 h3 hW.1 hW.2 hd (zos l rest _ _ h k)
      ·cases h
     ·cases h
   ·cases h
  ·rename_i hg
   split at h
   ·rename_i hd
    rw [List.cons_append]
    exact zCa hg hd (zos l rest ls _ h k)
   ·cases h
  ·cases h
def zBl (P : Program) (N : Lim) (ops : Array Oper) (rest : List Oper) (n : Nat) (ls : List Nat) (o : Oper) (E : Env) (xs : List Operand) (bl W V : List Nat) (av : AV) (bs : List Bx) : Option (List AV × List Bx × Env) :=
 match runX P N ops (rest.take n) ls E with
 | some E0 => match zfB ops E0 o, okW W && okW V && zhO N o.dst, zls E0 xs, znP E0.bx bl with
  | some true, true, some as, some bxs => some (as, bxs, E0.step W V o.dst av bs)
  | _, _, _, _ => none
 | none => none
def zwR (P : Program) (N : Lim) (ops : Array Oper) (rest : List Oper) (n : Nat) (ls : List Nat) (o : Oper) (E : Env) (xs : List Operand) (bl W V : List Nat) (av : AV) (bs : List Bx) : Env :=
 match zBl P N ops rest n ls o E xs bl W V av bs with
 | some r => r.2.2
 | none => E
def zwQ (P : Program) (N : Lim) (ops : Array Oper) (rest : List Oper) (n : Nat) (ls : List Nat) (o : Oper) (E : Env) (xs : List Operand) (bl W V : List Nat) (av : AV) (bs : List Bx) : Option (List AV × List Bx) :=
 match zBl P N ops rest n ls o E xs bl W V av bs with
 | some r => some (r.1, r.2.1)
 | none => none
def endE (P : Program) (N : Lim) (ops : Array Oper) (rest : List Oper) (ls : List Nat) (E : Env) : Env := match runX P N ops rest ls E with
 | some E1 => E1
 | none => E
def endB (P : Program) (N : Lim) (ops : Array Oper) (rest : List Oper) (ls : List Nat) (E : Env) : Bool := match runX P N ops rest ls E with
 | some _ => true
 | none => false
theorem zvO {P : Program} {N : Lim} {ops : Array Oper} {rest : List Oper} {ls : List Nat} {E : Env} (h : endB P N ops rest ls E = true) : runX P N ops rest ls E = some (endE P N ops rest ls E) := by
 unfold endB at h
 unfold endE
 split at h
 ·rename_i E1 h1; rw [h1]
 ·cases h
def splC (P : Program) (N : Lim) (ops : Array Oper) (rest : List Oper) (ls : List Nat) (E : Env) (t : Nat) : Option AV := match runX P N ops rest ls E with
 | some E1 => lookup E1.sl t
 | none => none
def finC (P : Program) (N : Lim) (ops : Array Oper) (rest : List Oper) (ls : List Nat) (E : Env) (ks bs : List Nat) : Option Env := match runX P N ops rest ls E with
 | some E1 => E1.pick ks bs
 | none => none
def zAX (ks ls : List Nat) (E : Env) : Env := match E.pick ks ls with
 | some E1 => E1
 | none => E
def zAW (ks ls : List Nat) (E : Env) : Bool := match E.pick ks ls with
 | some _ => true
 | none => false
theorem zxS {ks ls : List Nat} {E : Env} (h : zAW ks ls E = true) : E.pick ks ls = some (zAX ks ls E) := by
 unfold zAW at h
 unfold zAX
 split at h
 ·rename_i E1 h1; rw [h1]
 ·cases h
section
variable {P : Program} {N : Lim} {ops : Array Oper} {rest : List Oper} {E E' E1 : Env} {o : Oper} {ins : List (Operand × AV)} {bxs : List Bx} {W V : List Nat} {av : AV} {bs : List Bx} {ls : List Nat}
theorem zlR (n : Nat) (h : runX P N ops (rest.take n) ls E = some E1) (k : zcd P N ops (rest.drop n) E1 E') : zcd P N ops rest E E' := by
 have := zos _ _ _ _ h k
 rwa [List.take_append_drop] at this
theorem rcl (n : Nat) (ls : List Nat) (ho : nthO rest n = some o) (hl : zL P o ins bxs W V av bs) (k : zcd P N ops (rest.drop (n + 1)) (zwR P N ops rest n ls o E (ins.map (·.1)) (bxs.map (·.lab)) W V av bs) E')
  (h : zwQ P N ops rest n ls o E (ins.map (·.1)) (bxs.map (·.lab)) W V av bs = some (ins.map (·.2), bxs) := by kernel_rfl) : zcd P N ops rest E E' := by
 unfold zwQ at h
 unfold zwR at k
 split at h
 ·rename_i r h0
  rw [h0] at k
  simp only [Option.some.injEq, Prod.mk.injEq] at h
  unfold zBl at h0
  split at h0
  ·rename_i E0 hE
   refine zlR n hE ?_
   rw [zop ho]
   split at h0
   ·rename_i as' bxs' h1 h2 h3 h4
    cases h0
    simp only at h k
    obtain ⟨rfl, rfl⟩ := h
    simp only [Bool.and_eq_true] at h2
    exact zrR h1 hl (zpi h3) (zsW h4) h2.1.1 h2.1.2 h2.2 k
   ·cases h0
  ·cases h0
 ·cases h
theorem rc (n : Nat) (ho : nthO rest n = some o) (hl : zL P o ins bxs W V av bs) (k : zcd P N ops (rest.drop (n + 1)) (zwR P N ops rest n [] o E (ins.map (·.1)) (bxs.map (·.lab)) W V av bs) E')
  (h : zwQ P N ops rest n [] o E (ins.map (·.1)) (bxs.map (·.lab)) W V av bs = some (ins.map (·.2), bxs) := by kernel_rfl) : zcd P N ops rest E E' := rcl n [] ho hl k h
theorem ral (n : Nat) (ls : List Nat) (as : List AV) (ho : nthO rest n = some o) (hl : zL P o ins bxs W V av bs) (ha : ins.map (·.2) = as) (k : zcd P N ops (rest.drop (n + 1)) (zwR P N ops rest n ls o E (ins.map (·.1)) (bxs.map (·.lab)) W V av bs) E')
  (h : zwQ P N ops rest n ls o E (ins.map (·.1)) (bxs.map (·.lab)) W V av bs = some (as, bxs) := by kernel_rfl) : zcd P N ops rest E E' := rcl n ls ho hl k (by rw [ha]; exact h)
theorem ra (n : Nat) (as : List AV) (ho : nthO rest n = some o) (hl : zL P o ins bxs W V av bs) (ha : ins.map (·.2) = as) (k : zcd P N ops (rest.drop (n + 1)) (zwR P N ops rest n [] o E (ins.map (·.1)) (bxs.map (·.lab)) W V av bs) E')
  (h : zwQ P N ops rest n [] o E (ins.map (·.1)) (bxs.map (·.lab)) W V av bs = some (as, bxs) := by kernel_rfl) : zcd P N ops rest E E' := ral n [] as ho hl ha k h
theorem rfl' (ls : List Nat) (h : endB P N ops rest ls E = true := by kernel_rfl) : zcd P N ops rest E (endE P N ops rest ls E) := by
 have := zos rest [] ls E (zvO h) zCJ
 rwa [List.append_nil] at this
theorem rf (h : endB P N ops rest [] E = true := by kernel_rfl) : zcd P N ops rest E (endE P N ops rest [] E) := rfl' [] h
theorem rgl (ls : List Nat) (h : finC P N ops rest ls E E'.keys E'.labs = some E' := by kernel_rfl) : zcd P N ops rest E E' := by
 unfold finC at h
 split at h
 ·rename_i E1 h1
  have := zos rest [] ls E h1 (zCI _ _ h)
  rwa [List.append_nil] at this
 ·cases h
theorem rgg (h : finC P N ops rest [] E E'.keys E'.labs = some E' := by kernel_rfl) : zcd P N ops rest E E' := rgl [] h
theorem rkl (n : Nat) (ls : List Nat) (E1 : Env) (k : zcd P N ops (rest.drop n) E1 E') (h : finC P N ops (rest.take n) ls E E1.keys E1.labs = some E1 := by kernel_rfl) : zcd P N ops rest E E' := by
 unfold finC at h
 split at h
 ·rename_i E2 h1
  exact zlR n h1 (zDl (zrK _ _ h) k)
 ·cases h
theorem rsl (n : Nat) (ls : List Nat) (t : Nat) (b : Bool) (h1 : b = true → zcd P N ops (rest.drop n) ⟨zgB (some t) (.lf (.bool true)) (endE P N ops (rest.take n) ls E).sl, (endE P N ops (rest.take n) ls E).bx⟩ E')
  (h0 : b = false → zcd P N ops (rest.drop n) ⟨zgB (some t) (.lf (.bool false)) (endE P N ops (rest.take n) ls E).sl, (endE P N ops (rest.take n) ls E).bx⟩ E')
  (h : splC P N ops (rest.take n) ls E t = some (.lf (.bool b)) := by kernel_rfl) : zcd P N ops rest E E' := by
 have hB : endB P N ops (rest.take n) ls E = true := by
  unfold splC at h
  unfold endB
  split at h
  ·rfl
  ·cases h
 have hr := zvO hB
 unfold splC at h
 rw [hr] at h
 exact zlR n hr (zBd t b h h1 h0)
theorem rbl (ls : List Nat) (t : Nat) (b b' : Bool) (hb : b = b') (hE : zCp t b' E' = E' := by kernel_rfl) (h : finC P N ops rest ls E E'.keys E'.labs = some (zCp t b E') := by kernel_rfl) : zcd P N ops rest E E' := by
 subst hb
 rw [hE] at h
 exact rgl ls h
theorem rel (ls : List Nat) (k : zdX (endE P N ops rest ls E) E') (h : endB P N ops rest ls E = true := by kernel_rfl) : zcd P N ops rest E E' := fun cx a w Q hn hs hQ => rfl' ls h cx a w Q hn hs fun a' w' hs' => hQ a' w' (k cx a' w' hs')
theorem lk (ks ls : List Nat) (x y : Nat) (k : zdX ((zAX ks ls E).ren x y) E') (h : (zAW ks ls E && (Nat.ble 2 x && Nat.ble 2 y && !spB x)) = true := by kernel_rfl) : zdX E E' := by
 rw [Bool.and_eq_true] at h
 exact (zrK _ _ (zxS h.1)).trans (zDb x y h.2 k)
theorem lzz (h : E.pick E'.keys E'.labs = some E' := by kernel_rfl) : zdX E E' := zrK _ _ h
end
def cvA : AV → AV → AV
 | .ag l, .rc r _ x => .rc r (AV.colsL l) x
 | y, _ => y
def argL : AV → AV → Option (List LV)
 | .ag l, .rc _ _ _ => zhj l
 | _, _ => none
def argR : AV → AV → Option (List LV)
 | .ag _, .rc r _ x => some (r.lv x)
 | _, _ => none
theorem zCu {y i : AV} (h : argL y i = argR y i) : AV.le y (cvA y i) := by
 cases y with
 | ag l =>
  cases i with
  | rc r C x => exact zcA r _ x l h (zux _)
  | _ => exact AV.le_refl _
 | _ => exact AV.le_refl _
def zipA {α : Type _} (f : AV → AV → α) : List AV → List AV → List α
 | x :: l, y :: m => f x y :: zipA f l m
 | _, _ => []
theorem zxc {f : AV → AV → AV} : ∀ {l m : List AV}, l.length = m.length → (zipA f l m).length = l.length
 | [], _, _ => rfl
 | x :: l, [], h => by simp at h
 | x :: l, y :: m, h => by simp [zipA, zxc (l := l) (m := m) (by simpa using h)]
theorem zyB : ∀ {args : List Operand} {ys is : List AV}, ys.length = args.length → is.length = args.length → zipA argL ys is = zipA argR ys is → leI (args.zip ys) (args.zip (zipA cvA ys is))
 | [], _, _, _, _, _ => trivial
 | x :: args, [], _, h, _, _ => by simp at h
 | x :: args, y :: ys, [], _, h, _ => by simp at h
 | x :: args, y :: ys, i :: is, h1, h2, h => by
  simp only [zipA, List.cons.injEq] at h
  exact ⟨⟨rfl, zCu h.1⟩, zyB (by simpa using h1) (by simpa using h2) h.2⟩
def zsa (P : Program) (N : Lim) (ops : Array Oper) (rest : List Oper) (n : Nat) (ls : List Nat) (f : FuncId) (ins outs : List AV) (D : List Nat) (s : Nat) (E : Env) : Option (List (Option (List LV)) × List AV × List (Option (List LV))) :=
 match nthO rest n with
 | some o => match o.op with
  | .call c => match c.callee with
   | .value (.func g) => match Nat.beq g f, runX P N ops (rest.take n) ls E with
    | true, some E0 => match zfB ops E0 o, okW (outs.flatMap (zia s)) && zhO N o.dst, zls E0 c.args.toList with
     | some true, true, some ys => match Nat.beq ys.length ins.length && ((zipA cvA ys ins).all fun a => subN (zuQ a) D) && !D.isEmpty && outs.all (zsT [1] D s) with
      | true => some (zipA argL ys ins, (zipA cvA ys ins).map inAV, zipA argR ys ins)
      | false => none
     | _, _, _ => none
    | _, _ => none
   | _ => none
  | _ => none
 | none => none
def zzX (P : Program) (N : Lim) (ops : Array Oper) (rest : List Oper) (n : Nat) (ls : List Nat) (outs : List AV) (D : List Nat) (s : Nat) (E : Env) : Env :=
 match nthO rest n, runX P N ops (rest.take n) ls E with
 | some o, some E0 => E0.step [] (outs.flatMap (zia s)) o.dst (zuu (outs.map (zrv D s))) []
 | _, _ => E
def zzY (ins : List AV) : Option (List (Option (List LV)) × List AV × List (Option (List LV))) → Option (List (Option (List LV)) × List AV × List (Option (List LV)))
 | some r => some (r.2.2, ins, r.2.2)
 | none => none
theorem zsN {E : Env} : ∀ {l : List Operand} {as : List AV}, zls E l = some as → as.length = l.length
 | [], as, h => by cases h; rfl
 | x :: l, as, h => by
  rw [zls] at h
  split at h
  ·rename_i a r h1 h2
   cases h
   simp [zsN h2]
  ·cases h
theorem zsO {E : Env} : ∀ {l : List Operand} {as : List AV}, zls E l = some as → zng E (l.zip as)
 | [], as, _ => trivial
 | x :: l, as, h => by
  rw [zls] at h
  split at h
  ·rename_i a r h1 h2
   cases h
   exact ⟨h1, zsO h2⟩
  ·cases h
section
variable {P : Program} {N : Lim} {ops : Array Oper} {rest : List Oper} {E E' : Env} {f : FuncId} {ins outs : List AV}
theorem rll (n : Nat) (ls : List Nat) (D : List Nat) (s : Nat) (hc : ∀ as w, (callFunc f as).run P w = .ok (.enter f as) w) (ok : FnOk P f ins outs) (k : zcd P N ops (rest.drop (n + 1)) (zzX P N ops rest n ls outs D s E) E')
  (h : zsa P N ops rest n ls f ins outs D s E = zzY ins (zsa P N ops rest n ls f ins outs D s E) := by kernel_rfl) (hs : (zsa P N ops rest n ls f ins outs D s E).isSome = true := by kernel_rfl) : zcd P N ops rest E E' := by
 obtain ⟨⟨q1, q2, q3⟩, hq⟩ := Option.isSome_iff_exists.1 hs
 rw [hq] at h
 simp only [zzY, Option.some.injEq, Prod.mk.injEq, and_true] at h
 rw [h.1, h.2] at hq
 unfold zsa at hq
 split at hq
 ·rename_i o ho
  unfold zzX at k
  rw [ho] at k
  split at hq
  ·rename_i c hop
   split at hq
   ·rename_i g hcal
    split at hq
    ·rename_i E0 hg hE
     rw [hE] at k
     have hgf := Nat.eq_of_beq_eq_true hg
     refine zlR n hE ?_
     rw [zop ho]
     split at hq
     ·rename_i ys h1 h2 h3
      split at hq
      ·rename_i hk
       simp only [Bool.and_eq_true, Bool.not_eq_true'] at hk h2
       simp only [Option.some.injEq, Prod.mk.injEq] at hq
       obtain ⟨e1, e2, e3⟩ := hq
       have hlen := Nat.eq_of_beq_eq_true hk.1.1.1
       have hl := zsN h3
       have hop' : o.op = .call ⟨.value (.func f), c.args.toList.toArray, c.argTypes⟩ := by
        rw [hop]
        obtain ⟨cal, args, ts⟩ := c
        simp only at hcal
        subst hcal hgf
        simp
       have hlaw := zac (zipA cvA ys ins) D s hop' hc ok e2 (by rw [zxc hlen]; exact hl) hk.1.1.2 hk.1.2 hk.2
       refine zrR h1 (hlaw.le (zyB hl (by rw [← hlen]; exact hl) (e1.trans e3.symm))) (zsO h3) trivial rfl h2.1 h2.2 k
      ·cases hq
     ·cases hq
    ·cases hq
   ·cases hq
  ·cases hq
 ·cases hq
theorem rl (n : Nat) (D : List Nat) (s : Nat) (hc : ∀ as w, (callFunc f as).run P w = .ok (.enter f as) w) (ok : FnOk P f ins outs) (k : zcd P N ops (rest.drop (n + 1)) (zzX P N ops rest n [] outs D s E) E')
  (h : zsa P N ops rest n [] f ins outs D s E = zzY ins (zsa P N ops rest n [] f ins outs D s E) := by kernel_rfl) (hs : (zsa P N ops rest n [] f ins outs D s E).isSome = true := by kernel_rfl) : zcd P N ops rest E E' := rll n [] D s hc ok k h hs
end
def isAg : TypeDesc → Bool
 | .struct _ => true
 | .array _ _ => true
 | _ => false
theorem zzc {P : Program} {t : TypeId} {d : TypeDesc} (h : P.underlying t = some d) (hd : isAg d = true) (w : World) : (isAgg t).run P w = .ok true w := by
 cases d <;> first | (cases hd; done) | simp [isAgg, run_underlying h]
def ldC (P : Program) (N : Lim) (ops : Array Oper) (rest : List Oper) (n : Nat) (ls : List Nat) (sz : Nat) (C : List Nat) (E : Env) : Option (List LV) :=
 match nthO rest n with
 | some o => match o.op with
  | .load t y => match runX P N ops (rest.take n) ls E with
   | some E0 => match zfB ops E0 o, zhO N o.dst, E0.opd y, P.underlying t, P.info? t with
    | some true, true, some (.ptr k off), some d, some i => match zgC E0.bx k with
     | some b => match Nat.beq i.size sz && subN (AV.colsL ((b.avs.drop off).take sz)) C && isAg d with
      | true => zhj ((b.avs.drop off).take sz)
      | false => none
     | none => none
    | _, _, _, _, _ => none
   | none => none
  | _ => none
 | none => none
def ldE (P : Program) (N : Lim) (ops : Array Oper) (rest : List Oper) (n : Nat) (ls : List Nat) (av : AV) (E : Env) : Env :=
 match nthO rest n, runX P N ops (rest.take n) ls E with
 | some o, some E0 => E0.step [] [] o.dst av []
 | _, _ => E
section
variable {P : Program} {N : Lim} {ops : Array Oper} {rest : List Oper} {E E' : Env} {α : Type}
theorem lbl (n : Nat) (ls : List Nat) (r : Rp α) (C : List Nat) (x : α) (k : zcd P N ops (rest.drop (n + 1)) (ldE P N ops rest n ls (.rc r C x) E) E') (h : ldC P N ops rest n ls r.size C E = some (r.lv x) := by kernel_rfl) : zcd P N ops rest E E' := by
 unfold ldC at h
 split at h
 ·rename_i o ho
  unfold ldE at k
  rw [ho] at k
  split at h
  ·rename_i t y hop
   split at h
   ·rename_i E0 hE
    rw [hE] at k
    refine zlR n hE ?_
    rw [zop ho]
    split at h
    ·rename_i kk off fs i h1 h2 h3 h4 h5
     split at h
     ·rename_i b hb
      split at h
      ·rename_i hk
       rw [Bool.and_eq_true, Bool.and_eq_true] at hk
       have hsz := Nat.eq_of_beq_eq_true hk.1.1
       have e := (zdY hb).2
       have hlaw := zCD (P := P) (o := o) (r := r) (b := b) (off := off) x C hop ⟨zzc h4 hk.2, fun w => by rw [zqq h5 w, hsz]⟩ h hk.1.2
       refine zrR h1 hlaw ⟨by rw [e]; exact h3, trivial⟩ ⟨?_, trivial⟩ rfl rfl h2 k
       rw [e]; exact hb
      ·cases h
     ·cases h
    ·cases h
   ·cases h
  ·cases h
 ·cases h
theorem lb (n : Nat) (r : Rp α) (C : List Nat) (x : α) (k : zcd P N ops (rest.drop (n + 1)) (ldE P N ops rest n [] (.rc r C x) E) E') (h : ldC P N ops rest n [] r.size C E = some (r.lv x) := by kernel_rfl) : zcd P N ops rest E E' := lbl n [] r C x k h
end
section
variable {m : Bool} {P : Program} {l : List It} {cx : Cx} {E E' : Env} {Q : Exit → Act → World → Prop} {id : Nat} {ops : List Oper} {o : Operand} {b : Bool} {x y : Code}
theorem jr (h : zcd P cx.n ops.toArray ops E E') (k : JI m P l (Sx cx E') Q) : JI m P (.c (.region id ops.toArray false) :: l) (Sx cx E) Q := zN E' h k
theorem jq (ls : List Nat) (k : JI m P l (Sx cx (endE P cx.n ops.toArray ops ls E)) Q) (h : endB P cx.n ops.toArray ops ls E = true := by kernel_rfl) : JI m P (.c (.region id ops.toArray false) :: l) (Sx cx E) Q := zN _ (rfl' ls h) k
theorem jp (k : JI m P l (Sx cx (endE P cx.n ops.toArray ops [] E)) Q) (h : endB P cx.n ops.toArray ops [] E = true := by kernel_rfl) : JI m P (.c (.region id ops.toArray false) :: l) (Sx cx E) Q := jq [] k h
theorem jT (hb : b = true) (k : JI m P (zmH x l) (Sx cx E) Q) (h : E.opd o = some (.lf (.bool b)) := by kernel_rfl) : JI m P (.c (.cond o x y) :: l) (Sx cx E) Q := zAq h hb k
theorem jF (hb : b = false) (k : JI m P (zmH y l) (Sx cx E) Q) (h : E.opd o = some (.lf (.bool b)) := by kernel_rfl) : JI m P (.c (.cond o x y) :: l) (Sx cx E) Q := zAp h hb k
end
theorem lx {P : Program} {o : Oper} {l : List Oper} {W V : List Nat} {av : AV} {bs : List Bx} {ss : List zlw} {ins : List (Operand × AV)} {bxs : List Bx} {is : List DIn} (h : zL P o ins bxs W V av bs) (h2 : zgk P l ss is) :
  zgk P (o :: l) (.ex (bxs.map (·.lab)) W V av bs :: ss) (⟨ins, bxs, []⟩ :: is) := by simp only [zgk]; exact ⟨h, h2⟩
theorem ly {P : Program} {o : Oper} {l : List Oper} {W V : List Nat} {av : AV} {bs : List Bx} {ss : List zlw} {ins : List (Operand × AV)} {bxs : List Bx} {is : List DIn} (as : List AV) (h : zL P o ins bxs W V av bs) (_ : ins.map (·.2) = as) (h2 : zgk P l ss is) :
  zgk P (o :: l) (.ex (bxs.map (·.lab)) W V av bs :: ss) (⟨ins, bxs, []⟩ :: is) := lx h h2
theorem l0 {P : Program} {l : List Oper} : zgk P l [] [] := by cases l <;> simp [zgk]
theorem lf1 {P : Program} {o : Oper} {ins : List (Operand × AV)} {bxs bs : List Bx} {W V : List Nat} {av : AV} (g : Nat) (h : zL P o ins bxs W V av bs) : zL P o ((.func g, .lf (.val (.func (.func g) #[] #[]))) :: ins) bxs W V av bs := h.cons _
def zCj (P : Program) (N : Lim) (ops : List Oper) (ss : List zlw) (E : Env) (ks bs : List Nat) : Env := match zrH P N ops ss E ks bs with
 | some r => r.1
 | none => E
def zCk (P : Program) (N : Lim) (ops : List Oper) (ss : List zlw) (E : Env) (ks bs : List Nat) : Option (List DIn) := match zrH P N ops ss E ks bs with
 | some r => some r.2
 | none => none
theorem jd {m : Bool} {P : Program} {cx : Cx} {E : Env} {id : Nat} {ops : List Oper} {l : List It} {Q : Exit → Act → World → Prop} {ss : List zlw} {is : List DIn} (ks bs : List Nat) (hm : P.follows .mixedOrders = true) (hl : zgk P ops ss is)
  (k : JI m P l (Sx cx (zCj P cx.n ops ss E ks bs)) Q) (h : zCk P cx.n ops ss E ks bs = some is := by kernel_rfl) : JI m P (.c (.region id ops.toArray true) :: l) (Sx cx E) Q := by
 unfold zCk at h
 unfold zCj at k
 split at h
 ·rename_i r hr
  obtain ⟨E1, is'⟩ := r
  simp only [Option.some.injEq] at h
  subst h
  rw [hr] at k
  exact zBK E1 ss _ ks bs hm hr hl k
 ·cases h
end Go.Proofs.YtglkepeofhonlaaGreatDoor
namespace Go.Proofs.YtglkepeofhonlaaGreatDoor
open Go
theorem zy {x : Int} (h : -9223372036854775808 ≤ x ∧ x ≤ 9223372036854775807) : IntKind.i64.wrap x = x := by
 simp [IntKind.wrap, IntKind.bits, IntKind.signed]
 split <;> omega
theorem zuG (n m : Nat) : ((n : Int) == (m : Int)) = decide (n = m) := by
 by_cases h : n = m
 ·simp [h]
 ·have : ¬ ((n : Int) = m) := by omega
  simp [h, this]
theorem zE {α : Type} {xs : List α} {i : Int} {n : Nat} (h : i = n) (hn : n < xs.length) : idx xs i = some xs[n] := by
 unfold idx
 subst h
 rw [if_pos (by omega), Int.toNat_natCast, List.getElem?_eq_getElem hn]
theorem zsg {α : Type} {xs : List α} {i j : Int} {a b : Nat} (hi : i = a) (hj : j = b) (h : a ≤ b) (hb : b ≤ xs.length) : cut xs i j = some ((xs.drop a).take (b - a)) := by
 unfold cut
 subst hi hj
 rw [if_pos (by omega), Int.toNat_natCast, Int.toNat_natCast]
theorem znl {α : Type} {xs : List α} {i j : Int} {a : Nat} (hi : i = a) (hj : j = (xs.length : Int)) (h : a ≤ xs.length) : cut xs i j = some (xs.drop a) := by
 rw [zsg hi hj h (Nat.le_refl _), List.take_of_length_le (by simp)]
theorem znm {α : Type} {xs : List α} {j : Int} {b : Nat} (hj : j = b) (hb : b ≤ xs.length) : cut xs 0 j = some (xs.take b) := by
 have := zsg (xs := xs) (i := 0) (a := 0) rfl hj (Nat.zero_le _) hb
 simpa using this
theorem zeG {α : Type} {bytes : Nat} {xs ys : List α} (h : (xs.length + ys.length) * bytes ≤ 140737488355328) : app bytes xs ys = some (xs ++ ys) := by
 unfold app LIM
 rw [if_pos h]
theorem zpf {α : Type} {bytes : Nat} {x0 : α} {n m : Int} {a : Nat} (hn : n = a) (h : n ≤ m) (hm : m * bytes ≤ 140737488355328) : mkO bytes x0 n m = some (List.replicate a x0) := by
 unfold mkO LIM
 subst hn
 rw [if_pos ⟨by omega, h, hm⟩, Int.toNat_natCast]
theorem zxm {x y : List UInt8} (h : x.length + y.length ≤ 9223372036854775807) : cat x y = some (x ++ y) := by unfold cat; rw [if_pos h]
theorem sb {α β : Type} {a : α} {f : α → Option β} : ((some a : Option α) >>= f) = f a := rfl
theorem itT {α : Type} {c : Bool} {x y : α} (h : c = true) : (if c then x else y) = x := by rw [h]; rfl
theorem itF {α : Type} {c : Bool} {x y : α} (h : c = false) : (if c then x else y) = y := by rw [h]; rfl
end Go.Proofs.YtglkepeofhonlaaGreatDoor
namespace Go.Proofs.YtglkepeofhonlaaGreatDoor
open Go
set_option linter.unusedVariables false
theorem zuf : ∀ l : List Int, lexI l l = 0
 | [] => rfl
 | x :: l => by rw [lexI, if_neg (Int.lt_irrefl x), if_neg (Int.lt_irrefl x), zuf l]
theorem zhm : ∀ l m : List Int, lexI l m = - lexI m l
 | [], [] => rfl
 | [], _ :: _ => rfl
 | _ :: _, [] => rfl
 | x :: l, y :: m => by
  rw [lexI, lexI, zhm l m]
  by_cases h1 : x < y
  ·rw [if_pos h1, if_neg (show ¬ y < x by omega), if_pos h1]
  ·by_cases h2 : y < x
   ·rw [if_neg h1, if_pos h2, if_pos h2]; rfl
   ·rw [if_neg h1, if_neg h2, if_neg h2, if_neg h1]
theorem zoi : ∀ {l m : List Int}, lexI l m = 0 → l = m
 | [], [], _ => rfl
 | [], _ :: _, h => by cases h
 | _ :: _, [], h => by cases h
 | x :: l, y :: m, h => by
  rw [lexI] at h
  split at h
  ·cases h
  ·split at h
   ·cases h
   ·rw [zoi h, show x = y by omega]
theorem zmm : ∀ {a b c : List Int}, lexI a b ≤ 0 → lexI b c ≤ 0 → lexI a c ≤ 0
 | [], [], _, _, h => h
 | [], _ :: _, [], _, _ => Int.le_refl _
 | [], _ :: _, _ :: _, _, _ => by rw [lexI]; decide
 | _ :: _, [], _, h, _ => by rw [lexI] at h; exact absurd h (by decide)
 | _ :: _, _ :: _, [], _, h => by rw [lexI] at h; exact absurd h (by decide)
 | x :: a, y :: b, z :: c, h, k => by
  rw [lexI] at h k ⊢
  by_cases h1 : x < y
  ·by_cases k1 : y < z
   ·rw [if_pos (by omega)]; decide
   ·by_cases k2 : z < y
    ·rw [if_neg k1, if_pos k2] at k; exact absurd k (by decide)
    ·rw [if_pos (by omega)]; decide
  ·by_cases h2 : y < x
   ·rw [if_neg h1, if_pos h2] at h; exact absurd h (by decide)
   ·rw [if_neg h1, if_neg h2] at h
    by_cases k1 : y < z
    ·rw [if_pos (by omega)]; decide
    ·by_cases k2 : z < y
     ·rw [if_neg k1, if_pos k2] at k; exact absurd k (by decide)
     ·rw [if_neg k1, if_neg k2] at k
      rw [if_neg (by omega), if_neg (by omega)]
      exact zmm h k
theorem zue {a b : List Int} (h : lexI a b ≤ 0) (k : lexI b a ≤ 0) : a = b := zoi (by have := zhm a b; omega)
theorem zwP (l : List (List Int)) : (zlb l).Pairwise fun a b => lexI a b ≤ 0 := by
 have h := List.pairwise_mergeSort (le := fun x y : List Int => decide (lexI x y ≤ 0)) (fun a b c h k => by
  simp only [decide_eq_true_eq] at h k ⊢; exact zmm h k) (fun a b => by
  have := zhm a b
  simp only [Bool.or_eq_true, decide_eq_true_eq]; omega) l
 unfold zlb
 exact h.imp fun h => by simpa using h
theorem zpu (l : List (List Int)) : (zlb l).Perm l := List.mergeSort_perm l _
theorem zBg {l r : List (List Int)} (hp : r.Perm l) (hs : r.Pairwise fun a b => lexI a b ≤ 0) : r = zlb l :=
 List.Perm.eq_of_pairwise (fun a b _ _ h k => zue h k) hs (zwP l) (hp.trans (zpu l).symm)
end Go.Proofs.YtglkepeofhonlaaGreatDoor
