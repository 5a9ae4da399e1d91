/-
  Operations that make or write memory, told by what their operands read as: append, make, literals, boxes, conversions between bytes and texts; and sums, quotients, shifts and comparisons that ask something. No condition.
-/
import Derived.Test.YtnhnanbgphdaeaaMem
namespace Go.Proofs.Ytnhnanbgphdaeaa
open Go Go.RowKit

/-- Cells without memory of their own. -/
def Rp.Plain {α : Type} (r : Rp α) : Prop := ∀ x l, l ∈ r.lv x → l.plain = true
theorem AllRel.plain {F G : Fp} {w w' : World} {ls : List LV} {cs : List Value} (h : AllRel F w ls cs) (hp : ∀ l ∈ ls, l.plain = true) : AllRel G w' ls cs :=
  ⟨h.1, fun i l u h1 h2 => (h.2 i l u h1 h2).plain (hp l (List.mem_of_getElem? h1))⟩
theorem Rp.Plain.flat {α : Type} {r : Rp α} (h : r.Plain) (xs : List α) : ∀ l ∈ xs.flatMap r.lv, l.plain = true := by
  intro l hl
  obtain ⟨x, _, hx⟩ := List.mem_flatMap.1 hl
  exact h x l hx
def isOwn {α : Type} (r : Rp α) (e : TypeId) (ℓ : Nat) (C : List Nat) (xs : List α) (a : AV) : Prop := ∀ γ w v, a.rel γ w v → AV.rel γ w (.own r e ℓ C xs) v
theorem isOwn_own {α : Type} (r : Rp α) (e : TypeId) (ℓ : Nat) (C : List Nat) (xs : List α) : isOwn r e ℓ C xs (.own r e ℓ C xs) := fun _ _ _ h => h
theorem isOwn_nil {α : Type} (r : Rp α) (e : TypeId) (ℓ : Nat) (C : List Nat) (h : memN ℓ C = false) : isOwn r e ℓ C [] (.lf (.val (.slice none 0 0))) := fun γ w v hv => by
  rw [lf_val hv]
  refine ⟨[], World.ownsRow_nil w 0 e r.size, ?_, AllRel.nil, fun hc => by rw [memN_iff.2 hc] at h; cases h⟩
  intro g hg
  cases hg
theorem le_own_nil {α : Type} (r : Rp α) (e : TypeId) (ℓ : Nat) (C : List Nat) (h : memN ℓ C = false) : AV.le (.lf (.val (.slice none 0 0))) (.own r e ℓ C []) := isOwn_nil r e ℓ C h
theorem le_sl_nil {α : Type} (r : Rp α) (C : List Nat) : AV.le (.lf (.val (.slice none 0 0))) (.sl r C []) := isSl_nil r C
theorem le_sl_own {α : Type} (r : Rp α) (e : TypeId) (ℓ : Nat) (C : List Nat) (xs : List α) : AV.le (.own r e ℓ C xs) (.sl r (ℓ :: C) xs) := fun _ _ _ h => own_LV h
theorem le_sl {α : Type} (r : Rp α) (C C' : List Nat) (xs : List α) (h : subN C C' = true) : AV.le (.sl r C xs) (.sl r C' xs) := fun _ _ _ hv => LVrel.mono hv fun _ _ hb => subN_spec h _ hb

/-! ### append -/

def LIM : Nat := 140737488355328
/-- append, where there is room for it. -/
def app {α : Type} (bytes : Nat) (xs ys : List α) : Option (List α) := if (xs.length + ys.length) * bytes ≤ LIM then some (xs ++ ys) else none
theorem app_some {α : Type} {bytes : Nat} {xs ys zs : List α} (h : app bytes xs ys = some zs) : (xs.length + ys.length) * bytes ≤ 140737488355328 ∧ zs = xs ++ ys := by
  unfold app at h
  split at h
  · rename_i hl; cases h; exact ⟨hl, rfl⟩
  · cases h
def ghNew (γ : Gh) (n ℓ g : Nat) : Gh := ⟨fun b => if b < n then γ.col b else ℓ, fun k => if k = ℓ then g else γ.box k⟩
theorem run_append_of_nil' {P : Program} {t e : TypeId} {size bytes : Nat} (hT : ElT P t e size bytes) (ty : TypeId) (w : World) (base : Nat) (v : Value) (n : Nat) (xs : List Value) (hown : w.ownsRow base e size v n xs) (c : Nat) :
    (Builtin.append_ #[t, t] ty #[v, .slice none 0 c]).run P w = .ok v w := by
  obtain ⟨i, z, hi, hz, hs, hb, hzs⟩ := hT.ex
  rcases hown.2 with ⟨rfl, rfl⟩ | ⟨g, cap, cur, rfl, _, _, hnc, _⟩
  · simp [Builtin.append_, run_underlying hT.u, sizeOf, typeInfo, hi, Builtin.lenOf, Builtin.firstCells]
  · simp [Builtin.append_, run_underlying hT.u, sizeOf, typeInfo, hi, Builtin.lenOf, Builtin.firstCells, hnc, storeCells]
theorem run_app {P : Program} {t e : TypeId} {size bytes : Nat} (hT : ElT P t e size bytes) (hpos : 0 < size) (hbp : 0 < bytes) (ty : TypeId) (w : World) (v : Value) (n : Nat) (xs : List Value) (hown : w.ownsRow 0 e size v n xs)
    (A : Option Addr) (m c : Nat) (news : List Value) (hl : news.length = m * size) (hA : 0 < m → ∃ b off, A = some ⟨b, off, none⟩ ∧ ∀ i, i < m * size → w.cell? ⟨b, off + i, none⟩ = news[i]?) (h1 : ∀ u ∈ news, u.oneCell' = true)
    (hlim : (n + m) * bytes ≤ 140737488355328) :
    ∃ v' w', (Builtin.append_ #[t, t] ty #[v, .slice A m c]).run P w = .ok v' w' ∧ w'.ownsRow 0 e size v' (n + m) (xs ++ news) ∧ w.grownBy w' v.ownBlock ∧ (v'.ownBlock = v.ownBlock ∨ v'.ownBlock = some w.heap.size) := by
  obtain ⟨i, z, hi, hz, hs, hb, hzs⟩ := hT.ex
  have hnm : n + m ≤ maxLen := by
    have : (n + m) * 1 ≤ (n + m) * bytes := Nat.mul_le_mul_left _ hbp
    unfold maxLen; omega
  rcases A with _ | ad
  · have hm : m = 0 := by
      rcases Nat.eq_zero_or_pos m with h0 | h0
      · exact h0
      · obtain ⟨b, off, h, _⟩ := hA h0; cases h
    subst hm
    have hn : news = [] := List.eq_nil_of_length_eq_zero (by simpa using hl)
    subst hn
    exact ⟨v, w, run_append_of_nil' hT ty w 0 v n xs hown c, by simpa using hown, ⟨rfl, rfl, rfl, Nat.le_refl _, fun _ _ _ => rfl⟩, .inl rfl⟩
  · have hnews : ∀ j u, news[j]? = some u → w.cell? (ad.add j) = some u := by
      intro j u hu
      have hj : j < m * size := by rw [← hl]; exact (List.getElem?_eq_some_iff.1 hu).1
      have hm : 0 < m := by
        rcases Nat.eq_zero_or_pos m with h0 | h0
        · subst h0; omega
        · exact h0
      obtain ⟨b, off, h, hc⟩ := hA hm
      cases h
      rw [addr_add, hc j hj]; exact hu
    obtain ⟨v', w', hr, ho, hg, _, hbk⟩ := run_append_own_at (P := P) w 0 t ty e i z size bytes hT.u hi hz hs hb hzs hpos v n xs hown ad m c news hl hnews h1 hnm hlim (Nat.zero_le _)
    exact ⟨v', w', hr, ho, hg, hbk⟩
theorem tr_own {γ : Gh} {w w' : World} {e : TypeId} {size n : Nat} {ℓ : Nat} {v v' : Value} {cs : List Value} (ho : w.ownsRow 0 e size v n cs) (hg : ∀ g, v.ownBlock = some g → γ.col g = ℓ ∧ γ.box ℓ = g) (hgr : w.grownBy w' v.ownBlock)
    (hbk : v'.ownBlock = v.ownBlock ∨ v'.ownBlock = some w.heap.size) :
    ∃ γ', Tr [ℓ] [ℓ] γ w γ' w' ∧ (∀ g, v'.ownBlock = some g → γ'.col g = ℓ ∧ γ'.box ℓ = g) := by
  refine ⟨ghNew γ w.heap.size ℓ (v'.ownBlock.getD (γ.box ℓ)), ⟨hgr.os, hgr.tape, hgr.output, hgr.size, fun b hb hn => hgr.block b hb fun e => ?_, fun b hb => ?_, fun k hk => ?_⟩, fun g hgb => ⟨?_, ?_⟩⟩
  · exact hn (by rw [(hg b e.symm).1]; exact List.mem_cons_self)
  · simp [ghNew, hb]
  · simp only [List.mem_cons, List.not_mem_nil, or_false] at hk
    simp [ghNew, hk]
  · rcases hbk with h | h
    · rw [h] at hgb
      have := (ho.lt g hgb).2
      simp [ghNew, this, (hg g hgb).1]
    · rw [h] at hgb; cases hgb
      simp [ghNew]
  · simp [ghNew, hgb]
theorem lo_app {P : Program} {o : Oper} {α : Type} {r : Rp α} {xs ys zs : List α} {C D : List Nat} {a b : AV} {t e : TypeId} {x y : Operand} {bytes : Nat} (ℓ : Nat) (C2 : List Nat)
    (ho : o.op = .call ⟨.builtin .append, #[x, y], #[t, t]⟩) (hT : ElT P t e r.size bytes) (hb : Nat.blt 0 bytes = true) (hx : isOwn r e ℓ C xs a) (hy : isSl r ys D b) (hz : app bytes xs ys = some zs)
    (hC : r.Plain ∨ (subN C C2 && subN D C2) = true) (hℓ : memN ℓ C2 = false) : LocalOk P o [(x, a), (y, b)] [] [ℓ] [ℓ] (.own r e ℓ C2 zs) [] := by
  refine localOk_value fun γ ev w hi _ => ?_
  obtain ⟨cs, hown, hg, hA, hnot⟩ := hx γ w _ (hi (x, a) (by simp))
  have h2 := hy γ w _ (hi (y, b) (by simp))
  simp only at hown hg h2
  obtain ⟨A, c, cs', hv, hc, hm, hA', hcs', hcell⟩ := sl_open h2
  obtain ⟨hlim, rfl⟩ := app_some hz
  obtain ⟨v', w', hr, ho', hgr, hbk⟩ := run_app hT r.pos (Nat.lt_of_succ_le (Nat.le_of_ble_eq_true hb)) o.type w _ _ _ hown A ys.length c cs' hcs'
    (fun hm => by obtain ⟨b, off, e, _, _, hc⟩ := hcell hm; exact ⟨b, off, e, hc⟩) hA'.one hlim
  obtain ⟨γ', ht, hg'⟩ := tr_own hown hg hgr hbk
  refine ⟨v', w', γ', ?_, ht, ⟨cs ++ cs', by rw [List.length_append]; exact ho', hg', ?_, fun hc => by rw [memN_iff.2 hc] at hℓ; cases hℓ⟩, fun b hb => by cases hb⟩
  · refine run_builtin_call (args := [x, y]) (ts := [t, t]) ho rfl rfl rfl fun consts => ?_
    simp [builtin, hv, hr]
  · rw [List.flatMap_append]
    rcases hC with hp | hC
    · exact (hA.plain (hp.flat xs)).append (hA'.plain (hp.flat ys))
    · simp only [Bool.and_eq_true] at hC
      have hn2 : ∀ c ∈ C2, c ∉ [ℓ] := fun c hc h => by
        simp only [List.mem_cons, List.not_mem_nil, or_false] at h
        subst h
        rw [memN_iff.2 hc] at hℓ; cases hℓ
      have k1 := ht.all (C := C2) hn2 (hA.mono fun b _ hb => subN_spec hC.1 _ hb)
      have k2 := ht.all (C := C2) hn2 (hA'.mono fun b _ hb => subN_spec hC.2 _ hb)
      exact k1.append k2

/-! ### zero values, make -/

def zok : LV → Value → Bool
  | .int k n, .int k' n' => kindsEq k k' && decide (n = n')
  | .bool b, .bool b' => (b && b') || (!b && !b')
  | .str l, .string s => l.isEmpty && Nat.beq s.data.toList.length 0
  | .sl n _ ls, .slice none 0 0 => Nat.beq n 0 && ls.isEmpty
  | .val (.slice none 0 0), .slice none 0 0 => true
  | .val (.pointer none), .pointer none => true
  | .val (.map none), .map none => true
  | .val .nilFunc, .nilFunc => true
  | .val .nilIface, .nilIface => true
  | _, _ => false
theorem zok_rel {l : LV} {v : Value} (h : zok l v = true) (F : Fp) (w : World) : LVrel F w l v := by
  unfold zok at h
  split at h
  · simp only [Bool.and_eq_true, decide_eq_true_eq] at h
    have := kindsEq_spec h.1
    rw [this, h.2]; exact .int _ _
  · rename_i b b'
    cases b <;> cases b' <;> first | exact .bool _ | cases h
  · rename_i l s
    simp only [Bool.and_eq_true, List.isEmpty_iff] at h
    obtain ⟨rfl, h2⟩ := h
    have h3 : s.data.toList = [] := List.eq_nil_of_length_eq_zero (Nat.eq_of_beq_eq_true h2)
    have : s = ⟨([] : List UInt8).toArray⟩ := by
      obtain ⟨d⟩ := s
      congr 1
      exact Array.toList_inj.1 (by simpa using h3)
    rw [this]
    exact .str []
  · simp only [Bool.and_eq_true, List.isEmpty_iff] at h
    obtain ⟨h1, rfl⟩ := h
    have := Nat.eq_of_beq_eq_true h1
    subst this
    exact .sl 0 _ [] none 0 [] (by simp) (by simp) (Nat.le_refl _) (Nat.zero_le _) (fun h => absurd h (by omega)) (fun i l u h => by simp at h)
  · exact .val _ rfl
  · exact .val _ rfl
  · exact .val _ rfl
  · exact .val _ rfl
  · exact .val _ rfl
  · cases h
def zokL : List LV → List Value → Bool
  | [], [] => true
  | l :: ls, v :: vs => zok l v && zokL ls vs
  | _, _ => false
theorem zokL_rel {ls : List LV} {vs : List Value} (h : zokL ls vs = true) (F : Fp) (w : World) : AllRel F w ls vs := by
  induction ls generalizing vs with
  | nil => cases vs <;> first | exact .nil | cases h
  | cons l ls ih =>
    cases vs with
    | nil => cases h
    | cons v vs =>
      simp only [zokL, Bool.and_eq_true] at h
      exact .cons (zok_rel h.1 F w) (ih h.2)
/-- An element's type, with what its zero value reads as. -/
structure ZeT (P : Program) {α : Type} (t e : TypeId) (r : Rp α) (bytes : Nat) (x0 : α) : Prop where
  u : P.underlying t = some (.slice e)
  ex : ∃ i z, P.info? e = some i ∧ i.zero = some z ∧ i.size = r.size ∧ i.bytes = bytes ∧ z.cells.size = r.size ∧ zokL (r.lv x0) z.cells.toList = true
theorem ZeT.el {P : Program} {α : Type} {t e : TypeId} {r : Rp α} {bytes : Nat} {x0 : α} (h : ZeT P t e r bytes x0) : ElT P t e r.size bytes := by
  obtain ⟨i, z, h1, h2, h3, h4, h5, _⟩ := h.ex
  exact ⟨h.u, i, z, h1, h2, h3, h4, h5⟩
def zeB (P : Program) {α : Type} (e : TypeId) (r : Rp α) (bytes : Nat) (x0 : α) : Bool := match P.info? e with
  | some i => match i.zero with
    | some z => Nat.beq i.size r.size && Nat.beq i.bytes bytes && Nat.beq z.cells.size r.size && zokL (r.lv x0) z.cells.toList
    | none => false
  | none => false
theorem ZeT.ofB {P : Program} {α : Type} {t e : TypeId} {r : Rp α} {bytes : Nat} {x0 : α} (hu : P.underlying t = some (.slice e)) (h : zeB P e r bytes x0 = true) : ZeT P t e r bytes x0 := by
  unfold zeB at h
  split at h
  · rename_i i hi
    split at h
    · rename_i z hz
      simp only [Bool.and_eq_true] at h
      exact ⟨hu, i, z, hi, hz, Nat.eq_of_beq_eq_true h.1.1.1, Nat.eq_of_beq_eq_true h.1.1.2, Nat.eq_of_beq_eq_true h.1.2, h.2⟩
    · cases h
  · cases h
theorem rep_get {β : Type} (l : List β) (n i : Nat) (h : i < n * l.length) : ((List.replicate n l).flatten)[i]? = l[i % l.length]? := by
  induction n generalizing i with
  | zero => omega
  | succ n ih =>
    rw [List.replicate_succ, List.flatten_cons, List.getElem?_append]
    split
    · rename_i hi; rw [Nat.mod_eq_of_lt hi]
    · rename_i hi
      rw [Nat.succ_mul] at h
      rw [ih _ (by omega)]
      congr 1
      rw [← Nat.mod_eq_sub_mod (by omega)]
theorem made_rel {α : Type} {r : Rp α} {x0 : α} {z : Value} (hs : z.cells.size = r.size) (hz : zokL (r.lv x0) z.cells.toList = true) (F : Fp) (w : World) (n m : Nat) (hnm : n ≤ m) :
    AllRel F w ((List.replicate n x0).flatMap r.lv) ((madeCells z.cells (m * r.size)).toList.take (n * r.size)) := by
  have hr := zokL_rel hz F w
  have hl : (madeCells z.cells (m * r.size)).toList.length = m * r.size := by rw [Array.length_toList, size_madeCells]
  have hle : n * r.size ≤ m * r.size := Nat.mul_le_mul_right _ hnm
  refine ⟨by rw [r.flat, List.length_replicate, List.length_take, hl]; omega, fun i l u h1 h2 => ?_⟩
  have hi : i < n * r.size := by have := (List.getElem?_eq_some_iff.1 h1).1; rw [r.flat, List.length_replicate] at this; exact this
  have e1 : (List.replicate n x0).flatMap r.lv = (List.replicate n (r.lv x0)).flatten := by rw [List.flatMap_def, List.map_replicate]
  rw [e1, rep_get _ _ _ (by rw [r.len]; exact hi), r.len] at h1
  rw [List.getElem?_take, if_pos hi] at h2
  have hmod : i % r.size < z.cells.size := by rw [hs]; exact Nat.mod_lt _ r.pos
  have e2 : (madeCells z.cells (m * r.size)).toList[i]? = z.cells.toList[i % r.size]? := by
    have him : i < m * r.size := by omega
    simp only [madeCells, Array.toList_map, Array.toList_range, List.getElem?_map, List.getElem?_range him, Option.map_some, hs]
    rw [Array.getElem?_toList, Array.getElem?_eq_getElem hmod, getElem!_pos z.cells _ hmod]
  rw [e2] at h2
  exact hr.2 _ l u h1 h2
/-- A new slice, of zero values. -/
def mkO {α : Type} (bytes : Nat) (x0 : α) (n m : Int) : Option (List α) := if 0 ≤ n ∧ n ≤ m ∧ m * bytes ≤ LIM then some (List.replicate n.toNat x0) else none
theorem lo_make {P : Program} {o : Oper} {α : Type} {r : Rp α} {t e : TypeId} {x y : Operand} {bytes : Nat} {x0 : α} {k k' : IntKind} {n m : Int} {xs : List α} (ℓ : Nat)
    (ho : o.op = .makeSlice t x y) (hT : ZeT P t e r bytes x0) (hb : Nat.blt 0 bytes = true) (hm : mkO bytes x0 n m = some xs) : LocalOk P o [(x, .lf (.int k n)), (y, .lf (.int k' m))] [] [] [ℓ] (.own r e ℓ [] xs) [] := by
  refine localOk_value fun γ ev w hi _ => ?_
  have h1 := lf_int (hi (x, .lf (.int k n)) (by simp))
  have h2 := lf_int (hi (y, .lf (.int k' m)) (by simp))
  simp only at h1 h2
  unfold mkO at hm
  split at hm
  case isFalse => cases hm
  rename_i hh
  obtain ⟨h0, hnm, hlim⟩ := hh
  cases hm
  obtain ⟨i, z, hi', hz, hs, hby, hzs, hzo⟩ := hT.ex
  have hbp : 0 < bytes := Nat.lt_of_succ_le (Nat.le_of_ble_eq_true hb)
  have hmb : m ≤ m * bytes := by
    have : m * 1 ≤ m * (bytes : Int) := Int.mul_le_mul_of_nonneg_left (by omega) (by omega)
    omega
  have hL : (LIM : Int) = 140737488355328 := rfl
  have hr := run_make (P := P) w t e i z hT.u hi' hz k k' n m h0 hnm (by rw [hby, Int.mul_comm]; omega) (by omega)
  rw [hs] at hr
  have hnew := heap_alloc_new w (.cells (madeCells z.cells (m.toNat * r.size)) e)
  refine ⟨.slice (some ⟨w.heap.size, 0, none⟩) n.toNat m.toNat, w.alloc (.cells (madeCells z.cells (m.toNat * r.size)) e), ghNew γ w.heap.size ℓ w.heap.size, by simp [execOp, ho, h1, h2, hr], ⟨rfl, rfl, rfl, by simp, fun b hb _ => Below.heap_alloc w _ b hb, fun b hb => by simp [ghNew, hb], fun k hk => ?_⟩,
    ⟨(madeCells z.cells (m.toNat * r.size)).toList.take (n.toNat * r.size), ?_, fun g hg => ?_, ?_, by simp⟩, fun b hb => by cases hb⟩
  · simp only [List.mem_cons, List.not_mem_nil, or_false] at hk
    simp [ghNew, hk]
  · rw [List.length_replicate]
    have hle : n.toNat * r.size ≤ m.toNat * r.size := Nat.mul_le_mul_right _ (by omega)
    have hml : m.toNat ≤ maxLen := by unfold maxLen; omega
    refine ⟨by rw [List.length_take, Array.length_toList, size_madeCells]; omega, .inr ⟨w.heap.size, m.toNat, _, rfl, Nat.zero_le _, hnew, by omega, hml, by rw [size_madeCells], rfl⟩⟩
  · cases hg
    simp [ghNew]
  · exact made_rel hzs hzo _ _ _ _ (by omega)
end Go.Proofs.Ytnhnanbgphdaeaa
