/-
  What a law is handed, opened: data of a type read as plain values; and from what a Go function does to the statement's own words. No condition.
-/
import Derived.Test.YtnhnanbgphdaeaaMore
import Derived.ProofKit
import Derived.OpenShut
import Derived.ShutString
import Derived.ChangeOld
import Derived.Below
import Derived.SizedLaws
namespace Go.Proofs.Ytnhnanbgphdaeaa
open Go Go.ChangeShapes Go.WideShapes Go.RowKit

abbrev allF : Fp := fun _ => True
/-- Each string and slice that is met is within the form's own reach. -/
def SzOk (P : Program) {H : Type} (t : TypeId) (d : DataW H) : Prop := ∀ m ∈ d.weights P t, m ≤ 140737488351232
theorem weights_mem_all {H : Type} {P : Program} {e : TypeId} : ∀ {ds : List (DataW H)} {i : Nat} {d : DataW H}, ds[i]? = some d → ∀ m ∈ d.weights P e, m ∈ DataW.weightsAll P e ds
  | d0 :: ds, 0, d, hd, m, hm => by
    simp only [List.getElem?_cons_zero, Option.some.injEq] at hd
    subst hd
    simp only [DataW.weightsAll, List.mem_append]
    exact Or.inl hm
  | d0 :: ds, i + 1, d, hd, m, hm => by
    simp only [List.getElem?_cons_succ] at hd
    simp only [DataW.weightsAll, List.mem_append]
    exact Or.inr (weights_mem_all hd m hm)
  | [], _, _, hd, _, _ => by simp at hd
theorem SzOk.of_each {H : Type} {P : Program} {ts : List TypeId} {ds : List (DataW H)} (h : (DataW.weightsEach P ts ds).all (· ≤ reachBytes) = true) (j : Nat) {t : TypeId} {d : DataW H} (ht : ts[j]? = some t) (hd : ds[j]? = some d) : SzOk P t d := fun m hm => by
  have := List.all_eq_true.1 h _ (DataW.weights_mem_each ht hd m hm)
  exact of_decide_eq_true this
/-- Data of a type that can be read, read as a plain value of which W holds. -/
def Opens (P : Program) {α : Type} (n : Nat) (t : TypeId) (r : Rp α) (W : α → Prop) : Prop :=
  ∀ {H : Type} (enc : TypeId × Value → H) (w : World) (spare : Nat → Bool) (held : Bool) (cs : List Value) (x : DataW H × List MemPlace), DataW.trod enc P w 0 spare held n t cs = some x → SzOk P t x.1 → ∃ y : α, AllRel allF w (r.lv y) cs ∧ W y
section
variable {P : Program} {n : Nat} {t e : TypeId}
theorem allrel_one {F : Fp} {w : World} {l : LV} {v : Value} (h : LVrel F w l v) : AllRel F w [l] [v] := .cons h .nil
theorem opens_int {k : IntKind} (hu : P.underlying t = some (.int k)) : Opens P n t (Rp.int k) fun m => (Lit.int k m).wf = true := fun _ _ _ _ _ _ h _ => by
  obtain ⟨m, rfl, _, hw⟩ := DataW.trod_int hu h
  exact ⟨m, allrel_one (.int k m), hw⟩
theorem opens_byte (hu : P.underlying t = some (.int .u8)) : Opens P n t Rp.byte fun _ => True := fun _ _ _ _ _ _ h _ => by
  obtain ⟨m, rfl, _, hw⟩ := DataW.trod_int hu h
  have hb : 0 ≤ m ∧ m ≤ 255 := by simpa [Lit.wf, IntKind.min, IntKind.max, IntKind.bits, IntKind.signed] using hw
  have e1 : ((UInt8.ofNat m.toNat).toNat : Int) = m := by simp; omega
  refine ⟨UInt8.ofNat m.toNat, allrel_one ?_, trivial⟩
  rw [e1]; exact .int .u8 m
theorem opens_bool (hu : P.underlying t = some .bool) : Opens P n t Rp.bool fun _ => True := fun _ _ _ _ _ _ h _ => by
  obtain ⟨b, rfl, _⟩ := DataW.trod_bool hu h
  exact ⟨b, allrel_one (.bool b), trivial⟩
theorem opens_str (hu : P.underlying t = some .string) : Opens P n t Rp.str fun l => l.length ≤ 140737488351232 := fun _ _ _ _ _ _ h hz => by
  obtain ⟨s, rfl, rfl, hw⟩ := DataW.trod_string hu h
  exact ⟨s.data.toList, allrel_one (by have := LVrel.str (F := allF) (w := ‹World›) s.data.toList; simpa using this), hz _ (by simp [DataW.weights])⟩
theorem opens_zero {α : Type} {r : Rp α} {W : α → Prop} : Opens P 0 t r W := fun _ _ _ _ _ _ h _ => by simp [DataW.trod] at h
theorem lt_of_cell {w : World} {a : Addr} {v : Value} (h : w.cell? a = some v) : a.block < w.heap.size ∧ a.spot = none := by
  unfold World.cell? at h
  split at h
  · rename_i c e f hh
    refine ⟨(Array.getElem?_eq_some_iff.1 hh).1, ?_⟩
    split at h
    · cases h
    · rename_i hs; cases hsp : a.spot with
      | none => rfl
      | some x => rw [hsp] at hs; exact absurd rfl hs
  · cases h
theorem addr_add_add (a : Addr) (m k : Nat) : (a.add m).add k = a.add (m + k) := by
  unfold Addr.add
  by_cases h1 : m = 0
  · subst h1; simp
  · by_cases h2 : k = 0
    · subst h2; simp
    · have h3 : ¬ (m + k = 0) := by omega
      simp only [if_neg h1, if_neg h2, if_neg h3]
      congr 1
      omega
theorem addr_add_none {a : Addr} (h : a.spot = none) (i : Nat) : a.add i = ⟨a.block, a.off + i, none⟩ := by
  obtain ⟨b, o, s⟩ := a
  simp only at h
  subst h
  unfold Addr.add
  split
  · rename_i h0; subst h0; rfl
  · rfl
theorem opens_list {α : Type} {r : Rp α} {W : α → Prop} {B : Nat} (hu : P.underlying t = some (.slice e)) (hc : P.cellsOf e = r.size) (hB : P.bytesOf e = B) (h : Opens P n e r W) : Opens P (n + 1) t r.list fun xs => xs.length * B ≤ 140737488351232 ∧ ∀ x ∈ xs, W x := by
  intro H enc w spare held cs x hx hz
  rcases DataW.trod_slice hu hx with ⟨rfl, _⟩ | ⟨a, len, cap, elems, rest, m, hm, rfl, rfl, _, hl, hcap, hlen, hel, _⟩
  · exact ⟨[], allrel_one (.sl 0 _ _ _ 0 [] (by simp) (by simp) (Nat.le_refl _) (Nat.zero_le _) (fun h => absurd h (by omega)) (fun i l u h1 => by simp at h1)), by simp, fun x hx => by cases hx⟩
  · cases hm
    rw [hc] at hel
    -- element by element
    have each : ∀ i, i < len → ∃ y cs', w.cells? 0 (a.add (i * r.size)) r.size = some cs' ∧ AllRel allF w (r.lv y) cs' ∧ W y := by
      intro i hi
      have h1 := hel i hi
      rw [List.getElem?_eq_getElem (show i < elems.length by omega), Option.bind_eq_some_iff] at h1
      obtain ⟨cs', h2, h3⟩ := h1
      obtain ⟨y, h4, h5⟩ := h enc w spare held cs' _ h3 fun m hm => hz m (by
        simp only [DataW.weights, hu, List.mem_cons, List.mem_append]
        refine .inr (.inl (weights_mem_all (i := i) (d := (elems[i]'(by omega)).1) ?_ m hm))
        rw [List.getElem?_map, List.getElem?_eq_getElem (show i < elems.length by omega)]; rfl)
      exact ⟨y, cs', h2, h4, h5⟩
    have rows : ∀ k, k ≤ len → ∃ (ys : List α) (ds : List Value), ys.length = k ∧ AllRel allF w (ys.flatMap r.lv) ds ∧ (∀ y ∈ ys, W y) ∧ ∀ j, j < k * r.size → w.cell? (a.add j) = ds[j]? := by
      intro k
      induction k with
      | zero => exact fun _ => ⟨[], [], rfl, .nil, (fun y hy => by cases hy), fun j hj => by omega⟩
      | succ k ih =>
        intro hk
        obtain ⟨ys, ds, h1, h2, h3, h4⟩ := ih (by omega)
        obtain ⟨y, cs', h5, h6, h7⟩ := each k (by omega)
        obtain ⟨_, h8, h9⟩ := World.cells?_some h5
        have hds : ds.length = k * r.size := by rw [← h2.1, r.flat, h1]
        refine ⟨ys ++ [y], ds ++ cs', by simp [h1], ?_, ?_, fun j hj => ?_⟩
        · rw [List.flatMap_append]; simp only [List.flatMap_cons, List.flatMap_nil, List.append_nil]; exact h2.append h6
        · intro z hz
          rcases List.mem_append.1 hz with hz | hz
          · exact h3 z hz
          · simp at hz; subst hz; exact h7
        · rw [List.getElem?_append]
          split
          · rename_i hj'; exact h4 j (by omega)
          · rename_i hj'
            rw [Nat.succ_mul] at hj
            have := h9 (j - ds.length) (by omega)
            rw [← this, hds, addr_add_add]
            congr 2
            omega
    obtain ⟨ys, ds, h1, h2, h3, h4⟩ := rows len (Nat.le_refl _)
    have hds : ds.length = len * r.size := by rw [← h2.1, r.flat, h1]
    have hsz := hz ((elems.length + rest.length) * P.bytesOf e) (by simp [DataW.weights, hu])
    rw [hB] at hsz
    refine ⟨ys, allrel_one ?_, Nat.le_trans (Nat.mul_le_mul_right B (by omega)) hsz, h3⟩
    rw [h1]
    refine .sl len r.size _ (some a) cap ds (by rw [r.flat, h1]) hds hl hcap (fun h0 => ?_) h2.2
    have h0' : 0 < len * r.size := Nat.mul_pos h0 r.pos
    have hc0 := h4 0 h0'
    rw [List.getElem?_eq_getElem (show 0 < ds.length by omega)] at hc0
    obtain ⟨hb, hs⟩ := lt_of_cell hc0
    have hs' : a.spot = none := by unfold Addr.add at hs; split at hs <;> simp_all
    have hb' : a.block < w.heap.size := by unfold Addr.add at hb; split at hb <;> simp_all
    refine ⟨a.block, a.off, by cases a; simp at hs'; subst hs'; rfl, trivial, hb', fun i hi => ?_⟩
    have := h4 i hi
    rw [← this]
    congr 1
    exact (addr_add_none hs' i).symm
/-- One after another in a record. -/
def FOk (P : Program) (n : Nat) (fs : List Field) (off : Nat) (S : List LV → Prop) : Prop :=
  ∀ (H : Type) (enc : TypeId × Value → H) (w : World) (spare : Nat → Bool) (held : Bool) (cs : List Value), cs.length = off + (fs.map fun f => P.cellsOf f.type).sum →
    (∀ (i : Nat) (f : Field), fs[i]? = some f → ∃ x, DataW.trod enc P w 0 spare held n f.type ((cs.drop f.offset).take (P.cellsOf f.type)) = some x ∧ SzOk P f.type x.1) → ∃ ls, AllRel allF w ls (cs.drop off) ∧ S ls
theorem fok_nil {off : Nat} : FOk P n [] off fun ls => ls = [] := fun _ _ _ _ _ cs hl _ => by
  have : cs.drop off = [] := List.drop_eq_nil_of_le (by simp at hl; omega)
  exact ⟨[], by rw [this]; exact .nil, rfl⟩
theorem fok_cons {α : Type} {r : Rp α} {W : α → Prop} {f : Field} {fs : List Field} {off : Nat} {S : List LV → Prop} (h : Opens P n f.type r W) (ho : f.offset = off) (hc : P.cellsOf f.type = r.size) (k : FOk P n fs (off + r.size) S) :
    FOk P n (f :: fs) off fun ls => ∃ y ls', ls = r.lv y ++ ls' ∧ W y ∧ S ls' := by
  intro H enc w spare held cs hl hx
  obtain ⟨x, hx0, hz0⟩ := hx 0 f rfl
  rw [ho, hc] at hx0
  obtain ⟨y, hy, hw⟩ := h enc w spare held _ _ hx0 hz0
  obtain ⟨ls, h1, h2⟩ := k H enc w spare held cs (by simp [hc] at hl; omega) fun i g hg => hx (i + 1) g (by simpa using hg)
  refine ⟨r.lv y ++ ls, ?_, y, ls, rfl, hw, h2⟩
  have e : cs.drop off = (cs.drop off).take r.size ++ cs.drop (off + r.size) := by rw [← List.drop_drop, List.take_append_drop]
  rw [e]; exact hy.append h1
theorem opens_struct {α : Type} {r : Rp α} {W : α → Prop} {fs : Array Field} {S : List LV → Prop} (hu : P.underlying t = some (.struct fs)) (hc : P.cellsOf t = (fs.toList.map fun f => P.cellsOf f.type).sum) (hf : FOk P n fs.toList 0 S) (hy : ∀ ls, S ls → ∃ y, ls = r.lv y ∧ W y) : Opens P (n + 1) t r W := by
  intro H enc w spare held cs x hx hz
  obtain ⟨xs, m, hm, rfl, hl, hxl, hget⟩ := DataW.trod_struct hu hx
  cases hm
  obtain ⟨ls, h1, h2⟩ := hf H enc w spare held cs (by rw [hl, hc]; omega) fun i f hif => by
    have hi : i < xs.length := by rw [hxl]; have := (List.getElem?_eq_some_iff.1 hif).1; simpa using this
    refine ⟨xs[i], by rw [hget i f (by simpa using hif), List.getElem?_eq_getElem hi], fun m hm => hz m ?_⟩
    simp only [DataW.weights, hu]
    refine DataW.weights_mem_each (j := i) (t := f.type) (d := xs[i].1) (by rw [List.getElem?_map, hif]; rfl) (by rw [List.getElem?_map, List.getElem?_eq_getElem hi]; rfl) m hm
  obtain ⟨y, rfl, hw⟩ := hy ls h2
  exact ⟨y, by simpa using h1, hw⟩
/-- With every measure of depth. -/
def OpensA (P : Program) {α : Type} (t : TypeId) (r : Rp α) (W : α → Prop) : Prop := ∀ n, Opens P n t r W
theorem opensA_list {α : Type} {r : Rp α} {W : α → Prop} {B : Nat} (hu : P.underlying t = some (.slice e)) (hc : P.cellsOf e = r.size) (hB : P.bytesOf e = B) (h : OpensA P e r W) : OpensA P t r.list fun xs => xs.length * B ≤ 140737488351232 ∧ ∀ x ∈ xs, W x
  | 0 => opens_zero
  | n + 1 => opens_list hu hc hB (h n)
theorem opensA_struct {α : Type} {r : Rp α} {W : α → Prop} {fs : Array Field} {S : List LV → Prop} (hu : P.underlying t = some (.struct fs)) (hc : P.cellsOf t = (fs.toList.map fun f => P.cellsOf f.type).sum) (hf : ∀ n, FOk P n fs.toList 0 S) (hy : ∀ ls, S ls → ∃ y, ls = r.lv y ∧ W y) : OpensA P t r W
  | 0 => opens_zero
  | n + 1 => opens_struct hu hc (hf n) hy
end

/-! ### arguments -/

section
variable {P : Program} {H : Type} {enc : TypeId × Value → H} {w : World} {t e : TypeId} {v : Value} {d : DataW H} {ps : List MemPlace}
theorem all_gh0 {l : LV} (h : LVrel allF w l v) : LVrel ((gh0 allF).F [0]) w l v := LVrel.mono h fun b _ _ => by
  show (gh0 allF).col b ∈ [0]
  rw [gh0_col allF b trivial]; exact List.mem_cons_self
theorem arg_int {k : IntKind} (hu : P.underlying t = some (.int k)) (hval : Value.okWide P w .any 0 t v) (h : DataW.Trod enc P w 0 (fun _ => true) true t v d ps) (_hz : SzOk P t d) : ∃ m : Int, AV.rel (gh0 allF) w (.lf (.int k m)) v ∧ (Lit.int k m).wf = true := by
  obtain ⟨m, rfl, _, _, hw⟩ := open_int hu hval h
  exact ⟨m, ⟨rfl, .int k m⟩, hw⟩
theorem arg_bool (hu : P.underlying t = some .bool) (hval : Value.okWide P w .any 0 t v) (_h : DataW.Trod enc P w 0 (fun _ => true) true t v d ps) (_hz : SzOk P t d) : ∃ b : Bool, AV.rel (gh0 allF) w (.lf (.bool b)) v ∧ True := by
  obtain ⟨b, rfl⟩ := okWide_bool hu hval
  exact ⟨b, ⟨rfl, .bool b⟩, trivial⟩
theorem arg_str (hu : P.underlying t = some .string) (hval : Value.okWide P w .any 0 t v) (h : DataW.Trod enc P w 0 (fun _ => true) true t v d ps) (hz : SzOk P t d) : ∃ l : List UInt8, AV.rel (gh0 allF) w (.lf (.str l)) v ∧ l.length ≤ 140737488351232 := by
  obtain ⟨s, rfl⟩ := okWide_string hu hval
  obtain ⟨fuel, hf⟩ := h
  obtain ⟨s', hs, hd, hw⟩ := DataW.trod_string hu hf
  simp [Value.cells] at hs
  subst hs
  cases hd
  exact ⟨s.data.toList, ⟨rfl, by have := LVrel.str (F := fun _ => False) (w := w) s.data.toList; simpa using this⟩, hz _ (by simp [DataW.weights])⟩
theorem arg_sl {α : Type} {r : Rp α} {W : List α → Prop} (hu : P.underlying t = some (.slice e)) (ho : OpensA P t r.list W) (hval : Value.okWide P w .any 0 t v) (h : DataW.Trod enc P w 0 (fun _ => true) true t v d ps) (hz : SzOk P t d) : ∃ xs : List α, AV.rel (gh0 allF) w (.sl r [0] xs) v ∧ W xs := by
  obtain ⟨a, len, cap, rfl⟩ := okWide_slice hu hval
  obtain ⟨fuel, hf⟩ := h
  obtain ⟨y, hy, hw⟩ := ho fuel enc w _ _ _ _ hf hz
  have hy' : AllRel allF w [.sl y.length r.size (y.flatMap r.lv)] [.slice a len cap] := hy
  obtain ⟨u, hu', hl⟩ := hy'.single
  cases hu'
  exact ⟨y, all_gh0 hl, hw⟩
theorem arg_rc {α : Type} {r : Rp α} {W : α → Prop} {fs : Array Field} (hu : P.underlying t = some (.struct fs)) (ho : OpensA P t r W) (hval : Value.okWide P w .any 0 t v) (h : DataW.Trod enc P w 0 (fun _ => true) true t v d ps) (hz : SzOk P t d) : ∃ x : α, AV.rel (gh0 allF) w (.rc r [0] x) v ∧ W x := by
  unfold Value.okWide at hval
  rw [hu] at hval
  obtain ⟨cs, rfl, _, _⟩ := hval
  obtain ⟨fuel, hf⟩ := h
  obtain ⟨y, hy, hw⟩ := ho fuel enc w _ _ _ _ hf hz
  exact ⟨y, ⟨cs.toList, by simp, ⟨hy.1, fun i l u h1 h2 => by
    have := hy.2 i l u h1 h2
    refine LVrel.mono this fun b _ _ => ?_
    show (gh0 allF).col b ∈ [0]
    rw [gh0_col allF b trivial]; exact List.mem_cons_self⟩⟩, hw⟩
end
/-- A law's call. -/
theorem law_calls {P : Program} {f : FuncId} {ins : List AV} {b : Bool} (h : FnOk P f ins [.lf (.bool b)]) (hb : b = true) {w : World} {vs : List Value} (hr : AV.relL (gh0 allF) w ins vs) :
    Calls P f vs.toArray w fun e w' => e = .returned (.bool true) ∧ Below w.heap.size w w' := by
  subst hb
  refine (h w allF vs hr).mono ?_
  rintro e w' ⟨γ, us, rfl, hbel, _, v, us', rfl, hv, hu⟩
  have hu' : us' = [] := hu
  subst hu'
  exact ⟨by rw [lf_bool hv]; rfl, hbel⟩
end Go.Proofs.Ytnhnanbgphdaeaa
