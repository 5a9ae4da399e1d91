/-
  The laws as plain functions. No condition.
-/
import Derived.Shelf.SortM.Plain
import Derived.Shelf.SortM.SortNone
import Derived.Sort.OwnSorted
import Derived.Shelf.SlicesG.CompactS
import Derived.Test.YtglkepeofhonlaaGreatDoorK2
namespace Go.Proofs.YtglkepeofhonlaaGreatDoor
open Go Go.RowKit Go.Sort Go.Shelf
theorem zrc : ∀ l : List (List UInt8), l.flatMap Rp.str.lv = l.map LV.str
  | [] => rfl
  | z :: l => by rw [List.flatMap_cons, List.map_cons, zrc l]; rfl
theorem zpv {F : Fp} {w : World} {xs : List (List UInt8)} {cs : List Value} (h : zab F w (xs.flatMap Rp.str.lv) cs) : cs = xs.map encStr := by
  rw [zrc] at h
  obtain ⟨hl, hr⟩ := h
  apply List.ext_getElem?
  intro i
  rw [List.getElem?_map]
  cases hx : xs[i]? with
  | none =>
    rw [List.getElem?_eq_none_iff] at hx
    rw [List.length_map] at hl
    rw [List.getElem?_eq_none (by omega)]; rfl
  | some x =>
    have hi : i < cs.length := by
      have := (List.getElem?_eq_some_iff.1 hx).1
      rw [List.length_map] at hl
      omega
    have h1 := hr i (.str x) cs[i] (by rw [List.getElem?_map, hx]; rfl) (List.getElem?_eq_getElem hi)
    rw [List.getElem?_eq_getElem hi]
    generalize cs[i] = u at h1
    cases h1
    rfl
theorem ztm {F : Fp} {w : World} (xs : List (List UInt8)) : zab F w (xs.flatMap Rp.str.lv) (xs.map encStr) := by
  rw [zrc]
  refine ⟨by simp, fun i l u h1 h2 => ?_⟩
  rw [List.getElem?_map] at h1 h2
  cases hx : xs[i]? with
  | none => rw [hx] at h1; cases h1
  | some x => rw [hx] at h1 h2; cases h1; cases h2; exact .str x
theorem zBh {P : Program} {ρ : Ren} (L : SlLaysM.n6 P ρ) (e : TypeId) {x r : List (List UInt8)} (h : zyO x = some r) : zkj P (ρ.f 6) [.own Rp.str e 2 [0] x] [] [.own Rp.str e 2 [] r] := by
  unfold zyO at h
  split at h
  case isFalse => cases h
  rename_i hlt
  cases h
  intro w γ0 vs hr
  obtain ⟨v, vs', rfl, ⟨cs, ho, hg, hA, hn⟩, hv⟩ := hr
  cases hv
  obtain rfl := zpv hA
  have hlen : (zhS x).length = x.length := by simp [zhS]
  rcases ho.2 with ⟨rfl, h0⟩ | ⟨g, cap, cur, rfl, _, hb, h1, h2, h3, h4⟩
  · have hx : x = [] := List.eq_nil_of_length_eq_zero h0
    subst hx
    refine (AnyM.slices_Sort_string_none L none 0 w).mono ?_
    rintro e w' ⟨rfl, rfl⟩
    refine ⟨⟨fun b => if b < w'.heap.size then γ0.col b else 1, γ0.box⟩, [], rfl, ⟨⟨rfl, rfl, rfl, Nat.le_refl _⟩, fun b hb h => ⟨by simp [hb], rfl⟩, fun b hb h => by simp only [if_pos hb]; omega, fun b k1 k2 => by omega⟩, rfl, ?_⟩
    rw [show zhS [] = [] by simp [zhS]]
    exact ⟨_, [], rfl, ⟨[], ho, fun g hg => (by simp [Value.ownBlock] at hg), ztm [], by simp⟩, rfl⟩
  · have hgl : g < w.heap.size := (Array.getElem?_eq_some_iff.1 hb).1
    obtain ⟨g1, g2⟩ := hg g rfl
    have c := AnyM.slices_Sort_string L g 0 cap x w (holds_of_block hb (by simpa [Rp.str] using h4)) hgl hlt
    refine c.mono ?_
    rintro e w' ⟨rfl, n, os, rfl⟩
    obtain ⟨b1, b2, b3, b4, b5⟩ := grownBy_sorted (w := w) (g := g) (n := n) (os := os) (zhS x).toArray
    refine ⟨⟨fun b => if b < w.heap.size then γ0.col b else 1, γ0.box⟩, [], rfl, ⟨⟨b1, b2, b3, b4⟩, fun b hb h => ⟨by simp [hb], b5 b hb fun e => ?_⟩, fun b hb h => by simp only [if_pos hb]; omega, fun b k1 k2 => by simp [Nat.not_lt.2 k1]⟩, rfl, ?_⟩
    · cases e; omega
    · refine ⟨_, [], rfl, ⟨(zhS x).map encStr, ?_, fun g' hg' => ?_, ztm _, by simp⟩, rfl⟩
      · have := ownsRow_sorted (n := n) (os := os) hlen (Nat.zero_le _) hb h1 h2 h3
        rw [hlen]; exact this
      · cases hg'
        exact ⟨by simp [hgl, g1], g2⟩
theorem ztN : ∀ (l : List (List UInt8)) (p : Option (List UInt8)), (zig p l).length ≤ l.length
  | [], _ => Nat.le_refl _
  | x :: l, p => by
    have := ztN l (some x)
    rw [zig]
    split <;> simp <;> omega
theorem zAd (d : Array (List UInt8)) : ∀ (l : List (List UInt8)) (m : Nat), d.toList.drop m = l → m ≤ d.size → Go.Lib.compactUpTo d d.size = Go.Lib.compactUpTo d m ++ zig (if m = 0 then none else some d[m - 1]!) l := by
  intro l
  induction l with
  | nil =>
    intro m hm hle
    have hl : d.toList.length ≤ m := by simpa using hm
    have : m = d.size := by simp at hl; omega
    subst this
    simp [zig]
  | cons x l ih =>
    intro m hm hle
    have hlt : m < d.size := by
      have := congrArg List.length hm
      simp at this; omega
    have hx : d[m]! = x := by
      have h1 := congrArg (fun l : List (List UInt8) => l[0]?) hm
      simp only [List.getElem?_drop, Nat.add_zero, List.getElem?_cons_zero] at h1
      rw [Array.getElem?_toList] at h1
      rw [getElem!_def, h1]
    have hd : d.toList.drop (m + 1) = l := by rw [← List.drop_drop, hm]; rfl
    rw [ih (m + 1) hd hlt, Go.Lib.compactUpTo_succ, if_neg (Nat.succ_ne_zero m), Nat.add_sub_cancel, hx, zig, List.append_assoc]
    congr 1
    by_cases h0 : m = 0
    · subst h0
      simp [Go.Lib.keeps]
    · simp only [if_neg h0]
      by_cases h1 : d[m - 1]! = x
      · have : Go.Lib.keeps d m = false := Go.Lib.keeps_neg (by omega) (by rw [hx, h1])
        simp [this, h1]
      · have : Go.Lib.keeps d m = true := Go.Lib.keeps_pos (by rw [hx]; exact fun e => h1 e.symm)
        simp [this, h1]
theorem zAe (l : List (List UInt8)) : Go.Lib.compact l = zcv l := by
  have := zAd l.toArray l 0 (by simp) (Nat.zero_le _)
  simpa [Go.Lib.compact, Go.Lib.compactUpTo, zcv] using this
def zzP (P : Program) (f : FuncId) : Prop :=
  ∀ (e : TypeId) (w : World) (v : Value) (xs : List (List UInt8)), w.ownsRow 0 e 1 v xs.length (xs.map encStr) → Calls P f #[v] w fun e1 w' => ∃ v', e1 = .returned v' ∧ w.grownBy w' v.ownBlock ∧ w'.heap.size = w.heap.size ∧
    w'.ownsRow 0 e 1 v' (zcv xs).length ((zcv xs).map encStr) ∧ ∀ g, v'.ownBlock = some g → v.ownBlock = some g
theorem zBC {P : Program} {ρ : Ren} (L : SlLaysN.n44 P ρ) : zzP P (ρ.f 44) := by
  intro e w v xs ho
  rcases ho.2 with ⟨rfl, h0⟩ | ⟨g, cap, cur, rfl, _, hb, h1, h2, h3, h4⟩
  · have hx : xs = [] := List.eq_nil_of_length_eq_zero h0
    subst hx
    refine (AnyG.slices_Compact_string_empty L none 0 w).mono ?_
    rintro e1 w' ⟨rfl, rfl⟩
    exact ⟨_, rfl, ⟨rfl, rfl, rfl, Nat.le_refl _, fun k _ _ => rfl⟩, rfl, ho, fun g hg => hg⟩
  · have c := AnyG.slices_Compact_string L g 0 cap xs w (holds_of_block hb (by simpa using h4)) (by unfold maxLen at h2; omega) h1
    rw [zAe] at c
    refine c.mono ?_
    rintro e1 w' ⟨rfl, q, rfl⟩
    have hle : (zcv xs).length ≤ xs.length := ztN xs none
    have hl : (zcv xs ++ List.replicate (xs.length - (zcv xs).length) ([] : List UInt8)).length = xs.length := by simp; omega
    obtain ⟨b1, b2, b3, b4, b5⟩ := grownBy_sorted (w := w) (g := g) (n := q) (os := #[]) (zcv xs ++ List.replicate (xs.length - (zcv xs).length) ([] : List UInt8)).toArray
    have hh := heap_sorted (n := q) (os := #[]) (zcv xs ++ List.replicate (xs.length - (zcv xs).length) ([] : List UInt8)).toArray hb
    rw [grow_empty] at b1 b2 b3 b4 b5 hh
    refine ⟨_, rfl, ⟨b1, b2, b3, b4, b5⟩, by simp [putRow, mapBlock, Sort.ahead], ⟨by simp, .inr ⟨g, cap, _, rfl, Nat.zero_le _, hh, by omega, h2, by simp [putCells, h3], ?_⟩⟩, fun g' hg' => hg'⟩
    have ht := take_putCells cur (zcv xs ++ List.replicate (xs.length - (zcv xs).length) ([] : List UInt8)) (by rw [hl, h3]; omega)
    have ht2 := congrArg (List.take (zcv xs).length) ht
    rw [List.take_take, hl, Nat.min_eq_left hle] at ht2
    rw [Nat.mul_one, ht2]
    simp
theorem zCC {P : Program} {o : Oper} {f : FuncId} {x : Operand} {ts : Array TypeId} {e : TypeId} {ℓ : Nat} {C : List Nat} {xs : List (List UInt8)} (ho : o.op = .call ⟨.value (.func f), #[x], ts⟩) (hc : ∀ us w, (callFunc f us).run P w = .ok (.enter f us) w) (ok : zzP P f) :
    zL P o [(x, .own Rp.str e ℓ C xs)] [] [ℓ] [] (.own Rp.str e ℓ C (zcv xs)) [] := by
  intro γ a w hi hb next Q hk
  obtain ⟨cs, hown, hgb, hA, hnC⟩ := hi (x, .own Rp.str e ℓ C xs) (by simp)
  simp only at hown hgb
  obtain rfl := zpv hA
  have hrun : (execOp a.eval o).run P w = .ok (.enter f #[a.eval x]) w := by simp [execOp, ho, resolve, Act.eval, Deferred.ofValue, invoke, hc]
  unfold Oper.wp
  rw [hrun, Oper.upon_enter]
  refine (ok e w (a.eval x) xs hown).mono fun e1 w' ⟨v', he, hgr, hsz, hown', hbl⟩ => ?_
  subst he
  refine hk γ w' v' ⟨hgr.os, hgr.tape, hgr.output, hgr.size, fun b hb hn => hgr.block b hb fun e1 => ?_, fun b _ => rfl, fun ℓ _ => rfl, fun b k1 k2 => by omega⟩ ⟨_, hown', fun g hg => hgb g (hbl g hg), ztm _, hnC⟩ (fun b hb => by cases hb)
  exact hn (by rw [(hgb b e1.symm).1]; exact List.mem_cons_self)
end Go.Proofs.YtglkepeofhonlaaGreatDoor
