/-
  A slice of bytes that reads as a list of bytes: nil, empty or not; kept while memory below its block is as it was. No condition.
-/
import Derived.Test.YtkfjhbffoadlhaaProg
import Derived.WalkKit
import Derived.Laws.OwnMore
import Derived.Laws.BytesArg
import Derived.Laws.IdiomStrings
import Derived.Lib.Hide
namespace Go.Proofs.Ytkfjhbffoadlhaa
open Go.RowKit

abbrev bval (c : UInt8) : Value := .int .u8 (c.toNat : Int)
/-- The slice value '.slice A n c' reads as the bytes l, and lies below block B. -/
def RS (w : World) (B : Nat) (A : Option Addr) (n c : Nat) (l : List UInt8) : Prop :=
  l.length = n ∧ n ≤ c ∧ c ≤ maxLen ∧ (0 < n → ∃ b off, A = some ⟨b, off, none⟩ ∧ b < B ∧ ∀ j, j < n → w.cell? ⟨b, off + j, none⟩ = some (bval (l.getD j 0)))

section
variable {w w' : World} {B B' n c : Nat} {A : Option Addr} {l : List UInt8}
theorem RS.len (h : RS w B A n c l) : l.length = n := h.1
theorem RS.le (h : RS w B A n c l) : n ≤ maxLen := Nat.le_trans h.2.1 h.2.2.1
theorem RS.nil_ (w : World) (B : Nat) : RS w B none 0 0 [] := ⟨rfl, Nat.le_refl _, Nat.zero_le _, fun h => absurd h (by omega)⟩
theorem RS.keep (h : RS w B A n c l) (hk : ∀ p : Addr, p.block < B → w'.cell? p = w.cell? p) : RS w' B A n c l :=
  ⟨h.1, h.2.1, h.2.2.1, fun hn => by
    obtain ⟨b, off, e, hb, hc⟩ := h.2.2.2 hn
    exact ⟨b, off, e, hb, fun j hj => (hk ⟨b, off + j, none⟩ hb).trans (hc j hj)⟩⟩
theorem RS.more (h : RS w B A n c l) (hB : B ≤ B') : RS w B' A n c l :=
  ⟨h.1, h.2.1, h.2.2.1, fun hn => by
    obtain ⟨b, off, e, hb, hc⟩ := h.2.2.2 hn
    exact ⟨b, off, e, by omega, hc⟩⟩
theorem RS.below (h : RS w B A n c l) (hb : Below B w w') : RS w' B A n c l := h.keep fun _ hp => hb.cell hp
theorem RS.alloc (h : RS w B A n c l) (hB : B ≤ w.heap.size) (o : Obj) : RS (w.alloc o) B A n c l := h.keep fun p hp => World.cell?_alloc_lt w o p (by omega)
theorem RS.of_own {base : Nat} {e : TypeId} (h : w.ownsRow base e 1 (.slice A n c) n (l.map bval)) (hB : w.heap.size ≤ B) : RS w B A n c l := by
  have hl : l.length = n := by simpa using h.1
  rcases h.2 with ⟨hv, hn⟩ | ⟨g, cap, cur, hv, _, hh, hnc, hcm, hcs, hcur⟩
  · injection hv with h1 h2 h3
    subst h1 h2 h3
    exact ⟨hl, Nat.le_refl _, Nat.zero_le _, fun h => absurd h (by omega)⟩
  · have hlt := (h.lt g (by rw [hv]; rfl)).2
    have hcell := h.cells (g := g) (by rw [hv]; rfl)
    injection hv with h1 h2 h3
    subst h1 h3
    refine ⟨hl, hnc, hcm, fun _ => ⟨g, 0, rfl, by omega, fun j hj => ?_⟩⟩
    have := hcell j (bval (l.getD j 0)) (by simp [List.getElem?_map, List.getElem?_eq_getElem (show j < l.length by omega)])
    rw [← this]
    unfold Addr.add
    split <;> simp_all
theorem own_form {base : Nat} {e : TypeId} {size : Nat} {v : Value} {xs : List Value} (h : w.ownsRow base e size v n xs) : ∃ A c, v = .slice A n c := by
  rcases h.2 with ⟨hv, hn⟩ | ⟨g, cap, cur, hv, _⟩
  · subst hn; exact ⟨_, _, hv⟩
  · exact ⟨_, _, hv⟩
/-- The string of such a slice. -/
theorem RS.conv {P : Program} (h : RS w B A n c l) (src dst e : TypeId) (hs : P.underlying src = some (.slice e)) (he : P.underlying e = some (.int .u8)) (hd : P.underlying dst = some .string) :
    (convert src dst (.slice A n c)).run P w = .ok (.string ⟨l.toArray⟩) w := by
  rcases Nat.eq_zero_or_pos n with h0 | h0
  · subst h0
    have hl : l = [] := List.eq_nil_of_length_eq_zero h.1
    subst hl
    rcases A with _ | a
    · exact run_convert_bytes_nil w src e hs he 0 c dst hd
    · exact run_convert_bytes_back w src dst e a c [] hs he hd (fun j hj => absurd hj (by simp))
  · obtain ⟨b, off, rfl, _, hc⟩ := h.2.2.2 h0
    have hl := h.1
    subst hl
    refine run_convert_bytes_back w src dst e _ c l hs he hd fun j hj => ?_
    have := hc j hj
    have e2 : (⟨b, off, none⟩ : Addr).add j = ⟨b, off + j, none⟩ := by unfold Addr.add; split <;> simp_all
    rw [e2, this]
    simp [List.getD, List.getElem?_eq_getElem hj]
end

/-- WHAT THE WALK IS TOLD OF A SLICE OF INTEGERS THAT CAME IN, and what it reads as. -/
theorem RS.of_row {w : World} {a : Option Addr} {len cap : Nat} {zs : List Int}
    (h : (a = none ∧ len = 0 ∧ cap = 0 ∧ zs = []) ∨ ∃ x, a = some x ∧ len ≤ cap ∧ cap ≤ maxLen ∧ zs.length = cap ∧ (∀ i, i < zs.length → w.cell? (x.add i) = some (.int .u8 (zs.getD i 0))) ∧ ∀ n ∈ zs, (Lit.int .u8 n).wf = true) :
    ∃ l, RS w w.heap.size a len cap l := by
  rcases h with ⟨rfl, rfl, rfl, rfl⟩ | ⟨x, rfl, hl, hm, hz, hc, hwf⟩
  · exact ⟨[], RS.nil_ _ _⟩
  · refine ⟨(zs.take len).map fun z => UInt8.ofNat z.toNat, by simp; omega, hl, hm, fun h0 => ?_⟩
    obtain ⟨b, off, spot⟩ := x
    have hc0 := hc 0 (by omega)
    have hspot : spot = none := by simpa [Addr.add] using World.cell?_spot hc0
    subst hspot
    refine ⟨b, off, rfl, World.block_lt_of_cell? w _ hc0, fun j hj => ?_⟩
    have hj' : j < zs.length := by omega
    have e2 : (⟨b, off, none⟩ : Addr).add j = ⟨b, off + j, none⟩ := by unfold Addr.add; split <;> simp_all
    have := hc j hj'
    rw [e2] at this
    rw [this]
    have hw := hwf (zs.getD j 0) (by simp [List.getD, List.getElem?_eq_getElem hj'])
    have hb : 0 ≤ zs.getD j 0 ∧ zs.getD j 0 ≤ 255 := by simpa [Lit.wf, IntKind.min, IntKind.max, IntKind.bits, IntKind.signed] using hw
    have e3 : ((zs.take len).map fun z => UInt8.ofNat z.toNat).getD j 0 = UInt8.ofNat (zs.getD j 0).toNat := by
      simp [List.getD, hj, List.getElem?_eq_getElem hj']
    rw [e3]
    generalize zs.getD j 0 = z at hb
    unfold bval
    congr 2
    have e4 : (UInt8.ofNat z.toNat).toNat = z.toNat % 256 := by simp
    rw [e4]
    omega
end Go.Proofs.Ytkfjhbffoadlhaa
