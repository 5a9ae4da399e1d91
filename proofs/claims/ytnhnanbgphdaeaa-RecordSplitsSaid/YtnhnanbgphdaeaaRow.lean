/-
  Rows that a function has made itself, written place by place; rows that a text's bytes were laid into. No condition.
-/
import Derived.Test.YtnhnanbgphdaeaaFast
import Derived.Lib.SlBytesConst
namespace Go.Proofs.Ytnhnanbgphdaeaa
open Go Go.RowKit

/-- The address of a place of a row of its own. -/
theorem lo_ixo {P : Program} {o : Oper} {α : Type} {r : Rp α} {e ℓ : Nat} {C : List Nat} {xs : List α} {k : IntKind} {i : Int} {x : α} {t e' : TypeId} {y z : Operand} {bytes : Nat}
    (ho : o.op = .indexAddr t y z) (hT : ElT P t e' r.size bytes) (hx : idx xs i = some x) : LocalOk P o [(y, .own r e ℓ C xs), (z, .lf (.int k i))] [] [] [] (.ptr ℓ (i.toNat * r.size)) [] := by
  refine localOk_value fun γ ev w hi _ => ?_
  obtain ⟨cs, hown, hg, hA, hn⟩ := hi (y, .own r e ℓ C xs) (by simp)
  have h2 := lf_int (hi (z, .lf (.int k i)) (by simp))
  simp only at hown hg h2
  obtain ⟨i0, i1, _⟩ := idx_some hx
  rcases hown.2 with ⟨_, hz⟩ | ⟨g, cap, cur, hv, _, hh, hnc, hcm, hcs, htake⟩
  · omega
  · have hbox := (hg g (by rw [hv]; rfl)).2
    refine ⟨.pointer (some ⟨g, 0 + i.toNat * r.size, none⟩), w, γ, by simp [execOp, ho, hv, h2, run_indexAt hT w g 0 _ cap k i i0 i1], Tr.refl _ _ _ _, ?_, fun b hb => by cases hb⟩
    show _ = _
    rw [hbox, Nat.zero_add]
theorem flat_set {α : Type} (r : Rp α) (xs : List α) (i f : Nat) (x x' : α) (ls : List LV) (hx : xs[i]? = some x) (hf : f + ls.length ≤ r.size) (h : r.lv x' = (r.lv x).take f ++ ls ++ (r.lv x).drop (f + ls.length)) :
    (xs.set i x').flatMap r.lv = (xs.flatMap r.lv).take (i * r.size + f) ++ ls ++ (xs.flatMap r.lv).drop (i * r.size + f + ls.length) := by
  have hi := (List.getElem?_eq_some_iff.1 hx).1
  have hs : xs = xs.take i ++ x :: xs.drop (i + 1) := by
    have h1 := (List.getElem?_eq_some_iff.1 hx).2
    rw [← h1, ← List.drop_eq_getElem_cons hi, List.take_append_drop]
  have hA : ((xs.take i).flatMap r.lv).length = i * r.size := by rw [r.flat, List.length_take, Nat.min_eq_left (by omega)]
  have hB := r.len x
  have e : xs.flatMap r.lv = (xs.take i).flatMap r.lv ++ (r.lv x ++ (xs.drop (i + 1)).flatMap r.lv) := by
    have := congrArg (List.flatMap r.lv) hs
    rw [List.flatMap_append, List.flatMap_cons] at this
    exact this
  have e1 : (xs.flatMap r.lv).take (i * r.size + f) = (xs.take i).flatMap r.lv ++ (r.lv x).take f := by
    rw [e, List.take_append, hA, List.take_of_length_le (by omega), Nat.add_sub_cancel_left, List.take_append_of_le_length (by omega)]
  have e2 : (xs.flatMap r.lv).drop (i * r.size + f + ls.length) = (r.lv x).drop (f + ls.length) ++ (xs.drop (i + 1)).flatMap r.lv := by
    rw [e, List.drop_append, hA, List.drop_eq_nil_of_le (by omega), List.nil_append, show i * r.size + f + ls.length - i * r.size = f + ls.length by omega, List.drop_append_of_le_length (by omega)]
  rw [List.set_eq_take_append_cons_drop, if_pos hi, List.flatMap_append, List.flatMap_cons, h, e1, e2]
  simp only [List.append_assoc]
theorem set_all {α : Type} {r : Rp α} {x' : α} {ls : List LV} (h : ls = r.lv x') (x : α) : r.lv x' = (r.lv x).take 0 ++ ls ++ (r.lv x).drop (0 + ls.length) := by
  subst h
  rw [List.take_zero, List.nil_append, List.drop_eq_nil_of_le (by rw [r.len, r.len]; omega), List.append_nil]
theorem set_byte {v : Int} {y : UInt8} (h : byteO v = some y) (x : UInt8) : Rp.byte.lv y = (Rp.byte.lv x).take 0 ++ [LV.int .u8 v] ++ (Rp.byte.lv x).drop (0 + [LV.int .u8 v].length) := by rw [byteO_eq h]; rfl
theorem idx_get {α : Type} {xs : List α} {i : Int} {x : α} (h : idx xs i = some x) : xs[i.toNat]? = some x := by
  unfold idx at h
  split at h
  · exact h
  · cases h
/-- A place of a row of its own is written. -/
theorem ro_set {P : Program} {N : Nat} {ops : Array Oper} {rest : List Oper} {E E' : Env} {o : Oper} {α : Type} {r : Rp α} {e ℓ : Nat} {C : List Nat} {xs : List α} {t : TypeId} {y z : Operand} {a : AV} {ls : List LV} {off : Nat}
    (ks : List Nat) (i f : Nat) (x x' : α) (C2 : List Nat) (hg : guardOf ops E o = some true) (ho : o.op = .store t y z) (hd : o.dst = none) (hy : E.opd y = some (.ptr ℓ off)) (hz : E.opd z = some a) (hp : partLV a = some ls) (hsz : ∀ w, (sizeOf t).run P w = .ok ls.length w)
    (hoff : off = i * r.size + f) (hk : E.pick ks [] = some ⟨ks.map fun k => (k, .own r e ℓ C xs), []⟩) (hne : ks.isEmpty = false) (hx : xs[i]? = some x) (hf : Nat.ble (f + ls.length) r.size = true)
    (hx' : r.lv x' = (r.lv x).take f ++ ls ++ (r.lv x).drop (f + ls.length)) (hC : (subN a.cols C2 && subN C C2 && !memN ℓ C2 && Nat.ble 2 ℓ) = true)
    (k : RegOk P N ops rest ⟨(ks.map fun k => (k, .own r e ℓ C2 (xs.set i x'))) ++ (E.step [ℓ] [] none .any []).sl, (E.step [ℓ] [] none .any []).bx⟩ E') : RegOk P N ops (o :: rest) E E' := by
  intro cx a' w Q hn hs hQ
  simp only [Bool.and_eq_true] at hC
  obtain ⟨⟨⟨hC1, hC2⟩, hC3⟩, hC4⟩ := hC
  have hs2 := hs
  obtain ⟨γ, hB, hS, hX⟩ := hs
  have hsl : ∀ kk ∈ ks, AV.rel γ w (.own r e ℓ C xs) (a'.tmps.getD kk undef) := by
    have hS1 : Sl γ w a' (ks.map fun k => (k, AV.own r e ℓ C xs)) := by
      have hk' := hk
      unfold Env.pick at hk'
      split at hk'
      · rename_i s b h1 h2
        simp only [Option.some.injEq, Env.mk.injEq] at hk'
        rw [← hk'.1]
        exact fun p hp => hS p (pickSl_mem _ _ h1 p hp)
      · cases hk'
    intro kk hkk
    exact hS1 (kk, .own r e ℓ C xs) (List.mem_map.2 ⟨kk, hkk, rfl⟩)
  obtain ⟨k0, hk0⟩ : ∃ k0, k0 ∈ ks := by
    cases ks with
    | nil => cases hne
    | cons k0 ks => exact ⟨k0, List.mem_cons_self⟩
  obtain ⟨cs, hown, hgb, hA, hnC⟩ := hsl k0 hk0
  have hi := (List.getElem?_eq_some_iff.1 hx).1
  rcases hown.2 with ⟨_, hz0⟩ | ⟨g, cap, cur, hv, _, hh, hnc, hcm, hcs, htake⟩
  · omega
  · obtain ⟨hcol, hbox⟩ := hgb g (by rw [hv]; rfl)
    have hf' := Nat.le_of_ble_eq_true hf
    have h1 : a'.eval y = .pointer (some ⟨g, off, none⟩) := by
      have := Env.opd_rel hy hS
      rw [show a'.eval y = _ from this, hbox]
    have hzr := Env.opd_rel hz hS
    have hV := partLV_rel hp hzr hC1
    have hVl : (a'.eval z).cells.toList.length = ls.length := hV.1.symm
    have hcl : cs.length = xs.length * r.size := hown.1
    have hin : i * r.size + f + ls.length ≤ xs.length * r.size := by
      have : (i + 1) * r.size ≤ xs.length * r.size := Nat.mul_le_mul_right _ hi
      rw [Nat.succ_mul] at this
      omega
    have hcap : xs.length * r.size ≤ cap * r.size := Nat.mul_le_mul_right _ hnc
    have hst := run_storeCells_at P g off e (a'.eval z).cells.toList 0 cur w hh (by rw [hVl, hoff, hcs]; omega) hV.one
    simp only [Nat.add_zero, hVl] at hst
    have hrun : (execOp a'.eval o).run P w = .ok .skip (w.setRow g (cur.toList.take off ++ (a'.eval z).cells.toList ++ cur.toList.drop (off + ls.length)).toArray) := by
      have hsz' : (a'.eval z).cells.size = ls.length := by simpa using hVl
      simp [execOp, ho, h1, Instr.storeAt, Instr.sureAddr, storeVar, hsz, hsz', hst]
    have hcol' : γ.col (γ.box ℓ) = ℓ := by rw [hbox]; exact hcol
    have ht := tr_set (w := w) hcol' (cur.toList.take off ++ (a'.eval z).cells.toList ++ cur.toList.drop (off + ls.length)).toArray
    rw [hbox] at ht
    unfold wpList
    rw [if_pos (guardOf_spec hg hS)]
    refine .inl ?_
    unfold Oper.wp
    rw [hrun, Oper.upon_skip, hd]
    have hnot : ∀ c ∈ C2, c ∉ [ℓ] := fun c hc h => by
      simp only [List.mem_cons, List.not_mem_nil, or_false] at h
      subst h
      exact not_memN hC3 hc
    have hA2 : AllRel (γ.F C2) w (xs.flatMap r.lv) cs := hA.mono fun b _ hb => subN_spec hC2 _ hb
    refine k cx _ _ Q hn ⟨γ, (hB.tr ht (W := [ℓ]) (by simp [okW, hC4])).put _ _, ?_, hX.tr ht⟩ hQ
    intro p hp
    rcases List.mem_append.1 hp with hp | hp
    · obtain ⟨kk, hkk, rfl⟩ := List.mem_map.1 hp
      obtain ⟨cs1, hown1, hgb1, _, _⟩ := hsl kk hkk
      show AV.rel γ _ (.own r e ℓ C2 (xs.set i x')) (a'.tmps.getD kk undef)
      rcases hown1.2 with ⟨_, hz0⟩ | ⟨g1, cap1, cur1, hv1, _, hh1, hnc1, hcm1, hcs1, htake1⟩
      · omega
      · have hg1 : g1 = g := by rw [← (hgb1 g1 (by rw [hv1]; rfl)).2, hbox]
        subst hg1
        rw [hh] at hh1
        simp only [Option.some.injEq, Obj.cells.injEq] at hh1
        obtain ⟨rfl, _⟩ := hh1
        have ecs : cs1 = cs := by rw [← htake1, ← htake]
        subst ecs
        have hcurl : cur.toList.length = cap * r.size := by rw [Array.length_toList, hcs]
        have hcap1 : xs.length * r.size ≤ cap1 * r.size := Nat.mul_le_mul_right _ hnc1
        refine ⟨cs1.take off ++ (a'.eval z).cells.toList ++ cs1.drop (off + ls.length), ⟨?_, .inr ⟨g1, cap1, _, hv1.trans ?_, Nat.zero_le _, setRow_heap w _ _ _ _ _ hh, ?_, hcm1, ?_, ?_⟩⟩, ?_, ?_, fun hc => not_memN hC3 hc⟩
        · simp only [List.length_append, List.length_take, List.length_drop, hVl, List.length_set, hcl, hoff]
          omega
        · simp
        · simpa using hnc1
        · simp only [List.size_toArray, List.length_append, List.length_take, List.length_drop, hVl, hcurl, ← hcs1, hcs]
          omega
        · have e1 : cur.toList.take off = cs1.take off := by rw [← htake, List.take_take, Nat.min_eq_left (by omega)]
          have e2 : (cur.toList.drop (off + ls.length)).take (xs.length * r.size - (off + ls.length)) = cs1.drop (off + ls.length) := by
            rw [← htake, List.drop_take]
          have e3 : (cs1.take off ++ (a'.eval z).cells.toList).length = off + ls.length := by simp only [List.length_append, List.length_take, hVl, hcl, hoff]; omega
          rw [List.length_set, e1, List.take_append, e3, List.take_of_length_le (by omega), e2]
        · intro g2 hg2
          have : g2 = g1 := by rw [hv1] at hg2; simpa [Value.ownBlock] using hg2.symm
          subst this
          exact ⟨hcol, hbox⟩
        · rw [flat_set r xs i f x x' ls hx hf' hx', ← hoff]
          exact ((ht.all hnot (hA2.take off)).append (ht.all hnot hV)).append (ht.all hnot (hA2.drop (off + ls.length)))
    · exact ((hS.tr ht) : Sl _ _ _ _) p hp
/-- The bytes of a constant text, laid as a row of their own. -/
theorem lo_mark {P : Program} {o : Oper} {t e' e ℓ : Nat} {C : List Nat} {xs : List UInt8} {x : Operand} (ho : o.op = .convert t t x) (ht : P.underlying t = some (.slice e')) (he : P.underlying e' = some (.int .u8)) (hne : xs.isEmpty = false) :
    LocalOk P o [(x, .own Rp.byte e ℓ C xs)] [] [ℓ] [] (.sl Rp.byte [ℓ] xs) [] := by
  refine localOk_value fun γ ev w hi _ => ?_
  obtain ⟨cs, hown, hgb, hA, hnC⟩ := hi (x, .own Rp.byte e ℓ C xs) (by simp)
  simp only at hown hgb
  have hl0 : 0 < xs.length := by cases xs with
    | nil => cases hne
    | cons => simp
  rcases hown.2 with ⟨_, hz0⟩ | ⟨g, cap, cur, hv, _, hh, hnc, hcm, hcs, htake⟩
  · omega
  · obtain ⟨hcol, hbox⟩ := hgb g (by rw [hv]; rfl)
    have hlt : g < w.heap.size := (Array.getElem?_eq_some_iff.1 hh).1
    have hsh : w.shape? g = some (e, cur.size) := by unfold World.shape?; rw [hh]
    have hw : ∀ k, (w.freeze ⟨g, k, none⟩ 1).heap[g]? = some (.cells cur e (k, k + 1)) ∧ (∀ b, b ≠ g → (w.freeze ⟨g, k, none⟩ 1).heap[b]? = w.heap[b]?) ∧ (w.freeze ⟨g, k, none⟩ 1).os = w.os ∧ (w.freeze ⟨g, k, none⟩ 1).tape = w.tape ∧ (w.freeze ⟨g, k, none⟩ 1).output = w.output ∧ (w.freeze ⟨g, k, none⟩ 1).heap.size = w.heap.size := by
      intro k
      unfold World.freeze
      rw [if_neg (by decide)]
      have hget : w.heap[g] = .cells cur e (0, 0) := (Array.getElem?_eq_some_iff.1 hh).2
      refine ⟨?_, fun b hb => ?_, rfl, rfl, rfl, by simp⟩
      · simp only [Array.getElem?_modify, if_true, hh]; rfl
      · simp [Array.getElem?_modify, Ne.symm hb]
    obtain ⟨h1, h2, h3, h4, h5, h6⟩ := hw cur.size
    have htr : Tr [ℓ] [] γ w γ (w.freeze ⟨g, cur.size, none⟩ 1) := ⟨h3, h4, h5, by rw [h6]; exact Nat.le_refl _, fun b hb hn => h2 b (fun e => hn (by rw [e, hcol]; exact List.mem_cons_self)), fun _ _ => rfl, fun _ _ => rfl⟩
    refine ⟨ev x, _, γ, ?_, htr, ?_, fun b hb => by cases hb⟩
    · simp [execOp, ho, hv, convert, run_underlying ht, run_underlying he, markStringish, hsh]
    · have hcl : cs.length = xs.length := by have := hown.1; simpa [Rp.byte] using this
      have hA' : AllRel ((γ).F [ℓ]) (w.freeze ⟨g, cur.size, none⟩ 1) (xs.flatMap Rp.byte.lv) cs := hA.plain (plain_byte.flat xs)
      show LVrel _ _ _ (ev x)
      rw [hv]
      refine .sl _ _ _ _ cap cs (Rp.byte.flat xs) (by rw [hcl]; simp [Rp.byte]) hnc hcm (fun _ => ⟨g, 0, rfl, ?_, by rw [h6]; exact hlt, fun i hi => ?_⟩) hA'.2
      · show γ.col g ∈ [ℓ]
        rw [hcol]; exact List.mem_cons_self
      · have hc := cell_of_row (w.freeze ⟨g, cur.size, none⟩ 1) g (0 + i) cur e _ h1
        rw [hc, ← htake, List.getElem?_take, if_pos hi]
        simp
end Go.Proofs.Ytnhnanbgphdaeaa
