/-
  Operations that library functions need beside: the capacity of no slice, an own row cut at its end. No condition.
-/
import Derived.Test.YtnhnanbgphdaeaaMap
import Derived.Lib.AppendZeros
namespace Go.Proofs.Ytnhnanbgphdaeaa
open Go Go.RowKit

theorem lo_capnil {P : Program} {o : Oper} {t e : TypeId} {x : Operand} {n : Nat} (ho : o.op = .call ⟨.builtin .cap, #[x], #[t]⟩) (hu : P.underlying t = some (.slice e)) :
    LocalOk P o [(x, .lf (.val (.slice none n 0)))] [] [] [] (.lf (.int .i64 0)) [] := by
  refine localOk_value fun γ ev w hi _ => ?_
  have h1 := lf_val (hi (x, .lf (.val (.slice none n 0))) (by simp))
  simp only at h1
  refine ⟨.int .i64 0, w, γ, run_builtin_call (args := [x]) (ts := [t]) ho rfl rfl rfl fun consts => ?_, Tr.refl _ _ _ _, mk_int _ _ _ _, fun b hb => by cases hb⟩
  simp [builtin, h1, Builtin.cap_, run_underlying hu, goInt]
theorem ownsRow_cut {w : World} {e : TypeId} {size n : Nat} {v : Value} {cs : List Value} (h : w.ownsRow 0 e size v n cs) {j : Nat} (hj : j ≤ n) :
    ∃ A c, v = .slice A n c ∧ n ≤ c ∧ w.ownsRow 0 e size (.slice (if c = 0 then A else A.map (·.add (0 * size))) j (c - 0)) j (cs.take (j * size)) ∧
      Value.ownBlock (.slice (if c = 0 then A else A.map (·.add (0 * size))) j (c - 0)) = v.ownBlock := by
  have hle : j * size ≤ n * size := Nat.mul_le_mul_right _ hj
  rcases h.2 with ⟨rfl, hz⟩ | ⟨g, cap, cur, rfl, hg, hh, hnc, hcm, hcs, htake⟩
  · subst hz
    have : j = 0 := by omega
    subst this
    exact ⟨none, 0, rfl, Nat.le_refl _, ⟨by simp, .inl ⟨rfl, rfl⟩⟩, rfl⟩
  · have e1 : (if cap = 0 then (some ⟨g, 0, none⟩ : Option Addr) else (some (⟨g, 0, none⟩ : Addr)).map (·.add (0 * size))) = some ⟨g, 0, none⟩ := by
      split
      · rfl
      · simp [addr_add]
    refine ⟨_, cap, rfl, hnc, ?_, by rw [e1]; rfl⟩
    rw [e1]
    refine ⟨by rw [List.length_take, h.1]; omega, .inr ⟨g, cap, cur, rfl, hg, hh, by omega, hcm, hcs, ?_⟩⟩
    rw [← htake, List.take_take, Nat.min_eq_left hle]
/-- An own row, cut at its end, stays its own. -/
theorem lo_cuto {P : Program} {o : Oper} {α : Type} {r : Rp α} {xs ys : List α} {C : List Nat} {j : Int} {k : IntKind} {t e : TypeId} {x y : Operand} {bytes ℓ : Nat}
    (ho : o.op = .slice t x none (some y) none) (hT : ElT P t e r.size bytes) (hy : cut xs 0 j = some ys) :
    LocalOk P o [(x, .own r e ℓ C xs), (y, .lf (.int k j))] [] [ℓ] [] (.own r e ℓ C ys) [] := by
  refine localOk_value fun γ ev w hin _ => ?_
  obtain ⟨cs, hown, hgb, hA, hnC⟩ := hin (x, .own r e ℓ C xs) (by simp)
  have h2 := lf_int (hin (y, .lf (.int k j)) (by simp))
  simp only at hown hgb h2
  obtain ⟨c0, c1, c2, rfl⟩ := cut_some hy
  have hl := cut_len hy
  obtain ⟨A, c, hv, hc, hown', hblk⟩ := ownsRow_cut hown (j := j.toNat) (by omega)
  have hr := run_cut hT w A xs.length c hc none (some (.int k j)) 0 j (.inl ⟨rfl, rfl⟩) (.inr ⟨k, rfl⟩) (by omega) c1 c2
  rw [show (0 : Int).toNat = 0 from rfl, Nat.sub_zero j.toNat] at hr
  refine ⟨_, w, γ, by simp only [execOp, ho, hv, h2, Option.map_none, Option.map_some, Sem.run_bind, hr]; rfl, Tr.refl _ _ _ _, ⟨cs.take (j.toNat * r.size), ?_, fun g hg => hgb g ?_, ?_, hnC⟩, fun b hb => by cases hb⟩
  · rw [hl, show (0 : Int).toNat = 0 from rfl, Nat.sub_zero]; exact hown'
  · rw [← hblk]; exact hg
  · have := hA.take (j.toNat * r.size)
    rw [show (0 : Int).toNat = 0 from rfl, Nat.sub_zero, List.drop_zero, r.flat_take]
    exact this
/-- No slice, cut to nothing. -/
theorem lo_cutnil {P : Program} {o : Oper} {k : IntKind} {t e : TypeId} {x y : Operand} {size bytes : Nat} (ho : o.op = .slice t x none (some y) none) (hT : ElT P t e size bytes) :
    LocalOk P o [(x, .lf (.val (.slice none 0 0))), (y, .lf (.int k 0))] [] [] [] (.lf (.val (.slice none 0 0))) [] := by
  refine localOk_value fun γ ev w hin _ => ?_
  have h1 := lf_val (hin (x, .lf (.val (.slice none 0 0))) (by simp))
  have h2 := lf_int (hin (y, .lf (.int k 0)) (by simp))
  simp only at h1 h2
  have hr := run_cut hT w none 0 0 (Nat.le_refl _) none (some (.int k 0)) 0 0 (.inl ⟨rfl, rfl⟩) (.inr ⟨k, rfl⟩) (by omega) (by omega) (by omega)
  exact ⟨_, w, γ, by simp only [execOp, ho, h1, h2, Option.map_none, Option.map_some, Sem.run_bind, hr]; rfl, Tr.refl _ _ _ _, ⟨rfl, .val _ rfl⟩, fun b hb => by cases hb⟩
theorem zeroCells_made (z : Array Value) (n : Nat) : Builtin.zeroCells z n = madeCells z (n * z.size) := rfl
/-- A new row of zeros behind nothing. -/
theorem lo_appz {P : Program} {o : Oper} {α : Type} {r : Rp α} {x0 : α} {k kn : IntKind} {n : Int} {xs : List α} {t tn e : TypeId} {x y : Operand} {bytes : Nat} (ℓ : Nat)
    (ho : o.op = .call ⟨.builtin .append, #[x, y], #[t, tn]⟩) (htn : P.underlying tn = some (.int kn)) (hT : ZeT P t e r bytes x0) (hb : Nat.blt 0 bytes = true) (hm : mkO bytes x0 n n = some xs) :
    LocalOk P o [(x, .lf (.val (.slice none 0 0))), (y, .lf (.int k n))] [] [] [ℓ] (.own r e ℓ [] xs) [] := by
  refine localOk_value fun γ ev w hin _ => ?_
  have h1 := lf_val (hin (x, .lf (.val (.slice none 0 0))) (by simp))
  have h2 := lf_int (hin (y, .lf (.int k n)) (by simp))
  simp only at h1 h2
  unfold mkO at hm
  split at hm
  case isFalse => cases hm
  rename_i hh
  obtain ⟨h0, _, hlim⟩ := hh
  cases hm
  obtain ⟨m, rfl⟩ : ∃ m : Nat, n = m := ⟨n.toNat, by omega⟩
  obtain ⟨i, z, hi', hz, hs, hby, hzs, hzo⟩ := hT.ex
  have hbp : 0 < bytes := Nat.lt_of_succ_le (Nat.le_of_ble_eq_true hb)
  have hL : (LIM : Int) = 140737488355328 := rfl
  have hlim' : m * bytes ≤ 140737488355328 := by
    have : ((m * bytes : Nat) : Int) ≤ 140737488355328 := by rw [Int.natCast_mul]; omega
    omega
  have hmb : m ≤ m * bytes := Nat.le_mul_of_pos_right _ hbp
  rcases Nat.eq_zero_or_pos m with rfl | hpos
  · refine ⟨.slice none 0 0, w, { γ with box := fun q => γ.box q }, run_builtin_call (args := [x, y]) (ts := [t, tn]) ho rfl rfl rfl fun consts => ?_, ⟨rfl, rfl, rfl, Nat.le_refl _, fun _ _ _ => rfl, fun _ _ => rfl, fun _ _ => rfl⟩, ⟨[], World.ownsRow_nil w 0 e r.size, (fun g hg => nomatch hg), AllRel.nil, by simp⟩, fun b hb => by cases hb⟩
    have hw : IntKind.i64.wrap 0 = 0 := rfl
    simp [builtin, h1, h2, Builtin.append_, run_underlying hT.u, run_underlying htn, sizeOf, typeInfo, hi', asInt, asIntOf, hw]
  · have hr := Go.Lib.run_append_nil_zeros (P := P) w t tn o.type e i z k kn hT.u htn hi' hz m hpos (by rw [hs]; exact r.pos) (by omega) (by rw [hby]; omega)
    have hge := grownCap_ge w m 0 e
    have hcm : grownCap w m 0 e ≤ maxLen := grownCap_le_maxLen w m 0 e (by unfold maxLen; omega)
    have hnew := heap_alloc_new w.drew (.cells (Builtin.zeroCells z.cells m ++ Builtin.zeroCells z.cells (grownCap w m 0 e - m)) e)
    have hzl : (Builtin.zeroCells z.cells m).toList.length = m * r.size := by rw [Array.length_toList, size_zeroCells, hzs]
    refine ⟨.slice (some ⟨w.heap.size, 0, none⟩) m (grownCap w m 0 e), w.drew.alloc (.cells (Builtin.zeroCells z.cells m ++ Builtin.zeroCells z.cells (grownCap w m 0 e - m)) e), ghNew γ w.heap.size ℓ w.heap.size,
      run_builtin_call (args := [x, y]) (ts := [t, tn]) ho rfl rfl rfl fun consts => by simp only [builtin, List.map_cons, List.map_nil, h1, h2, Sem.run_bind, hr]; rfl,
      ⟨rfl, rfl, rfl, by simp, fun b hb _ => heap_alloc_old w.drew _ hb, fun b hb => by simp [ghNew, hb], fun k hk => ?_⟩, ⟨(Builtin.zeroCells z.cells m).toList, ?_, fun g hg => ?_, ?_, by simp⟩, fun b hb => by cases hb⟩
    · simp only [List.mem_cons, List.not_mem_nil, or_false] at hk
      simp [ghNew, hk]
    · rw [List.length_replicate, Int.toNat_natCast]
      refine ⟨hzl, .inr ⟨w.heap.size, _, _, rfl, Nat.zero_le _, hnew, hge, hcm, ?_, ?_⟩⟩
      · rw [Array.size_append, size_zeroCells, size_zeroCells, hzs, ← Nat.add_mul]; congr 1; omega
      · rw [Array.toList_append, ← hzl]; exact List.take_left
    · cases hg
      simp [ghNew]
    · rw [Int.toNat_natCast]
      have := made_rel hzs hzo ((ghNew γ w.heap.size ℓ w.heap.size).F []) (w.drew.alloc (.cells (Builtin.zeroCells z.cells m ++ Builtin.zeroCells z.cells (grownCap w m 0 e - m)) e)) m m (Nat.le_refl _)
      rw [List.take_of_length_le (by rw [Array.length_toList, size_madeCells]; exact Nat.le_refl _)] at this
      have e : (Builtin.zeroCells z.cells m).toList = (madeCells z.cells (m * r.size)).toList := by rw [zeroCells_made, hzs]
      rw [e]
      exact this
end Go.Proofs.Ytnhnanbgphdaeaa
