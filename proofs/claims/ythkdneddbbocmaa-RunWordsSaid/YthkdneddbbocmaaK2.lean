/-
  What every proof here stands on. No condition.
-/
import Derived.Lib.AppendZeros
import Derived.Lib.Bytealg
import Derived.Lib.AppendStr
import Derived.RangeFuncRecord
import Derived.RangeFuncSeq
import Derived.RangeFuncBound
import Derived.Laws.Bits64b
import Derived.IntWalk
import Derived.RowKit
import Derived.Test.YthkdneddbbocmaaK1
namespace Go.Proofs.Ythkdneddbbocmaa
open Go Go.RowKit
theorem lo_capnil {P : Program} {o : Oper} {t e : TypeId} {x : Operand} {n : Nat} (ho : o.op = .call ⟨.builtin .cap, #[x], #[t]⟩) (hu : P.underlying t = some (.slice e)) :
    LocalOk P o [(x, .lf (.val (.slice none n 0)))] [] [] [] (.lf (.int .i64 0)) [] := by
  refine localOk_value fun γ ev w hi _ => ?_
  have h1 := lf_val (hi (x, .lf (.val (.slice none n 0))) (by simp))
  simp only at h1
  refine ⟨.int .i64 0, w, γ, run_builtin_call (args := [x]) (ts := [t]) ho rfl rfl rfl fun consts => ?_, Tr.refl _ _ _ _, mk_int _ _ _ _, fun b hb => by cases hb⟩
  simp [builtin, h1, Builtin.cap_, run_underlying hu, goInt]
theorem ownsRow_cut {w : World} {e : TypeId} {size n : Nat} {v : Value} {cs : List Value} (h : w.ownsRow 0 e size v n cs) {j : Nat} (hj : j ≤ n) :
    ∃ A c, v = .slice A n c ∧ n ≤ c ∧ w.ownsRow 0 e size (.slice (if c = 0 then A else A.map (·.add (0 * size))) j (c - 0)) j (cs.take (j * size)) ∧
      Value.ownBlock (.slice (if c = 0 then A else A.map (·.add (0 * size))) j (c - 0)) = v.ownBlock := by
  have hle : j * size ≤ n * size := Nat.mul_le_mul_right _ hj
  rcases h.2 with ⟨rfl, hz⟩ | ⟨g, cap, cur, rfl, hg, hh, hnc, hcm, hcs, htake⟩
  · subst hz
    have : j = 0 := by omega
    subst this
    exact ⟨none, 0, rfl, Nat.le_refl _, ⟨by simp, .inl ⟨rfl, rfl⟩⟩, rfl⟩
  · have e1 : (if cap = 0 then (some ⟨g, 0, none⟩ : Option Addr) else (some (⟨g, 0, none⟩ : Addr)).map (·.add (0 * size))) = some ⟨g, 0, none⟩ := by
      split
      · rfl
      · simp [addr_add]
    refine ⟨_, cap, rfl, hnc, ?_, by rw [e1]; rfl⟩
    rw [e1]
    refine ⟨by rw [List.length_take, h.1]; omega, .inr ⟨g, cap, cur, rfl, hg, hh, by omega, hcm, hcs, ?_⟩⟩
    rw [← htake, List.take_take, Nat.min_eq_left hle]
theorem lo_cuto {P : Program} {o : Oper} {α : Type} {r : Rp α} {xs ys : List α} {C : List Nat} {j : Int} {k : IntKind} {t e : TypeId} {x y : Operand} {bytes ℓ : Nat}
    (ho : o.op = .slice t x none (some y) none) (hT : ElT P t e r.size bytes) (hy : cut xs 0 j = some ys) :
    LocalOk P o [(x, .own r e ℓ C xs), (y, .lf (.int k j))] [] [ℓ] [] (.own r e ℓ C ys) [] := by
  refine localOk_value fun γ ev w hin _ => ?_
  obtain ⟨cs, hown, hgb, hA, hnC⟩ := hin (x, .own r e ℓ C xs) (by simp)
  have h2 := lf_int (hin (y, .lf (.int k j)) (by simp))
  simp only at hown hgb h2
  obtain ⟨c0, c1, c2, rfl⟩ := cut_some hy
  have hl := cut_len hy
  obtain ⟨A, c, hv, hc, hown', hblk⟩ := ownsRow_cut hown (j := j.toNat) (by omega)
  have hr := run_cut hT w A xs.length c hc none (some (.int k j)) 0 j (.inl ⟨rfl, rfl⟩) (.inr ⟨k, rfl⟩) (by omega) c1 c2
  rw [show (0 : Int).toNat = 0 from rfl, Nat.sub_zero j.toNat] at hr
  refine ⟨_, w, γ, by simp only [execOp, ho, hv, h2, Option.map_none, Option.map_some, Sem.run_bind, hr]; rfl, Tr.refl _ _ _ _, ⟨cs.take (j.toNat * r.size), ?_, fun g hg => hgb g ?_, ?_, hnC⟩, fun b hb => by cases hb⟩
  · rw [hl, show (0 : Int).toNat = 0 from rfl, Nat.sub_zero]; exact hown'
  · rw [← hblk]; exact hg
  · have := hA.take (j.toNat * r.size)
    rw [show (0 : Int).toNat = 0 from rfl, Nat.sub_zero, List.drop_zero, r.flat_take]
    exact this
theorem lo_cutnil {P : Program} {o : Oper} {k : IntKind} {t e : TypeId} {x y : Operand} {size bytes : Nat} (ho : o.op = .slice t x none (some y) none) (hT : ElT P t e size bytes) :
    LocalOk P o [(x, .lf (.val (.slice none 0 0))), (y, .lf (.int k 0))] [] [] [] (.lf (.val (.slice none 0 0))) [] := by
  refine localOk_value fun γ ev w hin _ => ?_
  have h1 := lf_val (hin (x, .lf (.val (.slice none 0 0))) (by simp))
  have h2 := lf_int (hin (y, .lf (.int k 0)) (by simp))
  simp only at h1 h2
  have hr := run_cut hT w none 0 0 (Nat.le_refl _) none (some (.int k 0)) 0 0 (.inl ⟨rfl, rfl⟩) (.inr ⟨k, rfl⟩) (by omega) (by omega) (by omega)
  exact ⟨_, w, γ, by simp only [execOp, ho, h1, h2, Option.map_none, Option.map_some, Sem.run_bind, hr]; rfl, Tr.refl _ _ _ _, ⟨rfl, .val _ rfl⟩, fun b hb => by cases hb⟩
theorem zeroCells_made (z : Array Value) (n : Nat) : Builtin.zeroCells z n = madeCells z (n * z.size) := rfl
theorem lo_appz {P : Program} {o : Oper} {α : Type} {r : Rp α} {x0 : α} {k kn : IntKind} {n : Int} {xs : List α} {t tn e : TypeId} {x y : Operand} {bytes : Nat} (ℓ : Nat)
    (ho : o.op = .call ⟨.builtin .append, #[x, y], #[t, tn]⟩) (htn : P.underlying tn = some (.int kn)) (hT : ZeT P t e r bytes x0) (hb : Nat.blt 0 bytes = true) (hm : mkO bytes x0 n n = some xs) :
    LocalOk P o [(x, .lf (.val (.slice none 0 0))), (y, .lf (.int k n))] [] [] [ℓ] (.own r e ℓ [] xs) [] := by
  refine localOk_value fun γ ev w hin _ => ?_
  have h1 := lf_val (hin (x, .lf (.val (.slice none 0 0))) (by simp))
  have h2 := lf_int (hin (y, .lf (.int k n)) (by simp))
  simp only at h1 h2
  unfold mkO at hm
  split at hm
  case isFalse => cases hm
  rename_i hh
  obtain ⟨h0, _, hlim⟩ := hh
  cases hm
  obtain ⟨m, rfl⟩ : ∃ m : Nat, n = m := ⟨n.toNat, by omega⟩
  obtain ⟨i, z, hi', hz, hs, hby, hzs, hzo⟩ := hT.ex
  have hbp : 0 < bytes := Nat.lt_of_succ_le (Nat.le_of_ble_eq_true hb)
  have hL : (LIM : Int) = 140737488355328 := rfl
  have hlim' : m * bytes ≤ 140737488355328 := by
    have : ((m * bytes : Nat) : Int) ≤ 140737488355328 := by rw [Int.natCast_mul]; omega
    omega
  have hmb : m ≤ m * bytes := Nat.le_mul_of_pos_right _ hbp
  rcases Nat.eq_zero_or_pos m with rfl | hpos
  · refine ⟨.slice none 0 0, w, { γ with box := fun q => γ.box q }, run_builtin_call (args := [x, y]) (ts := [t, tn]) ho rfl rfl rfl fun consts => ?_, ⟨rfl, rfl, rfl, Nat.le_refl _, fun _ _ _ => rfl, fun _ _ => rfl, fun _ _ => rfl, fun b h1 h2 => absurd h2 (Nat.not_lt.2 h1)⟩, ⟨[], World.ownsRow_nil w 0 e r.size, (fun g hg => nomatch hg), AllRel.nil, by simp⟩, fun b hb => by cases hb⟩
    have hw : IntKind.i64.wrap 0 = 0 := rfl
    simp [builtin, h1, h2, Builtin.append_, run_underlying hT.u, run_underlying htn, sizeOf, typeInfo, hi', asInt, asIntOf, hw]
  · have hr := Go.Lib.run_append_nil_zeros (P := P) w t tn o.type e i z k kn hT.u htn hi' hz m hpos (by rw [hs]; exact r.pos) (by omega) (by rw [hby]; omega)
    have hge := grownCap_ge w m 0 e
    have hcm : grownCap w m 0 e ≤ maxLen := grownCap_le_maxLen w m 0 e (by unfold maxLen; omega)
    have hnew := heap_alloc_new w.drew (.cells (Builtin.zeroCells z.cells m ++ Builtin.zeroCells z.cells (grownCap w m 0 e - m)) e)
    have hzl : (Builtin.zeroCells z.cells m).toList.length = m * r.size := by rw [Array.length_toList, size_zeroCells, hzs]
    refine ⟨.slice (some ⟨w.heap.size, 0, none⟩) m (grownCap w m 0 e), w.drew.alloc (.cells (Builtin.zeroCells z.cells m ++ Builtin.zeroCells z.cells (grownCap w m 0 e - m)) e), ghNew γ w.heap.size ℓ w.heap.size,
      run_builtin_call (args := [x, y]) (ts := [t, tn]) ho rfl rfl rfl fun consts => by simp only [builtin, List.map_cons, List.map_nil, h1, h2, Sem.run_bind, hr]; rfl,
      ⟨rfl, rfl, rfl, by simp, fun b hb _ => heap_alloc_old w.drew _ hb, fun b hb => by simp [ghNew, hb], fun k hk => ?_, fun b hb _ h => .inr (by simp [ghNew, Nat.not_lt.2 hb] at h; simp [h])⟩, ⟨(Builtin.zeroCells z.cells m).toList, ?_, fun g hg => ?_, ?_, by simp⟩, fun b hb => by cases hb⟩
    · simp only [List.mem_cons, List.not_mem_nil, or_false] at hk
      simp [ghNew, hk]
    · rw [List.length_replicate, Int.toNat_natCast]
      refine ⟨hzl, .inr ⟨w.heap.size, _, _, rfl, Nat.zero_le _, hnew, hge, hcm, ?_, ?_⟩⟩
      · rw [Array.size_append, size_zeroCells, size_zeroCells, hzs, ← Nat.add_mul]; congr 1; omega
      · rw [Array.toList_append, ← hzl]; exact List.take_left
    · cases hg
      simp [ghNew]
    · rw [Int.toNat_natCast]
      have := made_rel hzs hzo ((ghNew γ w.heap.size ℓ w.heap.size).F []) (w.drew.alloc (.cells (Builtin.zeroCells z.cells m ++ Builtin.zeroCells z.cells (grownCap w m 0 e - m)) e)) m m (Nat.le_refl _)
      rw [List.take_of_length_le (by rw [Array.length_toList, size_madeCells]; exact Nat.le_refl _)] at this
      have e : (Builtin.zeroCells z.cells m).toList = (madeCells z.cells (m * r.size)).toList := by rw [zeroCells_made, hzs]
      rw [e]
      exact this
structure ByT (P : Program) (t e : TypeId) : Prop where
  u : P.underlying t = some (.slice e)
  ex : ∃ i, P.info? e = some i ∧ i.zero = some (.int .u8 0) ∧ i.size = 1 ∧ i.bytes = 1
def byB (P : Program) (e : TypeId) : Bool := match P.info? e with
  | some i => (match i.zero with
    | some (.int .u8 n) => decide (n = 0)
    | _ => false) && Nat.beq i.size 1 && Nat.beq i.bytes 1
  | none => false
theorem ByT.ofB {P : Program} {t e : TypeId} (hu : P.underlying t = some (.slice e)) (h : byB P e = true) : ByT P t e := by
  unfold byB at h
  split at h
  · rename_i i hi
    simp only [Bool.and_eq_true] at h
    obtain ⟨⟨h1, h2⟩, h3⟩ := h
    split at h1
    · rename_i n hz
      have := of_decide_eq_true h1
      subst this
      exact ⟨hu, i, hi, hz, Nat.eq_of_beq_eq_true h2, Nat.eq_of_beq_eq_true h3⟩
    · cases h1
  · cases h
structure StA (P : Program) (t : TypeId) (places : List (Nat × Nat)) (zs : List AV) : Prop where
  ex : ∃ fs z, P.underlying t = some (.struct fs) ∧ (∀ w, (zeroValue t).run P w = .ok z w) ∧ (∀ w, (fs.mapM (m := Sem) fun (f : Field) => do pure (f.offset, ← sizeOf f.type)).run P w = .ok places.toArray w) ∧ zokAs zs z.cells.toList = true
def staB (P : Program) (t : TypeId) (fs : Array Field) (places : List (Nat × Nat)) (zs : List AV) : Bool := sizesB P fs.toList places && match P.info? t with
  | some i => match i.zero with
    | some z => zokAs zs z.cells.toList
    | none => false
  | none => false
theorem StA.ofB {P : Program} {t : TypeId} {fs : Array Field} {places : List (Nat × Nat)} {zs : List AV} (hu : P.underlying t = some (.struct fs)) (h : staB P t fs places zs = true) : StA P t places zs := by
  simp only [staB, Bool.and_eq_true] at h
  obtain ⟨h1, h2⟩ := h
  split at h2
  · rename_i i hi
    split at h2
    · rename_i z hz
      refine ⟨fs, z, hu, fun w => by simp [zeroValue, typeInfo, hi, hz], fun w => ?_, h2⟩
      have := sizesB_run fs.toList places h1 w
      rw [← Array.toArray_toList (xs := fs), List.mapM_toArray, Sem.run_map]
      rw [this]; rfl
    · cases h2
  · cases h2
end Go.Proofs.Ythkdneddbbocmaa
namespace Go.Proofs.Ythkdneddbbocmaa
open Go Go.RowKit
def capsOk : List Bx → List AV → Prop
  | [], [] => True
  | b :: bs, .bp r t ℓ C x :: cs => (ℓ = b.lab ∧ t = b.typ ∧ toLVs b.avs = some (r.lv x) ∧ subN (AV.colsL b.avs) C = true) ∧ capsOk bs cs
  | _, _ => False
theorem capsOk_rel {γ : Gh} {w : World} {ev : Operand → Value} : ∀ (xs : List Operand) (bs : List Bx) (cs : List AV), capsOk bs cs → xs.length = bs.length → (∀ p ∈ xs.zip (bs.map fun b => AV.ptr b.lab 0), p.2.rel γ w (ev p.1)) → Bxs γ w bs → AV.relL γ w cs (xs.map ev)
  | [], [], [], _, _, _, _ => rfl
  | [], [], _ :: _, h, _, _, _ => h.elim
  | x :: xs, b :: bs, .bp r t ℓ C y :: cs, h, hl, hi, hb => by
    obtain ⟨⟨rfl, rfl, h1, h2⟩, h3⟩ := h
    refine ⟨ev x, xs.map ev, rfl, ?_, capsOk_rel xs bs cs h3 (by simpa using hl) (fun p hp => hi p (List.mem_cons_of_mem _ hp)) (fun c hc => hb c (List.mem_cons_of_mem _ hc))⟩
    have hv := hi (x, .ptr b.lab 0) List.mem_cons_self
    obtain ⟨hc, cells, hh, hL, hone⟩ := hb b List.mem_cons_self
    exact ⟨γ.box b.lab, cells.toArray, hv, ⟨hc, rfl⟩, (Array.getElem?_eq_some_iff.1 hh).1, hh, by simpa using hone, by simpa using toLVs_rel h1 hL (subN_spec h2)⟩
  | _ :: _, _ :: _, [], h, _, _, _ => h.elim
  | _ :: _, _ :: _, .any :: _, h, _, _, _ => h.elim
  | _ :: _, _ :: _, .lf _ :: _, h, _, _, _ => h.elim
  | _ :: _, _ :: _, .sl .. :: _, h, _, _, _ => h.elim
  | _ :: _, _ :: _, .own .. :: _, h, _, _, _ => h.elim
  | _ :: _, _ :: _, .rc .. :: _, h, _, _, _ => h.elim
  | _ :: _, _ :: _, .ep .. :: _, h, _, _, _ => h.elim
  | _ :: _, _ :: _, .ptr .. :: _, h, _, _, _ => h.elim
  | _ :: _, _ :: _, .mp .. :: _, h, _, _, _ => h.elim
  | _ :: _, _ :: _, .om .. :: _, h, _, _, _ => h.elim
  | _ :: _, _ :: _, .tup .. :: _, h, _, _, _ => h.elim
  | _ :: _, _ :: _, .ag .. :: _, h, _, _, _ => h.elim
  | _ :: _, _ :: _, .fv .. :: _, h, _, _, _ => h.elim
  | _ :: _, _ :: _, .it .. :: _, h, _, _, _ => h.elim
  | [], _ :: _, _, _, hl, _, _ => by simp at hl
  | _ :: _, [], _, _, hl, _, _ => by simp at hl
theorem lo_mkfn {P : Program} {o : Oper} {g : Nat} (xs : List Operand) (bs : List Bx) (cs : List AV) (ho : o.op = .makeFunc (.func g) #[] xs.toArray) (hc : capsOk bs cs) (hl : xs.length = bs.length) :
    LocalOk P o (xs.zip (bs.map fun b => AV.ptr b.lab 0)) bs [] [] (.fv g cs) [] := by
  refine localOk_value fun γ ev w hi hb => ?_
  exact ⟨.func (.func g) #[] (xs.map ev).toArray, w, γ, by simp [execOp, ho, Instr.makeFunc], Tr.refl _ _ _ _, ⟨xs.map ev, rfl, capsOk_rel xs bs cs hc hl hi hb⟩, fun b hb => by cases hb⟩
theorem LVrel.regh {γ γ' : Gh} {w : World} {C : List Nat} (h : ∀ b, b < w.heap.size → γ.col b ∈ C → γ'.col b = γ.col b) {l : LV} {v : Value} (hr : LVrel (γ.F C) w l v) : LVrel (γ'.F C) w l v :=
  hr.mono fun b hl hb => by show γ'.col b ∈ C; rw [h b hl hb]; exact hb
theorem AllRel.regh {γ γ' : Gh} {w : World} {C : List Nat} (h : ∀ b, b < w.heap.size → γ.col b ∈ C → γ'.col b = γ.col b) {ls : List LV} {cs : List Value} (hr : AllRel (γ.F C) w ls cs) : AllRel (γ'.F C) w ls cs :=
  hr.mono fun b hl hb => by show γ'.col b ∈ C; rw [h b hl hb]; exact hb
mutual
theorem AV.regh {γ γ' : Gh} {w : World} (a : AV) {v : Value} (h : ∀ b, b < w.heap.size → γ.col b ∈ a.cols → γ'.col b = γ.col b) (hb : ∀ ℓ ∈ a.labs, γ'.box ℓ = γ.box ℓ) (hr : a.rel γ w v) : a.rel γ' w v := by
  match a with
  | .any => trivial
  | .lf l => exact hr
  | .sl r C xs => exact LVrel.regh h hr
  | .own r e ℓ C xs =>
    obtain ⟨cs, ho, hg, hA, hn⟩ := hr
    refine ⟨cs, ho, fun g hgb => ?_, hA.regh (fun b hl hc => h b hl (List.mem_cons_of_mem _ hc)), hn⟩
    obtain ⟨g1, g2⟩ := hg g hgb
    exact ⟨(h g (ho.lt g hgb).2 (by rw [g1]; exact List.mem_cons_self)).trans g1, (hb ℓ List.mem_cons_self).trans g2⟩
  | .rc r C x => obtain ⟨cs, hv, hA⟩ := hr; exact ⟨cs, hv, hA.regh h⟩
  | .ep r C x off =>
    obtain ⟨b, o, cs, hv, hF, hlt, hA, hcell⟩ := hr
    exact ⟨b, o, cs, hv, by rw [h b hlt hF]; exact hF, hlt, hA.regh h, hcell⟩
  | .ptr ℓ off => show v = _; rw [hb ℓ List.mem_cons_self]; exact hr
  | .mp rk rv C m =>
    obtain ⟨b, es, cl, hv, hF, hlt, hh, hE⟩ := hr
    exact ⟨b, es, cl, hv, by rw [h b hlt hF]; exact hF, hlt, hh, hE.mono fun b hl hc => by show γ'.col b ∈ C; rw [h b hl hc]; exact hc⟩
  | .om rk rv ℓ C m =>
    obtain ⟨b, es, cl, hv, ⟨g1, g2⟩, hlt, hh, hE, hn⟩ := hr
    exact ⟨b, es, cl, hv, ⟨(h b hlt (by rw [g1]; exact List.mem_cons_self)).trans g1, (hb ℓ List.mem_cons_self).trans g2⟩, hlt, hh, hE.mono (fun b hl hc => by show γ'.col b ∈ C; rw [h b hl (List.mem_cons_of_mem _ hc)]; exact hc), hn⟩
  | .tup l => obtain ⟨vs, hv, hL⟩ := hr; exact ⟨vs, hv, AV.reghL l h hb hL⟩
  | .ag l => obtain ⟨vs, hv, hL, h1⟩ := hr; exact ⟨vs, hv, AV.reghL l h hb hL, h1⟩
  | .fv g l => obtain ⟨vs, hv, hL⟩ := hr; exact ⟨vs, hv, AV.reghL l h hb hL⟩
  | .bp r t ℓ C x =>
    obtain ⟨b, cs, hv, ⟨g1, g2⟩, hlt, hh, h1, hA⟩ := hr
    exact ⟨b, cs, hv, ⟨(h b hlt (by rw [g1]; exact List.mem_cons_self)).trans g1, (hb ℓ List.mem_cons_self).trans g2⟩, hlt, hh, h1, hA.regh (fun b hl hc => h b hl (List.mem_cons_of_mem _ hc))⟩
  | .it rk rv ℓ C last left =>
    obtain ⟨r, b, hv, ⟨g1, g2⟩, hr', hF, hlt, ⟨es, cl, seen, since, c0, ls, la, i1, i2, i3, i4, i5, i6, i7, i8, i9, i10⟩, hn⟩ := hr
    have key : ∀ b, b < w.heap.size → γ.F C b → γ'.F C b := fun b hl hc => by show γ'.col b ∈ C; rw [h b hl (List.mem_cons_of_mem _ hc)]; exact hc
    exact ⟨r, b, hv, ⟨(h r hr' (by rw [g1]; exact List.mem_cons_self)).trans g1, (hb ℓ List.mem_cons_self).trans g2⟩, hr', key b hlt hF, hlt,
      ⟨es, cl, seen, since, c0, ls, la, i1, i2, i3, i4, i5, i6, i7, i8.mono key, i9.mono key, i10⟩, hn⟩
theorem AV.reghL {γ γ' : Gh} {w : World} (l : List AV) {vs : List Value} (h : ∀ b, b < w.heap.size → γ.col b ∈ AV.colsL l → γ'.col b = γ.col b) (hb : ∀ ℓ ∈ AV.labsL l, γ'.box ℓ = γ.box ℓ) (hr : AV.relL γ w l vs) : AV.relL γ' w l vs := by
  match l with
  | [] => exact hr
  | a :: l =>
    obtain ⟨v, vs', rfl, h1, h2⟩ := hr
    exact ⟨v, vs', rfl, AV.regh a (fun b hl hc => h b hl (List.mem_append_left _ hc)) (fun c hc => hb c (List.mem_append_left _ hc)) h1,
      AV.reghL l (fun b hl hc => h b hl (List.mem_append_right _ hc)) (fun c hc => hb c (List.mem_append_right _ hc)) h2⟩
end
structure Lets (own : Nat → Prop) (A B : World) : Prop where
  os : B.os = A.os
  tape : B.tape = A.tape
  output : B.output = A.output
  size : A.heap.size ≤ B.heap.size
  block : ∀ b, b < A.heap.size → ¬ own b → B.heap[b]? = A.heap[b]?
structure Spares (K : Nat → Prop) (A B : World) : Prop where
  os : B.os = A.os
  tape : B.tape = A.tape
  output : B.output = A.output
  size : A.heap.size ≤ B.heap.size
  block : ∀ b, b < A.heap.size → K b → B.heap[b]? = A.heap[b]?
structure ItG (F : Fp) (own : Nat → Prop) (γ : Gh) (w : World) : Prop where
  zero : ∀ b, b < w.heap.size → γ.col b = 0 → F b
  mine : ∀ b, b < w.heap.size → 2 ≤ γ.col b → own b
  lt : ∀ b, own b → b < w.heap.size
def Abid {σ : Type} (I : σ → (Nat → Prop) → World → Prop) : Prop := ∀ s own A B, I s own A → Lets own A B → I s (fun b => own b ∨ (A.heap.size ≤ b ∧ b < B.heap.size)) B
def Takes (P : Program) (l : Nat) {σ χ : Type} (ps : χ → List AV) (F : Fp) (k : Rnd σ χ) (I : σ → (Nat → Prop) → World → Prop) : Prop :=
  ∀ s own A x b s' us, I s own A → (∀ c, own c → c < A.heap.size) → k s x = some (b, s') → (∀ γ : Gh, (∀ c, c < A.heap.size → F c → γ.col c = 0) → AV.relL γ A (ps x) us) →
    YieldAt (RF none) 0 P l us.toArray A fun e B => e = .returned (.bool b) ∧ I s' own B ∧ Spares (fun c => own c ∨ F c) A B
def ItOk (P : Program) (g : FuncId) {χ : Type} (caps : List AV) (ps : χ → List AV) (it : {σ : Type} → Rnd σ χ → σ → Option σ) : Prop :=
  ∀ (σ : Type) (k : Rnd σ χ) (s0 s1 : σ), it k s0 = some s1 → ∀ (l : Nat) (γ : Gh) (w : World) (F : Fp) (own : Nat → Prop) (vs : List Value) (I : σ → (Nat → Prop) → World → Prop),
    AV.relL γ w caps vs → ItG F own γ w → Abid I → Takes P l ps F k I → I s0 own w →
    Calls P g (.func (.yield l) #[] #[] :: vs).toArray w fun e B => (∃ v, e = .returned v) ∧ ∃ own', I s1 own' B
def itX {σ : Type} (I : σ → (Nat → Prop) → World → Prop) (hI : Abid I) (F : Fp) (s : σ) : Ext where
  X γ w := ∃ own, I s own w ∧ ItG F own γ w
  tr := fun {γ γ' w w' W V} ⟨own, hj, hg⟩ t hW hV => by
    have hl : Lets own w w' := ⟨t.os, t.tape, t.output, t.size, fun b hb hn => t.block b hb fun hc => hn (hg.mine b hb (hW _ hc))⟩
    refine ⟨_, hI s own w w' hj hl, fun b hb h0 => ?_, fun b hb h2 => ?_, fun b hb => ?_⟩
    · by_cases hlt : b < w.heap.size
      · exact hg.zero b hlt (by rw [← t.col b hlt]; exact h0)
      · rcases t.fresh b (Nat.le_of_not_lt hlt) hb h0 with e | e
        · have := hW _ e; omega
        · have := hV _ e; omega
    · by_cases hlt : b < w.heap.size
      · exact .inl (hg.mine b hlt (by rw [← t.col b hlt]; exact h2))
      · exact .inr ⟨Nat.le_of_not_lt hlt, hb⟩
    · rcases hb with hb | hb
      · exact Nat.lt_of_lt_of_le (hg.lt b hb) t.size
      · exact hb.2
  ren := fun {γ γ' w} ⟨own, hj, hg⟩ k => ⟨own, hj, fun b hb h0 => hg.zero b hb (k.back b h0), fun b hb h2 => hg.mine b hb (by
    rcases Nat.lt_or_ge (γ.col b) 2 with h | h
    · have h01 : γ.col b = 0 ∨ γ.col b = 1 := by omega
      rcases h01 with e | e
      · have := k.zero b e; omega
      · have := k.one b e; omega
    · exact h), hg.lt⟩
  base := 0
  le := fun _ => Nat.zero_le _
theorem oper_q {P : Program} {o : Oper} {ro : Option Nat} {a : Act} {w : World} {next M : Act → World → Prop} {Q : Exit → Act → World → Prop} (h : o.wpIn (RF ro) 0 P a w next (Exit.then M Q)) : o.wpIn (RF ro) 0 P a w next Q := by
  refine ⟨h.1, ?_⟩
  have h := h.2
  generalize (o.semAt (RF ro).round a.eval).run P w = r at h
  cases r with
  | ok x w1 =>
    cases x with
    | enter f args => exact ⟨h.1, h.2.mono fun e w2 hq => by cases e <;> exact hq⟩
    | round l f tmps asg body => exact ⟨h.1, h.2.mono fun e w2 hq => by cases e <;> exact hq⟩
    | _ => exact h
  | halt x w1 => cases x <;> exact h
theorem listq_append {P : Program} {ops : Array Oper} {Q : Exit → Act → World → Prop} : ∀ {l1 l2 : List Oper} {a : Act} {w : World}, listq P ops (Exit.then (listq P ops Q l2) Q) l1 a w → listq P ops Q (l1 ++ l2) a w := by
  intro l1 l2 a w h0 ro
  have key : ∀ (l1 : List Oper) (a : Act) (w : World), wpListIn (RF ro) 0 P ops (Exit.then (listq P ops Q l2) Q) l1 a w → wpListIn (RF ro) 0 P ops Q (l1 ++ l2) a w := by
    intro l1
    induction l1 with
    | nil => intro a w h; exact h ro
    | cons o l1 ih =>
      intro a w h
      rw [List.cons_append]
      unfold wpListIn at h ⊢
      split
      · rename_i hw
        rw [if_pos hw] at h
        exact Oper.wpIn_mono (fun a w h => ih a w h) (oper_q h)
      · rename_i hw
        rw [if_neg hw] at h
        exact ⟨h.1, ih _ _ h.2⟩
  exact key l1 a w (h0 ro)
def ghAfter (γ : Gh) (n : Nat) : Gh := ⟨fun b => if b < n then γ.col b else 1, γ.box⟩
section
variable {σ χ : Type} {P : Program} {I : σ → (Nat → Prop) → World → Prop} {hI : Abid I} {F : Fp} {ps : χ → List AV} {k : Rnd σ χ} {l : Nat}
theorem ji_yield {m : Bool} {N : Lim} {id : Nat} {ops : List Oper} {its : List It} {E E' : Env} {Q : Exit → Act → World → Prop} {s s' : σ} {x : χ} {b : Bool} {o : Oper} {y : Operand} {ts : Array TypeId} (n : Nat) (d : Option Nat) (args : List Operand) (as0 as : List AV) (E1 : Env)
    (ht : Takes P l ps F k I) (ho : ops.drop n = o :: ops.drop (n + 1)) (hop : o.op = .call ⟨.value y, args.toArray, ts⟩) (hg : o.guard = none) (hd : o.dst = d) (hN : okDst N d = true)
    (h1 : RegOk P N ops.toArray (ops.take n) E E1) (hy : E1.opd y = some (.lf (.val (.func (.yield l) #[] #[])))) (hi : HasIns E1 (args.zip as0)) (hl : args.length = as0.length) (hle : leL as0 as) (hx : ps x = as)
    (hc : ((AV.colsL as).all (fun c => Nat.beq c 0) && (AV.labsL as).isEmpty) = true) (hk : k s x = some (b, s'))
    (h2 : RegOk P N ops.toArray (ops.drop (n + 1)) ⟨putSl d (.lf (.bool b)) (keepSl [1] [] E1.sl), keepBx [1] [] E1.bx⟩ E') (kk : JI m P its (Sx ⟨N, itX I hI F s', false, #[]⟩ E') Q) :
    JI m P (.c (.region id ops.toArray false) :: its) (Sx ⟨N, itX I hI F s, false, #[]⟩ E) Q := by
  intro a w hs
  rw [wpI_c]
  refine wq_region_lit ?_
  have hsplit : ops = ops.take n ++ o :: ops.drop (n + 1) := by rw [← ho, List.take_append_drop]
  rw [hsplit]
  refine listq_append ?_
  rw [← hsplit]
  refine h1 ⟨N, itX I hI F s, false, #[]⟩ a w _ rfl hs fun a1 w1 hs1 => ?_
  obtain ⟨γ, hB, hS, hX⟩ := hs1
  obtain ⟨own, hj, hG⟩ := hB.ext
  have hv := Env.opd_rel hy hS
  have hyv : a1.eval y = .func (.yield l) #[] #[] := by
    generalize a1.eval y = u at hv ⊢
    cases hv.2; rfl
  have hargs : AV.relL γ w1 as (args.map a1.eval) := by
    have hr := hi.rel hS
    refine leL_rel hle ?_
    clear hi hx hc h1 h2 hop hle
    induction args generalizing as0 with
    | nil => cases as0 with
      | nil => rfl
      | cons => simp at hl
    | cons z args ih => cases as0 with
      | nil => simp at hl
      | cons c as0 => exact ⟨_, _, rfl, hr (z, c) List.mem_cons_self, ih as0 (by simpa using hl) (fun p hp => hr p (List.mem_cons_of_mem _ hp))⟩
  simp only [Bool.and_eq_true, List.all_eq_true, List.isEmpty_iff] at hc
  obtain ⟨fn, tmps, asg, body, hrun, hR⟩ := ht s own w1 x b s' (args.map a1.eval) hj hG.lt hk fun γ' hγ' => by
    rw [hx]
    refine AV.reghL as (fun c hcl hcm => ?_) (fun ℓ hℓ => by rw [hc.2] at hℓ; cases hℓ) hargs
    have h0 : γ.col c = 0 := Nat.eq_of_beq_eq_true (hc.1 _ hcm)
    rw [h0]; exact hγ' c hcl (hG.zero c hcl h0)
  refine listq_op (by simp [Region.wanted, hg]) (fun ro => ⟨fun _ _ => trivial, ?_⟩)
  have hrun' : (execOp a1.eval o).run P w1 = .ok (.round l fn tmps asg body) w1 := by
    simp [execOp, hop, resolve, hyv, Deferred.ofValue, invoke, hrun]
  rw [Oper.semAt_eq _ _ _ (by rw [hop]; nofun), hrun']
  refine ⟨nofun, RoundIn.mono hR (fun e B hq => ?_)⟩
  obtain ⟨rfl, hj', hsp⟩ := hq
  have hown : ∀ c, c < w1.heap.size → γ.col c ∉ [1] → own c ∨ F c := fun c hcl hcn => by
    rcases Nat.lt_or_ge (γ.col c) 2 with h | h
    · have h01 : γ.col c = 0 ∨ γ.col c = 1 := by omega
      rcases h01 with e | e
      · exact .inr (hG.zero c hcl e)
      · exact absurd (by rw [e]; exact List.mem_cons_self) hcn
    · exact .inl (hG.mine c hcl h)
  have hT : Tr [1] [] γ w1 (ghAfter γ w1.heap.size) B := ⟨hsp.os, hsp.tape, hsp.output, hsp.size, fun c hcl hcn => hsp.block c hcl (hown c hcl hcn), fun c hcl => by simp [ghAfter, hcl], fun _ _ => rfl, fun c h1 _ h0 => by simp [ghAfter, Nat.not_lt.2 h1] at h0⟩
  refine h2 ⟨N, itX I hI F s', false, #[]⟩ _ B (behind m P Q its) rfl ⟨ghAfter γ w1.heap.size, ⟨⟨[], ?_, List.nodup_nil, fun D hD => by cases hD⟩, fun _ => ?_, ?_, ?_, own, hj', fun c hcl h0 => ?_, fun c hcl h2 => ?_, fun c hcc => Nat.lt_of_lt_of_le (hG.lt c hcc) hsp.size⟩, ?_, hX.tr hT⟩ (fun a' w' hs' => kk a' w' hs')
  · rw [put_defers]; exact hB.clean rfl
  · rw [put_defers]; exact hB.clean rfl
  · rw [put_size]; exact hB.size
  · rw [hd]; exact (hB.put d (.bool b) (okDst_kept hN)).kept
  · by_cases hlt : c < w1.heap.size
    · exact hG.zero c hlt (by simpa [ghAfter, hlt] using h0)
    · simp [ghAfter, hlt] at h0
  · by_cases hlt : c < w1.heap.size
    · exact hG.mine c hlt (by simpa [ghAfter, hlt] using h2)
    · simp [ghAfter, hlt] at h2
  · rw [hd]
    exact (hS.tr hT).put (fun k hk => by rw [hB.size]; exact okDst_spec hN _ hk) ⟨rfl, .bool b⟩
end
inductive CapsAt : Nat → List AV → List (Nat × AV) → List Bx → Prop
  | nil (n : Nat) : CapsAt n [] [] []
  | cons {α : Type} {n : Nat} (r : Rp α) (t : TypeId) (ℓ : Nat) (C : List Nat) (x : α) (avs : List AV) {cs : List AV} {sl : List (Nat × AV)} {bx : List Bx} (h1 : toLVs avs = some (r.lv x)) (h2 : avs.all (leafB C) = true)
      (h : CapsAt (n + 1) cs sl bx) : CapsAt n (.bp r t ℓ C x :: cs) ((n, .ptr ℓ 0) :: sl) (⟨ℓ, t, avs⟩ :: bx)
theorem CapsAt.rel {n : Nat} {cs : List AV} {sl : List (Nat × AV)} {bx : List Bx} (h : CapsAt n cs sl bx) {γ : Gh} {w : World} : ∀ {vs : List Value} (pre post : List Value), pre.length = n → AV.relL γ w cs vs →
    (∀ p ∈ sl, p.2.rel γ w ((pre ++ vs ++ post).toArray.getD p.1 undef)) ∧ Bxs γ w bx := by
  induction h with
  | nil n => intro vs pre post _ _; exact ⟨(fun p hp => by cases hp), (fun b hb => by cases hb)⟩
  | cons r t ℓ C x avs h1 h2 h ih =>
    intro vs pre post hn hr
    obtain ⟨v, vs', rfl, ⟨b, cells, hv, ⟨g1, g2⟩, hlt, hh, hone, hA⟩, hr'⟩ := hr
    obtain ⟨k1, k2⟩ := ih (vs := vs') (pre ++ [v]) post (by simp [hn]) hr'
    refine ⟨fun p hp => ?_, fun c hc => ?_⟩
    · rcases List.mem_cons.1 hp with rfl | hp
      · show ((pre ++ v :: vs' ++ post).toArray.getD _ undef) = _
        rw [g2, ← hv]; subst hn; simp
      · have := k1 p hp
        simpa using this
    · rcases List.mem_cons.1 hc with rfl | hc
      · refine ⟨by rw [g2]; exact g1, cells.toList, ?_, relL_of_toLVs h1 hA h2, hone⟩
        simp only [g2, Array.toArray_toList]; exact hh
      · exact k2 c hc
theorem it_intro {P : Program} {g : FuncId} {fn : Func} {c : Code} {χ : Type} {caps : List AV} {ps : χ → List AV} {it : {σ : Type} → Rnd σ χ → σ → Option σ} (N : Nat) (sl : List (Nat × AV)) (bx : List Bx)
    (hf : P.funcs[g]? = some fn) (hb : fn.body = some c) (hN : fn.ntmps = N) (hlen : Nat.ble (caps.length + 1) N = true) (hres : fn.results = #[]) (hcap : CapsAt 1 caps sl bx)
    (hj : ∀ (σ : Type) (k : Rnd σ χ) (s0 s1 : σ), it k s0 = some s1 → ∀ (l : Nat) (I : σ → (Nat → Prop) → World → Prop) (hI : Abid I) (F : Fp), Takes P l ps F k I →
      J true P c (Sx ⟨⟨N, []⟩, itX I hI F s0, false, #[]⟩ ⟨(0, .lf (.val (.func (.yield l) #[] #[]))) :: sl, bx⟩) fun e a w => (e = .normal ∨ e = .ret) ∧ Sx ⟨⟨N, []⟩, itX I hI F s1, false, #[]⟩ ⟨[], []⟩ a w) : ItOk P g caps ps it := by
  subst hN
  intro σ k s0 s1 hit l γ w F own vs I hc hG hI ht h0
  have hl := relL_length hc
  have hlen' := Nat.le_of_ble_eq_true hlen
  obtain ⟨k1, k2⟩ := hcap.rel [.func (.yield l) #[] #[]] (List.replicate (fn.ntmps - (vs.length + 1)) undef) rfl hc
  have e : (([.func (.yield l) #[] #[]] ++ vs ++ List.replicate (fn.ntmps - (vs.length + 1)) undef : List Value)).toArray = (Value.func (.yield l) #[] #[] :: vs).toArray ++ Array.replicate (fn.ntmps - (Value.func (.yield l) #[] #[] :: vs).toArray.size) undef := by simp
  rw [e] at k1
  refine calls_of_wp hf hb (wp_mono (wq_wp (hj σ k s0 s1 hit l I hI F ht _ w ⟨γ, ⟨⟨[], rfl, List.nodup_nil, (fun D hD => by cases hD)⟩, fun _ => rfl, ?_, (fun k hk => by cases hk), own, h0, hG⟩, fun p hp => ?_, k2⟩)) ?_)
  · simp; omega
  · rcases List.mem_cons.1 hp with rfl | hp
    · show _ ∧ LVrel _ _ _ _
      have : ((Value.func (.yield l) #[] #[] :: vs).toArray ++ Array.replicate (fn.ntmps - (Value.func (.yield l) #[] #[] :: vs).toArray.size) undef).getD 0 undef = .func (.yield l) #[] #[] := by rw [← e]; simp
      rw [this]; exact ⟨rfl, .val _ rfl⟩
    · exact k1 p hp
  · rintro e a w' ⟨he, γ', hB, hS, hX⟩
    obtain ⟨us, hr, _⟩ := results_run (P := P) (fn := fn) (l := []) hS hX (by rw [hres]; trivial)
    have hfin : a.defers = [] ∧ ∃ v, (results fn a.tmps).run P w' = .ok v w' ∧ ((∃ v', (Ending.returned v) = .returned v') ∧ ∃ own', I s1 own' w') := by
      obtain ⟨own', hj', _⟩ := hB.ext
      exact ⟨hB.clean rfl, _, hr, ⟨_, rfl⟩, own', hj'⟩
    rcases he with rfl | rfl
    · exact hfin
    · exact hfin
def Two (X : Ext) (ds : List Deferred) (Z : Nat → Prop) (γ : Gh) (W : World) : Prop :=
  ∃ γx : Gh, X.X γx W ∧ Marks X.base γx W ds ∧ γx.box = γ.box ∧ (∀ b, Z b → γx.col b = 2 ∧ γ.col b = 1) ∧ (∀ b, ¬ Z b → γ.col b = γx.col b) ∧ ∀ b, Z b → b < W.heap.size
section
variable {X : Ext} {ds : List Deferred} {Z : Nat → Prop} {γ γ' : Gh} {W W' : World}
theorem Two.tr {Ws V : List Nat} (h : Two X ds Z γ W) (t : Tr Ws V γ W γ' W') (hW : ∀ c ∈ Ws, 2 ≤ c) (hV : ∀ c ∈ V, 2 ≤ c) : Two X ds Z γ' W' := by
  obtain ⟨γx, hX, hm, hbx, hZ, hn, hlt⟩ := h
  classical
  have ht : Tr Ws V γx W ⟨fun b => if Z b then 2 else γ'.col b, γ'.box⟩ W' := by
    refine ⟨t.os, t.tape, t.output, t.size, fun b hb hc => ?_, fun b hb => ?_, fun ℓ hℓ => ?_, fun b h1 h2 h0 => ?_⟩
    · by_cases hz : Z b
      · exact t.block b hb (by rw [(hZ b hz).2]; intro h; have := hW _ h; omega)
      · exact t.block b hb (by rw [hn b hz]; exact hc)
    · by_cases hz : Z b
      · simp [hz, (hZ b hz).1]
      · simp [hz, t.col b hb, hn b hz]
    · rw [hbx]; exact t.box ℓ hℓ
    · have hz : ¬ Z b := fun hz => by have := hlt b hz; omega
      simp [hz] at h0
      exact t.fresh b h1 h2 h0
  refine ⟨_, X.tr hX ht hW hV, hm.tr ht hW, rfl, fun b hz => ⟨by simp [hz], ?_⟩, fun b hz => by simp [hz], fun b hz => Nat.lt_of_lt_of_le (hlt b hz) t.size⟩
  rw [t.col b (hlt b hz)]; exact (hZ b hz).2
theorem Two.ren (h : Two X ds Z γ W) (k : Alike γ γ') : Two X ds Z γ' W := by
  obtain ⟨γx, hX, hm, hbx, hZ, hn, hlt⟩ := h
  classical
  have ha : Alike γx ⟨fun b => if Z b then 2 else γ'.col b, γ'.box⟩ := by
    refine ⟨fun b hb => ?_, fun b hb => ?_, fun b hb => ?_, fun b hb => ?_⟩
    · have hz : ¬ Z b := fun hz => by have := (hZ b hz).1; omega
      simp [hz]; exact k.zero b (by rw [hn b hz]; exact hb)
    · have hz : ¬ Z b := fun hz => by have := (hZ b hz).1; omega
      simp [hz]; exact k.one b (by rw [hn b hz]; exact hb)
    · by_cases hz : Z b
      · simp [hz] at hb
      · simp [hz] at hb; rw [← hn b hz]; exact k.back b hb
    · have hz : ¬ Z b := fun hz => by rw [(hZ b hz).1] at hb; cases hb
      have := k.old b (by rw [hn b hz]; exact hb)
      simp [hz]; rw [this, hn b hz]
  exact ⟨_, X.ren hX ha, hm.ren ha, rfl, fun b hz => ⟨by simp [hz], k.one b (hZ b hz).2⟩, fun b hz => by simp [hz], hlt⟩
theorem Two.lets (h : Two X ds Z γ W) (t : Lets Z W W') : Two X ds (fun b => Z b ∨ (W.heap.size ≤ b ∧ b < W'.heap.size)) (ghAfter γ W.heap.size) W' := by
  obtain ⟨γx, hX, hm, hbx, hZ, hn, hlt⟩ := h
  have ht : Tr [2] [] γx W ⟨fun b => if b < W.heap.size then γx.col b else if b < W'.heap.size then 2 else 1, γx.box⟩ W' := by
    refine ⟨t.os, t.tape, t.output, t.size, fun b hb hc => t.block b hb (fun hz => hc (by rw [(hZ b hz).1]; exact List.mem_cons_self)), fun b hb => by simp [hb], fun ℓ _ => rfl, fun b h1 h2 h0 => ?_⟩
    simp [Nat.not_lt.2 h1, h2] at h0
  have hW : ∀ c ∈ [2], 2 ≤ c := fun c hc => by simp at hc; omega
  refine ⟨_, X.tr hX ht hW (fun c hc => by cases hc), hm.tr ht hW, hbx, fun b hz => ?_, fun b hz => ?_, fun b hz => ?_⟩
  · rcases hz with hz | ⟨h1, h2⟩
    · simp [ghAfter, hlt b hz]; exact hZ b hz
    · simp [ghAfter, Nat.not_lt.2 h1, h2]
  · by_cases hb : b < W.heap.size
    · simp [ghAfter, hb]; exact hn b fun h => hz (.inl h)
    · have h2 : ¬ b < W'.heap.size := fun h => hz (.inr ⟨Nat.le_of_not_lt hb, h⟩)
      simp [ghAfter, hb, h2]
  · rcases hz with hz | ⟨_, h2⟩
    · exact Nat.lt_of_lt_of_le (hlt b hz) t.size
    · exact h2
theorem Two.out (h : Two X ds Z γ W) : X.X γ W ∧ Marks X.base γ W ds := by
  obtain ⟨γx, hX, hm, hbx, hZ, hn, hlt⟩ := h
  have ha : Alike γx γ := by
    refine ⟨fun b hb => ?_, fun b hb => ?_, fun b hb => ?_, fun b hb => ?_⟩
    · have hz : ¬ Z b := fun hz => by have := (hZ b hz).1; omega
      rw [hn b hz]; exact hb
    · have hz : ¬ Z b := fun hz => by have := (hZ b hz).1; omega
      rw [hn b hz]; exact hb
    · have hz : ¬ Z b := fun hz => by have := (hZ b hz).2; omega
      rw [← hn b hz]; exact hb
    · have hz : ¬ Z b := fun hz => by rw [(hZ b hz).1] at hb; cases hb
      exact hn b hz
  exact ⟨X.ren hX ha, hm.ren ha⟩
end
def roundX (X : Ext) (ds : List Deferred) (Z : Nat → Prop) (F : Fp) (W0 : World) : Ext where
  X γ W := Two X ds Z γ W ∧ Spares (fun b => Z b ∨ F b) W0 W ∧ (∀ b, F b → γ.col b = 0 ∧ b < W0.heap.size) ∧ ∀ b, Z b → b < W0.heap.size
  tr := fun {γ γ' W W' Ws V} ⟨h1, h2, h3, h4⟩ t hW hV => by
    refine ⟨h1.tr t hW hV, ⟨t.os.trans h2.os, t.tape.trans h2.tape, t.output.trans h2.output, Nat.le_trans h2.size t.size, fun b hb hz => ?_⟩, fun b hF => ⟨?_, (h3 b hF).2⟩, h4⟩
    · refine (t.block b (Nat.lt_of_lt_of_le hb h2.size) fun hc => ?_).trans (h2.block b hb hz)
      have := hW _ hc
      rcases hz with hz | hF
      · obtain ⟨γx, _, _, _, hZ, _⟩ := h1
        have := (hZ b hz).2; omega
      · have := (h3 b hF).1; omega
    · rw [t.col b (Nat.lt_of_lt_of_le (h3 b hF).2 h2.size)]; exact (h3 b hF).1
  ren := fun {γ γ' W} ⟨h1, h2, h3, h4⟩ k => ⟨h1.ren k, h2, fun b hF => ⟨k.zero b (h3 b hF).1, (h3 b hF).2⟩, h4⟩
  base := 0
  le := fun _ => Nat.zero_le _
def putAll : List Nat → List AV → List (Nat × AV) → List (Nat × AV)
  | p :: ps, v :: vs, l => putAll ps vs (putSl (some p) v l)
  | _, _, l => l
theorem putAll_rel {γ : Gh} {w : World} : ∀ (ps : List Nat) (as : List AV) (us : List Value) (l : List (Nat × AV)) (a : Act), Sl γ w a l → AV.relL γ w as us → ps.length = as.length → (∀ p ∈ ps, p < a.tmps.size) →
    Sl γ w ⟨(ps.zip us).foldl (fun t (q : Nat × Value) => t.setIfInBounds q.1 q.2) a.tmps, a.defers⟩ (putAll ps as l)
  | [], [], us, l, a, hs, _, _, _ => by simpa [putAll] using hs
  | p :: ps, v :: as, us, l, a, hs, hr, hl, hlt => by
    obtain ⟨u, us', rfl, h1, h2⟩ := hr
    exact putAll_rel ps as us' _ (a.put (some p) u) (hs.put (fun k hk => by cases hk; exact hlt p List.mem_cons_self) h1) h2 (by simpa using hl) (fun q hq => by rw [put_size]; exact hlt q (List.mem_cons_of_mem _ hq))
  | [], _ :: _, _, _, _, _, _, hl, _ => by simp at hl
  | _ :: _, [], _, _, _, _, _, hl, _ => by simp at hl
theorem foldl_put : ∀ (qs : List (Nat × Value)) (t : Array Value), (qs.foldl (fun t (q : Nat × Value) => t.setIfInBounds q.1 q.2) t).size = t.size ∧ ∀ k, (∀ q ∈ qs, q.1 ≠ k) → (qs.foldl (fun t (q : Nat × Value) => t.setIfInBounds q.1 q.2) t).getD k undef = t.getD k undef
  | [], t => ⟨rfl, fun _ _ => rfl⟩
  | q :: qs, t => by
    obtain ⟨h1, h2⟩ := foldl_put qs (t.setIfInBounds q.1 q.2)
    refine ⟨by rw [List.foldl_cons, h1]; simp, fun k hk => ?_⟩
    rw [List.foldl_cons, h2 k fun r hr => hk r (List.mem_cons_of_mem _ hr)]
    simp only [Array.getD_eq_getD_getElem?]
    rw [Array.getElem?_setIfInBounds_ne (hk q List.mem_cons_self)]
def Zof (own : Nat → Prop) (l D : Nat) : Nat → Prop := fun b => own b ∨ b = l ∨ b = D
theorem Two.congr {X : Ext} {ds : List Deferred} {Z Z' : Nat → Prop} {γ : Gh} {W : World} (h : Two X ds Z γ W) (e : ∀ b, Z b ↔ Z' b) : Two X ds Z' γ W := by
  have : Z = Z' := funext fun b => propext (e b)
  rw [← this]; exact h
theorem tr_others {γ : Gh} {W W' : World} {K : Nat → Prop} (t : Lets K W W') (hK : ∀ b, K b → γ.col b = 1) : Tr [1] [] γ W (ghAfter γ W.heap.size) W' :=
  ⟨t.os, t.tape, t.output, t.size, fun b hb hc => t.block b hb fun hk => hc (by rw [hK b hk]; exact List.mem_cons_self), fun b hb => by simp [ghAfter, hb], fun _ _ => rfl, fun b h1 _ h0 => by simp [ghAfter, Nat.not_lt.2 h1] at h0⟩
def lpOf {σ ρ : Type} (rec : LoopState → Option Code → Loop) (cd : ρ → Code) : σ ⊕ ρ → Loop
  | .inl _ => rec .ready none
  | .inr r => rec .done (some (cd r))
def bxOf {σ ρ : Type} (Bs : σ → List Bx) (Br : ρ → List Bx) : σ ⊕ ρ → List Bx
  | .inl s => Bs s
  | .inr r => Br r
structure CI {σ ρ : Type} (X : Ext) (ds : List Deferred) (F : Fp) (l D : Nat) (rec : LoopState → Option Code → Loop) (old : Array Value) (slE : List (Nat × AV)) (Bs : σ → List Bx) (Br : ρ → List Bx) (cd : ρ → Code) (st : σ ⊕ ρ) (own : Nat → Prop) (W : World) (γ : Gh) : Prop where
  two : Two X ds (Zof own l D) γ W
  data : ∀ b, F b → γ.col b = 0 ∧ b < W.heap.size
  nl : ¬ own l
  nD : ¬ own D
  blk : W.heap[D]? = some (.deferred (some []))
  sl : ∀ p ∈ slE, p.2.rel γ W (old.getD p.1 undef)
  bx : Bxs γ W (bxOf Bs Br st)
  lp : W.heap[l]? = some (.loop (lpOf rec cd st))
theorem CI.abid {σ ρ : Type} {X : Ext} {ds : List Deferred} {F : Fp} {l D : Nat} {rec : LoopState → Option Code → Loop} {old : Array Value} {slE : List (Nat × AV)} {Bs : σ → List Bx} {Br : ρ → List Bx} {cd : ρ → Code}
    (hfs : ∀ p ∈ slE, p.2.free [1] [] = true) (hBs : ∀ s, keepBx [1] [] (Bs s) = Bs s) (hBr : ∀ r, keepBx [1] [] (Br r) = Br r) :
    Abid fun (st : σ ⊕ ρ) own W => ∃ γ, CI X ds F l D rec old slE Bs Br cd st own W γ := by
  rintro st own A B ⟨γ, h⟩ t
  have hl := (Array.getElem?_eq_some_iff.1 h.lp).1
  have hD := (Array.getElem?_eq_some_iff.1 h.blk).1
  have tZ : Lets (Zof own l D) A B := ⟨t.os, t.tape, t.output, t.size, fun b hb hn => t.block b hb fun ho => hn (.inl ho)⟩
  have h1 : ∀ b, own b → γ.col b = 1 := fun b ho => by
    obtain ⟨γx, _, _, _, hZ, _⟩ := h.two
    exact (hZ b (.inl ho)).2
  have hT := tr_others t h1
  refine ⟨ghAfter γ A.heap.size, (h.two.lets tZ).congr fun b => ?_, fun b hF => ?_, ?_, ?_, (t.block D hD h.nD).trans h.blk, fun p hp => ?_, ?_, (t.block l hl h.nl).trans h.lp⟩
  · unfold Zof
    constructor
    · rintro ((h | h) | h)
      · exact .inl (.inl h)
      · exact .inr h
      · exact .inl (.inr h)
    · rintro ((h | h) | h)
      · exact .inl (.inl h)
      · exact .inr h
      · exact .inl (.inr h)
  · obtain ⟨g1, g2⟩ := h.data b hF
    exact ⟨by simp [ghAfter, g2, g1], Nat.lt_of_lt_of_le g2 t.size⟩
  · rintro (h' | ⟨h', _⟩)
    · exact h.nl h'
    · omega
  · rintro (h' | ⟨h', _⟩)
    · exact h.nD h'
    · omega
  · obtain ⟨f1, f2⟩ := AV.free_spec (hfs p hp)
    exact p.2.keep hT f1 f2 (h.sl p hp)
  · have := h.bx.tr hT
    cases st with
    | inl s => rw [show bxOf Bs Br (Sum.inl s) = Bs s from rfl, hBs] at this; exact this
    | inr r => rw [show bxOf Bs Br (Sum.inr r) = Br r from rfl, hBr] at this; exact this
def Jump : Exit → Code → Prop
  | .ret, .ret => True
  | .exit i, .exit j => i = j
  | _, _ => False
theorem Lets.put {Z : Nat → Prop} {W : World} {l : Nat} (hl : Z l) (o : Obj) : Lets Z W (W.putObj l o) :=
  ⟨rfl, rfl, rfl, by simp, fun b _ hb => World.putObj_heap_other fun e => hb (e ▸ hl)⟩
theorem Two.put {X : Ext} {ds : List Deferred} {Z : Nat → Prop} {γ : Gh} {W : World} {l : Nat} (h : Two X ds Z γ W) (hl : Z l) (o : Obj) : Two X ds Z (ghAfter γ W.heap.size) (W.putObj l o) :=
  (h.lets (Lets.put hl o)).congr fun b => ⟨fun h => h.elim id fun ⟨h1, h2⟩ => by simp at h2; omega, .inl⟩
theorem Two.one {X : Ext} {ds : List Deferred} {Z : Nat → Prop} {γ : Gh} {W : World} (h : Two X ds Z γ W) : ∀ b, Z b → γ.col b = 1 := fun b hb => by
  obtain ⟨γx, _, _, _, hZ, _⟩ := h
  exact (hZ b hb).2
theorem Two.lt {X : Ext} {ds : List Deferred} {Z : Nat → Prop} {γ : Gh} {W : World} (h : Two X ds Z γ W) : ∀ b, Z b → b < W.heap.size := fun b hb => by
  obtain ⟨γx, _, _, _, _, _, hl⟩ := h
  exact hl b hb
theorem CI.takes {σ ρ χ : Type} {P : Program} {X : Ext} {ds : List Deferred} {F : Fp} {l D : Nat} {rec : LoopState → Option Code → Loop} {old : Array Value} {slE : List (Nat × AV)} {Bs : σ → List Bx} {Br : ρ → List Bx} {cd : ρ → Code}
    {asg body : Code} {prm : Array Tmp} {N : Nat} {ks : List Nat} {kb : σ → χ → Option (σ ⊕ ρ)} {ps : χ → List AV} {Eb : σ → χ → Env} (fn : FuncId) (hrec : rec = fun st pe => { state := st, pending := pe, fn := fn, tmps := old, params := prm, assign := asg, body := body, defers := D })
    (hN : old.size = N) (hlD : l ≠ D) (hfs : ∀ p ∈ slE, p.2.free [1] [] = true) (hBs : ∀ s, keepBx [1] [] (Bs s) = Bs s) (hBr : ∀ r, keepBx [1] [] (Br r) = Br r)
    (hks : ∀ p ∈ slE, p.1 ∈ ks) (hpk : ∀ q ∈ prm.toList, q ∉ ks ∧ q < N) (hprm : ∀ x, (ps x).length = prm.size)
    (hasg : ∀ (X : Ext) (old : Array Value) s x, J false P asg (Sx ⟨⟨N, ks⟩, X, false, old⟩ ⟨putAll prm.toList (ps x) slE, Bs s⟩) fun e a w => e = .normal ∧ Sx ⟨⟨N, ks⟩, X, false, old⟩ (Eb s x) a w)
    (hfree : ∀ s x, keepSl [1] [] (Eb s x).sl = (Eb s x).sl ∧ keepBx [1] [] (Eb s x).bx = (Eb s x).bx)
    (hbody : ∀ (X : Ext) (old : Array Value) s x o, kb s x = some o → J false P body (Sx ⟨⟨N, ks⟩, X, false, old⟩ (Eb s x)) (match o with
      | .inl s' => fun e a w => e = .normal ∧ Sx ⟨⟨N, ks⟩, X, false, old⟩ ⟨slE, Bs s'⟩ a w
      | .inr r => fun e a w => Jump e (cd r) ∧ Sx ⟨⟨N, ks⟩, X, false, old⟩ ⟨slE, Br r⟩ a w)) :
    Takes P l ps F (rnd kb) fun (st : σ ⊕ ρ) own W => ∃ γ, CI X ds F l D rec old slE Bs Br cd st own W γ := by
  rintro st own A x b st' us ⟨γ, h⟩ hown hk hus
  cases st with
  | inr r => cases hk
  | inl s =>
  have hur := hus γ fun c hc hF => (h.data c hF).1
  have hul : us.length = prm.size := by rw [relL_length hur, hprm]
  have hl0 : A.heap[l]? = some (.loop (rec .ready none)) := h.lp
  have hZl : Zof own l D l := .inr (.inl rfl)
  have hnF : ¬ F l := fun hF => by have := (h.data l hF).1; have := h.two.one l hZl; omega
  have hy := run_yield (P := P) (args := us.toArray) hl0 (by rw [hrec]; simpa using hul)
  rw [hrec] at hy
  simp only at hy
  have hfold : (prm.zip us.toArray).foldl (fun tmps (q : Nat × Value) => tmps.setIfInBounds q.1 q.2) old = (prm.toList.zip us).foldl (fun tmps (q : Nat × Value) => tmps.setIfInBounds q.1 q.2) old := by
    rw [← Array.foldl_toList, Array.toList_zip]
  obtain ⟨q1, q2⟩ := foldl_put (prm.toList.zip us) old
  refine ⟨_, _, asg, body, hy, roundIn_of_wpIn trivial ?_⟩
  have hstart : Sx ⟨⟨N, ks⟩, roundX X ds (Zof own l D) F A, false, old⟩ ⟨putAll prm.toList (ps x) slE, Bs s⟩ { tmps := (prm.zip us.toArray).foldl (fun tmps (q : Nat × Value) => tmps.setIfInBounds q.1 q.2) old, defers := [] } A := by
    refine ⟨γ, ⟨⟨[], rfl, List.nodup_nil, fun D hD => by cases hD⟩, fun _ => rfl, ?_, fun k hk => ?_, h.two, ⟨rfl, rfl, rfl, Nat.le_refl _, fun _ _ _ => rfl⟩, h.data, h.two.lt⟩, ?_, h.bx⟩
    · show Array.size _ = N
      rw [hfold, q1, hN]
    · show Array.getD _ k undef = _
      rw [hfold]
      exact q2 k fun q hq e => (hpk q.1 (List.of_mem_zip hq).1).1 (e ▸ hk)
    · have := putAll_rel prm.toList (ps x) us slE ⟨old, []⟩ (fun p hp => h.sl p hp) hur (by rw [hprm]; simp) (fun p hp => by rw [hN]; exact (hpk p hp).2)
      rw [hfold]; exact this
  refine wpIn_mono (hasg _ old s x _ A hstart (some l) nofun) ?_
  rintro e a1 w1 ⟨rfl, γ1, hB1, hS1, hX1⟩
  obtain ⟨hT1, hsp1, hF1, hZ1⟩ := hB1.ext
  have hll := hZ1 l hZl
  have hl1 : w1.heap[l]? = some (.loop (rec .ready none)) := (hsp1.block l hll (.inl hZl)).trans hl0
  refine ⟨_, run_beginRound hl1 (by rw [hrec]), ?_⟩
  have hlt1 := (Array.getElem?_eq_some_iff.1 hl1).1
  obtain ⟨w2, hw2⟩ : ∃ w2, w1.putObj l (.loop { rec .ready none with state := .busy }) = w2 := ⟨_, rfl⟩
  rw [hw2]
  have hsz2 : w2.heap.size = w1.heap.size := by rw [← hw2]; simp
  have hl2 : w2.heap[l]? = some (.loop { rec .ready none with state := .busy }) := by rw [← hw2]; exact World.putObj_heap_same hlt1
  have hL12 : Lets (Zof own l D) w1 w2 := by rw [← hw2]; exact Lets.put hZl _
  have hLl : Lets (fun b => b = l) w1 w2 := by rw [← hw2]; exact Lets.put (Z := fun b => b = l) rfl _
  have hT12 := tr_others hLl fun b e => by rw [e]; exact hT1.one l hZl
  have hT2 : Two X ds (Zof own l D) (ghAfter γ1 w1.heap.size) w2 := by rw [← hw2]; exact hT1.put hZl _
  have hsb : Sx ⟨⟨N, ks⟩, roundX X ds (Zof own l D) F w2, false, old⟩ (Eb s x) a1 w2 := by
    refine ⟨ghAfter γ1 w1.heap.size, ⟨⟨[], hB1.clean rfl, List.nodup_nil, fun D hD => by cases hD⟩, hB1.clean, hB1.size, hB1.kept, hT2, ⟨rfl, rfl, rfl, Nat.le_refl _, fun _ _ _ => rfl⟩, fun c hF => ?_, hT2.lt⟩, ?_, ?_⟩
    · obtain ⟨g1, g2⟩ := hF1 c hF
      have g3 := Nat.lt_of_lt_of_le g2 hsp1.size
      exact ⟨by simp [ghAfter, g3, g1], by rw [hsz2]; exact g3⟩
    · have := hS1.tr hT12
      rw [(hfree s x).1] at this; exact this
    · have := hX1.tr hT12
      rw [(hfree s x).2] at this; exact this
  have fin : ∀ (jump : Option Code) (st' : σ ⊕ ρ) (a3 : Act) (w3 : World), (∃ γ3, Base ⟨⟨N, ks⟩, roundX X ds (Zof own l D) F w2, false, old⟩ γ3 a3 w3 ∧ Sl γ3 w3 a3 slE ∧ Bxs γ3 w3 (bxOf Bs Br st')) →
      lpOf rec cd st' = rec (if jump.isNone then .ready else .done) jump → keepBx [1] [] (bxOf Bs Br st') = bxOf Bs Br st' →
      ∃ w4, (Instr.endRound l jump).run P w3 = .ok (.bool jump.isNone) w4 ∧ (∃ γ4, CI X ds F l D rec old slE Bs Br cd st' own w4 γ4) ∧ Spares (fun c => own c ∨ F c) A w4 := by
    rintro jump st' a3 w3 ⟨γ3, hB3, hS3, hX3⟩ hlp hkb
    obtain ⟨hT3, hsp3, hF3, hZ3⟩ := hB3.ext
    have hl3 : w3.heap[l]? = some (.loop { rec .ready none with state := .busy }) := (hsp3.block l (by omega) (.inl hZl)).trans hl2
    have hlt3 := (Array.getElem?_eq_some_iff.1 hl3).1
    have hD2 : D < w2.heap.size := hZ3 D (.inr (.inr rfl))
    have hrun := run_endRound (P := P) jump hl3
    have hobj : ({ ({ rec .ready none with state := .busy } : Loop) with state := if jump.isNone then .ready else .done, pending := jump } : Loop) = lpOf rec cd st' := by rw [hlp, hrec]
    rw [hobj] at hrun
    have hLl3 : Lets (fun b => b = l) w3 (w3.putObj l (.loop (lpOf rec cd st'))) := Lets.put (Z := fun b => b = l) rfl _
    have hT34 := tr_others hLl3 fun b e => by rw [e]; exact hT3.one l hZl
    refine ⟨_, hrun, ⟨ghAfter γ3 w3.heap.size, hT3.put hZl _, fun c hF => ?_, h.nl, h.nD, ?_, fun p hp => ?_, ?_, World.putObj_heap_same hlt3⟩, ?_⟩
    · obtain ⟨g1, g2⟩ := hF3 c hF
      have g3 := Nat.lt_of_lt_of_le g2 hsp3.size
      exact ⟨by simp [ghAfter, g3, g1], by simpa using g3⟩
    · rw [World.putObj_heap_other (Ne.symm hlD), hsp3.block D hD2 (.inl (.inr (.inr rfl))), hLl.block D (by omega) (Ne.symm hlD), hsp1.block D (hZ1 D (.inr (.inr rfl))) (.inl (.inr (.inr rfl)))]
      exact h.blk
    · obtain ⟨f1, f2⟩ := AV.free_spec (hfs p hp)
      have := p.2.keep hT34 f1 f2 (hS3 p hp)
      rw [hB3.kept p.1 (hks p hp)] at this
      exact this
    · have := hX3.tr hT34
      rw [hkb] at this; exact this
    · have hlz : ∀ c, own c ∨ F c → c ≠ l := fun c hc e => by
        subst e
        exact hc.elim h.nl hnF
      refine ⟨?_, ?_, ?_, ?_, fun c hc hcc => ?_⟩
      · exact hsp3.os.trans (hL12.os.trans hsp1.os)
      · exact hsp3.tape.trans (hL12.tape.trans hsp1.tape)
      · exact hsp3.output.trans (hL12.output.trans hsp1.output)
      · have := hsp1.size
        have := hsp3.size
        simp; omega
      · have h1 := hsp1.size
        have hz : Zof own l D c ∨ F c := hcc.imp .inl id
        rw [World.putObj_heap_other (hlz c hcc), hsp3.block c (by omega) hz, hLl.block c (by omega) (hlz c hcc), hsp1.block c hc hz]
  cases hkb : kb s x with
  | none => simp [rnd, hkb] at hk
  | some o =>
    refine wpIn_mono (hbody _ old s x o hkb a1 w2 hsb (some l) nofun) ?_
    rintro e a3 w3 hp
    cases o with
    | inl s' =>
      simp [rnd, hkb] at hk
      obtain ⟨rfl, rfl⟩ := hk
      obtain ⟨rfl, hs3⟩ := hp
      obtain ⟨w4, e1, e2, e3⟩ := fin none (.inl s') a3 w3 hs3 rfl (hBs s')
      exact ⟨_, w4, e1, rfl, e2, e3⟩
    | inr r =>
      simp [rnd, hkb] at hk
      obtain ⟨rfl, rfl⟩ := hk
      obtain ⟨hj, hs3⟩ := hp
      obtain ⟨w4, e1, e2, e3⟩ := fin (some (cd r)) (.inr r) a3 w3 hs3 rfl (hBr r)
      cases e with
      | ret =>
        cases hc : cd r with
        | ret => rw [hc] at e1; exact ⟨_, w4, e1, rfl, e2, e3⟩
        | _ => rw [hc] at hj; exact hj.elim
      | exit i =>
        cases hc : cd r with
        | exit j => rw [hc] at e1 hj; cases (show i = j from hj); exact ⟨_, w4, e1, rfl, e2, e3⟩
        | _ => rw [hc] at hj; exact hj.elim
      | _ => exact hj.elim
theorem keepBx_free {W V : List Nat} {l : List Bx} {c : Bx} (h : c ∈ keepBx W V l) : c.lab ∉ W ∧ ∀ a ∈ c.avs, a.free W V = true := by
  simp only [keepBx, List.mem_map, List.mem_filter, Bool.and_eq_true] at h
  obtain ⟨b, ⟨_, h1, _⟩, rfl⟩ := h
  refine ⟨not_memN h1, fun a ha => ?_⟩
  obtain ⟨x, _, rfl⟩ := List.mem_map.1 ha
  unfold AV.clear
  cases hf : x.free W V with
  | true => exact hf
  | false => rfl
theorem cols_of {W V : List Nat} : ∀ {l : List AV}, (∀ a ∈ l, a.free W V = true) → (∀ c ∈ AV.colsL l, c ∉ W) ∧ ∀ c ∈ AV.labsL l, c ∉ V
  | [], _ => by
    refine ⟨?_, ?_⟩
    · intro c hc; cases hc
    · intro c hc; cases hc
  | a :: l, h => by
    obtain ⟨h1, h2⟩ := AV.free_spec (h a List.mem_cons_self)
    obtain ⟨h3, h4⟩ := cols_of (l := l) fun b hb => h b (List.mem_cons_of_mem _ hb)
    exact ⟨fun c hc => (List.mem_append.1 hc).elim (h1 c) (h3 c), fun c hc => (List.mem_append.1 hc).elim (h2 c) (h4 c)⟩
def Behind {σ ρ : Type} (P : Program) (cx : Cx) (its : List It) (slE : List (Nat × AV)) (Bs : σ → List Bx) (Br : ρ → List Bx) (cd : ρ → Code) (Q : Exit → Act → World → Prop) : σ ⊕ ρ → Prop
  | .inl s => JI true P its (Sx cx ⟨slE, Bs s⟩) Q
  | .inr r => JI true P (.c (cd r) :: its) (Sx cx ⟨slE, Br r⟩) Q
theorem ji_range {σ ρ χ : Type} {P : Program} {gf : Nat} {caps : List AV} {ps : χ → List AV} {it : {σ : Type} → Rnd σ χ → σ → Option σ} {g : Operand} {prm : Array Tmp} {asg body : Code} {cx : Cx} {E : Env} {its : List It} {Q : Exit → Act → World → Prop} {s0 : σ} {o : σ ⊕ ρ}
    (ok : ItOk P gf caps ps it) (L ks bs : List Nat) (slE : List (Nat × AV)) (Bs : σ → List Bx) (Br : ρ → List Bx) (cd : ρ → Code) (kb : σ → χ → Option (σ ⊕ ρ)) (Eb : σ → χ → Env)
    (hmk : cx.marked = true) (hg : E.opd g = some (.fv gf caps)) (heg : ∀ as w, (callFunc gf as).run P w = .ok (.enter gf as) w) (hL : okW L = true) (hLs : (L.all fun c => !spB c) = true) (hcols : subN (AV.colsL caps) (0 :: L) = true)
    (hp : E.pick ks bs = some ⟨slE, Bs s0⟩) (hfs : (slE.all fun p => p.2.free (1 :: L) []) = true) (hB0 : keepBx (1 :: L) [] (Bs s0) = Bs s0) (hBs : ∀ s, keepBx [1] [] (Bs s) = Bs s) (hBr : ∀ r, keepBx [1] [] (Br r) = Br r)
    (hpk : (prm.toList.all fun q => !memN q ks && Nat.blt q cx.n.n) = true) (hks : (slE.all fun p => memN p.1 ks) = true) (hprm : ∀ x, (ps x).length = prm.size)
    (hasg : ∀ (X : Ext) (old : Array Value) s x, J false P asg (Sx ⟨⟨cx.n.n, ks⟩, X, false, old⟩ ⟨putAll prm.toList (ps x) slE, Bs s⟩) fun e a w => e = .normal ∧ Sx ⟨⟨cx.n.n, ks⟩, X, false, old⟩ (Eb s x) a w)
    (hfree : ∀ s x, keepSl [1] [] (Eb s x).sl = (Eb s x).sl ∧ keepBx [1] [] (Eb s x).bx = (Eb s x).bx)
    (hbody : ∀ (X : Ext) (old : Array Value) s x o, kb s x = some o → J false P body (Sx ⟨⟨cx.n.n, ks⟩, X, false, old⟩ (Eb s x)) (match o with
      | .inl s' => fun e a w => e = .normal ∧ Sx ⟨⟨cx.n.n, ks⟩, X, false, old⟩ ⟨slE, Bs s'⟩ a w
      | .inr r => fun e a w => Jump e (cd r) ∧ Sx ⟨⟨cx.n.n, ks⟩, X, false, old⟩ ⟨slE, Br r⟩ a w))
    (hit : it (rnd kb) (.inl s0) = some o)
    (hk : Behind P cx its slE Bs Br cd Q o) : JI true P (.c (.rangeFunc g prm asg body) :: its) (Sx cx E) Q := by
  intro a w hs
  rw [wpI_c]
  intro ro hro
  obtain rfl := hro rfl
  refine wpIn_rangeFunc fun fn _ => ?_
  obtain ⟨γ0, hB, hS, hX⟩ := hs
  obtain ⟨vs, hv, hcaps⟩ := Env.opd_rel hg hS
  have hL2 := okW_spec hL
  have h0L : 0 ∉ L := fun h => by have := hL2 0 h; omega
  have h1L : 1 ∉ L := fun h => by have := hL2 1 h; omega
  simp only [List.all_eq_true] at hfs hpk hks
  have hslm : ∀ p ∈ slE, p ∈ E.sl := by
    unfold Env.pick at hp
    split at hp
    · rename_i s' b' e1 e2; cases hp; exact pickSl_mem _ _ e1
    · cases hp
  have hbxm : ∀ b ∈ Bs s0, b ∈ E.bx := by
    unfold Env.pick at hp
    split at hp
    · rename_i s' b' e1 e2; simp only [Option.some.injEq, Env.mk.injEq] at hp; rw [← hp.2]; exact pickBx_mem _ _ e2
    · cases hp
  obtain ⟨rec, hrec⟩ : ∃ rec : LoopState → Option Code → Loop, rec = fun st pe => { state := st, pending := pe, fn := fn, tmps := a.tmps, params := prm, assign := asg, body := body, defers := w.heap.size } := ⟨_, rfl⟩
  obtain ⟨W1, hW1⟩ : ∃ W1, (w.alloc (.deferred (some []))).alloc (.loop (rec .ready none)) = W1 := ⟨_, rfl⟩
  have hl1 : W1.heap[w.heap.size + 1]? = some (.loop (rec .ready none)) := by
    rw [← hW1]; have := World.alloc_heap_new (w.alloc (.deferred (some []))) (.loop (rec .ready none)); rwa [World.size_alloc] at this
  have hD1 : W1.heap[w.heap.size]? = some (.deferred (some [])) := by
    rw [← hW1]; exact (Below.heap_alloc _ _ _ (by simp)).trans (World.alloc_heap_new w _)
  have hsz : W1.heap.size = w.heap.size + 2 := by rw [← hW1]; simp
  have hblk : ∀ b, b < w.heap.size → W1.heap[b]? = w.heap[b]? := fun b hb => by
    rw [← hW1]; exact (Below.heap_alloc _ _ _ (by simp; omega)).trans (Below.heap_alloc _ _ _ hb)
  have hos : W1.os = w.os ∧ W1.tape = w.tape ∧ W1.output = w.output := by rw [← hW1]; exact ⟨rfl, rfl, rfl⟩
  have trn : ∀ γ γ' : Gh, (∀ b, b < w.heap.size → γ'.col b = γ.col b) → γ'.box = γ.box → (∀ b, w.heap.size ≤ b → b < w.heap.size + 2 → γ'.col b ≠ 0) → Tr [] [] γ w γ' W1 := fun γ γ' h1 h2 h3 =>
    ⟨hos.1, hos.2.1, hos.2.2, by omega, fun b hb _ => hblk b hb, h1, fun ℓ _ => by rw [h2], fun b hb hb2 h0 => absurd h0 (h3 b hb (by omega))⟩
  obtain ⟨own0, hown0⟩ : ∃ own0 : Nat → Prop, own0 = fun b => b < w.heap.size ∧ γ0.col b ∈ L := ⟨_, rfl⟩
  obtain ⟨F, hF⟩ : ∃ F : Fp, F = fun b => b < w.heap.size ∧ γ0.col b = 0 := ⟨_, rfl⟩
  -- the iterator's view
  obtain ⟨γi, hγi⟩ : ∃ γi : Gh, γi = ⟨fun b => if b < w.heap.size then (if γ0.col b ∈ L then γ0.col b else if γ0.col b = 0 then 0 else 1) else 1, γ0.box⟩ := ⟨_, rfl⟩
  have hci : AV.relL γi W1 caps vs := by
    refine AV.keepL caps (trn γi γi (fun _ _ => rfl) rfl (fun b h1 _ => by simp [hγi, Nat.not_lt.2 h1])) (fun c _ h => by cases h) (fun c _ h => by cases h) (AV.reghL caps (fun b hb hc => ?_) (fun ℓ _ => by rw [hγi]) hcaps)
    have := subN_spec hcols _ hc
    rw [hγi]
    rcases List.mem_cons.1 this with e | e
    · simp [hb, e, h0L]
    · simp [hb, e]
  have hGi : ItG F own0 γi W1 := by
    rw [hγi, hF, hown0]
    refine ⟨fun b hb h0 => ?_, fun b hb h2 => ?_, fun b hb => by rw [hsz]; exact Nat.lt_of_lt_of_le hb.1 (by omega)⟩
    · by_cases hlt : b < w.heap.size
      · by_cases hm : γ0.col b ∈ L
        · simp [hlt, hm] at h0; rw [h0] at hm; exact absurd hm h0L
        · by_cases hz : γ0.col b = 0
          · exact ⟨hlt, hz⟩
          · simp [hlt, hm, hz] at h0
      · simp [hlt] at h0
    · by_cases hlt : b < w.heap.size
      · by_cases hm : γ0.col b ∈ L
        · exact ⟨hlt, hm⟩
        · by_cases hz : γ0.col b = 0
          · simp [hlt, hz, h0L] at h2
          · simp [hlt, hm, hz] at h2
      · simp [hlt] at h2
  -- the caller's
  obtain ⟨γ1, hγ1⟩ : ∃ γ1 : Gh, γ1 = ⟨fun b => if b < w.heap.size then (if γ0.col b ∈ L then 1 else γ0.col b) else 1, γ0.box⟩ := ⟨_, rfl⟩
  have h1same : ∀ (C : List Nat), (∀ c ∈ C, c ∉ 1 :: L) → ∀ b, b < w.heap.size → γ0.col b ∈ C → γ1.col b = γ0.col b := fun C hC b hb hc => by
    have hn : γ0.col b ∉ L := fun h => hC _ hc (List.mem_cons_of_mem _ h)
    simp [hγ1, hb, hn]
  have tr1 : Tr [] [] γ1 w γ1 W1 := trn γ1 γ1 (fun _ _ => rfl) rfl (fun b h1 _ => by simp [hγ1, Nat.not_lt.2 h1])
  have hI0 : CI cx.X a.defers F (w.heap.size + 1) w.heap.size rec a.tmps slE Bs Br cd (.inl s0) own0 W1 γ1 := by
    have ha : Alike γ0 ⟨fun b => if γ0.col b ∈ L then 2 else γ0.col b, γ0.box⟩ := by
      refine ⟨fun b hb => by simp [hb, h0L], fun b hb => by simp [hb, h1L], fun b hb => ?_, fun b hb => ?_⟩
      · by_cases hm : γ0.col b ∈ L
        · simp [hm] at hb
        · simpa [hm] using hb
      · have hm : γ0.col b ∉ L := fun hm => by
          have := List.all_eq_true.1 hLs _ hm
          rw [hb] at this; cases this
        simp [hm]
    have htx : Tr [] [] ⟨fun b => if γ0.col b ∈ L then 2 else γ0.col b, γ0.box⟩ w ⟨fun b => if b < w.heap.size then (if γ0.col b ∈ L then 2 else γ0.col b) else if b < w.heap.size + 2 then 2 else 1, γ0.box⟩ W1 :=
      trn _ _ (fun b hb => by simp [hb]) rfl (fun b h1 h2 => by simp [Nat.not_lt.2 h1, h2])
    refine ⟨⟨_, cx.X.tr (cx.X.ren hB.ext ha) htx (fun c hc => by cases hc) (fun c hc => by cases hc), (hB.defers.ren ha).tr htx (fun c hc => by cases hc), by rw [hγ1], fun b hz => ?_, fun b hz => ?_, fun b hz => ?_⟩, fun b hb => ?_, ?_, ?_, hD1, fun p hp => ?_, fun c hc => ?_, hl1⟩
    · rw [hown0] at hz
      rcases hz with ⟨h1, h2⟩ | rfl | rfl
      · simp [h1, h2, hγ1]
      · have q1 : ¬ w.heap.size + 1 < w.heap.size := by omega
        have q2 : w.heap.size + 1 < w.heap.size + 2 := by omega
        simp only [hγ1, if_neg q1, if_pos q2, and_self]
      · have q1 : ¬ w.heap.size < w.heap.size := by omega
        have q2 : w.heap.size < w.heap.size + 2 := by omega
        simp only [hγ1, if_neg q1, if_pos q2, and_self]
    · rw [hown0] at hz
      by_cases hb : b < w.heap.size
      · have hm : γ0.col b ∉ L := fun hm => hz (.inl ⟨hb, hm⟩)
        simp [hγ1, hb, hm]
      · have hb2 : ¬ b < w.heap.size + 2 := fun h => hz (by
          have : b = w.heap.size + 1 ∨ b = w.heap.size := by omega
          exact .inr this)
        simp [hγ1, hb, hb2]
    · rw [hown0] at hz
      rw [hsz]
      rcases hz with ⟨h1, h2⟩ | rfl | rfl <;> omega
    · rw [hF] at hb
      refine ⟨?_, by rw [hsz]; exact Nat.lt_of_lt_of_le hb.1 (by omega)⟩
      simp [hγ1, hb.1, hb.2, h0L]
    · rw [hown0]; intro h; have := h.1; omega
    · rw [hown0]; intro h; have := h.1; omega
    · obtain ⟨f1, f2⟩ := AV.free_spec (hfs p hp)
      exact p.2.keep tr1 (fun c _ h => by cases h) (fun c _ h => by cases h) (AV.regh p.2 (h1same _ f1) (fun ℓ _ => by rw [hγ1]) (hS p (hslm p hp)))
    · have hc' : c ∈ keepBx (1 :: L) [] (Bs s0) := by rw [hB0]; exact hc
      obtain ⟨k1, k2⟩ := keepBx_free hc'
      obtain ⟨k3, _⟩ := cols_of k2
      obtain ⟨g1, cs, g2, g3, g4⟩ := hX c (hbxm c hc)
      have hlt := (Array.getElem?_eq_some_iff.1 g2).1
      have hbox : γ1.box = γ0.box := by rw [hγ1]
      refine ⟨?_, cs, ?_, AV.keepL c.avs tr1 (fun c _ h => by cases h) (fun c _ h => by cases h) (AV.reghL c.avs (h1same _ k3) (fun ℓ _ => by rw [hbox]) g3), g4⟩
      · rw [hbox]
        have := h1same [c.lab] (fun d hd => by simp at hd; rw [hd]; exact k1) (γ0.box c.lab) hlt (by rw [g1]; exact List.mem_cons_self)
        rw [this]; exact g1
      · rw [hbox, hblk _ hlt]; exact g2
  have hfs1 : ∀ p ∈ slE, p.2.free [1] [] = true := fun p hp => by
    obtain ⟨f1, f2⟩ := AV.free_spec (hfs p hp)
    unfold AV.free
    simp only [Bool.and_eq_true, List.all_eq_true, Bool.not_eq_true']
    refine ⟨fun c hc => ?_, fun c hc => rfl⟩
    cases hm : memN c [1] with
    | false => rfl
    | true => have := memN_iff.1 hm; exact absurd (List.mem_cons.2 (.inl (by simpa using this))) (f1 c hc)
  have hT := CI.takes (P := P) (X := cx.X) (ds := a.defers) (F := F) (l := w.heap.size + 1) (D := w.heap.size) (rec := rec) (old := a.tmps) (slE := slE) (Bs := Bs) (Br := Br) (cd := cd) (asg := asg) (body := body) (prm := prm) (N := cx.n.n) (ks := ks) (kb := kb) (ps := ps) (Eb := Eb)
    fn hrec hB.size (by omega) hfs1 hBs hBr (fun p hp => memN_iff.1 (hks p hp)) (fun q hq => by
      have := hpk q hq
      simp only [Bool.and_eq_true] at this
      exact ⟨not_memN this.1, Nat.lt_of_succ_le (Nat.le_of_ble_eq_true this.2)⟩) hprm hasg hfree hbody
  refine ⟨w.heap.size + 1, [{ target := .collected w.heap.size, args := #[] }], W1, { target := .fn (.func gf) vs.toArray, args := #[.func (.yield (w.heap.size + 1)) #[] #[]] }, W1, gf,
    (.func (.yield (w.heap.size + 1)) #[] #[] :: vs).toArray, W1, ?_, ?_, fun _ _ => trivial, ?_, nofun, ?_⟩
  · rw [← hW1, hrec]; exact run_enterLoop_outer _ _ _ _ _
  · simp only [resolve, hv]
    simp [go_sem]
  · simp [invoke, go_sem, heg]
  · refine callsIn_RF.2 (Calls.mono (ok (σ ⊕ ρ) (rnd kb) (.inl s0) o hit (w.heap.size + 1) γi W1 F own0 vs _ hci hGi (CI.abid hfs1 hBs hBr) hT ⟨γ1, hI0⟩) ?_)
    rintro e W2 ⟨⟨v, rfl⟩, own', γ4, h4⟩
    have hend := run_endLoop (P := P) h4.lp (by cases o <;> simp [lpOf, hrec])
    obtain ⟨w4, hw4⟩ : ∃ w4, W2.putObj (w.heap.size + 1) (.loop { lpOf rec cd o with state := .exhausted }) = w4 := ⟨_, rfl⟩
    rw [hw4] at hend
    refine ⟨_, _, hend, ?_⟩
    have hZl : Zof own' (w.heap.size + 1) w.heap.size (w.heap.size + 1) := .inr (.inl rfl)
    have hsx : Sx cx ⟨slE, bxOf Bs Br o⟩ { a with defers := [{ target := .collected w.heap.size, args := #[] }] ++ a.defers } w4 := by
      have hLl : Lets (fun b => b = w.heap.size + 1) W2 w4 := by rw [← hw4]; exact Lets.put (Z := fun b => b = w.heap.size + 1) rfl _
      have hT4 := tr_others hLl fun b e => by rw [e]; exact h4.two.one _ hZl
      have hout := (show Two cx.X a.defers (Zof own' (w.heap.size + 1) w.heap.size) (ghAfter γ4 W2.heap.size) w4 by rw [← hw4]; exact h4.two.put hZl _).out
      refine ⟨ghAfter γ4 W2.heap.size, ⟨?_, (fun e => by rw [hmk] at e; cases e), hB.size, hB.kept, hout.1⟩, fun p hp => ?_, ?_⟩
      · obtain ⟨Ds, hd, hnd, hDs⟩ := hout.2
        obtain ⟨Ds0, hd0, _, hDs0⟩ := hB.defers
        refine ⟨w.heap.size :: Ds, by simp only [List.map_cons, ← hd]; rfl, List.nodup_cons.2 ⟨fun hm => ?_, hnd⟩, fun D hD => ?_⟩
        · have : ({ target := .collected w.heap.size, args := #[] } : Deferred) ∈ a.defers := by rw [hd]; exact List.mem_map.2 ⟨_, hm, rfl⟩
          rw [hd0] at this
          obtain ⟨D', hD', e⟩ := List.mem_map.1 this
          have e' : D' = w.heap.size := by injection e with e1; injection e1
          have := (Array.getElem?_eq_some_iff.1 (hDs0 D' hD').2.1).1
          omega
        · rcases List.mem_cons.1 hD with rfl | hD
          · have hDl := (Array.getElem?_eq_some_iff.1 h4.blk).1
            refine ⟨cx.X.le hB.ext, (hLl.block _ hDl (by omega)).trans h4.blk, ?_⟩
            simp [ghAfter, hDl]; exact h4.two.one _ (.inr (.inr rfl))
          · exact hDs D hD
      · obtain ⟨f1, f2⟩ := AV.free_spec (hfs1 p hp)
        exact p.2.keep hT4 f1 f2 (h4.sl p hp)
      · have := h4.bx.tr hT4
        cases o with
        | inl s => rw [show bxOf Bs Br (Sum.inl s) = Bs s from rfl, hBs] at this; exact this
        | inr r => rw [show bxOf Bs Br (Sum.inr r) = Br r from rfl, hBr] at this; exact this
    cases o with
    | inl s =>
      have hpn : (lpOf rec cd (Sum.inl s : σ ⊕ ρ)).pending = none := by simp [lpOf, hrec]
      rw [hpn]; exact hk _ _ hsx
    | inr r =>
      have hpn : (lpOf rec cd (Sum.inr r : σ ⊕ ρ)).pending = some (cd r) := by simp [lpOf, hrec]
      rw [hpn]; exact hk _ _ hsx none (fun _ => rfl)
theorem fn_introM {P : Program} {f : FuncId} {fn : Func} {c : Code} {ins outs : List AV} {E : Env} (N : Nat) (hf : P.funcs[f]? = some fn) (hb : fn.body = some c) (hN : fn.ntmps = N) (hlen : Nat.ble ins.length N = true) (hres : ResOk P E fn.results.toList outs)
    (hE1 : keepSl [1] [] E.sl = E.sl) (hE2 : keepBx [1] [] E.bx = E.bx)
    (hj : ∀ X : Ext, J true P c (Sx ⟨⟨N, []⟩, X, true, #[]⟩ ⟨enumSl 0 ins, []⟩) fun e a w => e = .ret ∧ Sx ⟨⟨N, []⟩, X, true, #[]⟩ E a w) : FnOk P f ins outs := by
  subst hN
  intro w F vs hr
  have hl := relL_length hr
  have hlen := Nat.le_of_ble_eq_true hlen
  refine (callsIn_RF (ro := none) (n := 0)).1 (callsIn_of_wp_marks (F := RF none) hf hb trivial (wpIn_mono (hj (fnX w F) { tmps := vs.toArray ++ Array.replicate (fn.ntmps - vs.toArray.size) undef, defers := [] } w ⟨gh0 F, ⟨⟨[], rfl, List.nodup_nil, fun D hD => by cases hD⟩, (fun _ => rfl), ?_, (fun k hk => by cases hk), Below.refl _ _, fun b _ => ?_, fun b h1 h2 => by omega⟩, ?_, fun b hb => by cases hb⟩ none (fun _ => rfl)) ?_))
  · simp [hl]; omega
  · by_cases hF : F b <;> simp [gh0, hF]
  · intro p hp
    have := enumSl_rel hr [] (List.replicate (fn.ntmps - vs.length) undef) p hp
    simp only [List.nil_append] at this
    have e : (vs ++ List.replicate (fn.ntmps - vs.length) undef).toArray = vs.toArray ++ Array.replicate (fn.ntmps - vs.toArray.size) undef := by simp
    rw [e] at this
    exact this
  · rintro e a w1 ⟨rfl, γ, hB, hS, hX⟩
    obtain ⟨Ds, hd, hnd, hDs⟩ := hB.defers
    obtain ⟨hx1, hx2, hx3⟩ := hB.ext
    show LeavesInM (RF none) 0 P fn a.tmps _ a.defers .returning w1
    rw [hd]
    have key : ∀ (Ds : List Nat) (w2 : World), Ds.Nodup → (∀ D ∈ Ds, w.heap.size ≤ D ∧ w2.heap[D]? = some (.deferred (some [])) ∧ γ.col D = 1) → Lets (fun b => γ.col b = 1 ∧ w.heap.size ≤ b) w1 w2 → w2.heap.size = w1.heap.size →
        LeavesInM (RF none) 0 P fn a.tmps (fun e w' => ∃ γ us, e = .returned (retVal us) ∧ Below w.heap.size w w' ∧
          ((∀ b, b < w.heap.size → (γ.col b = 0 ∧ F b) ∨ γ.col b = 1) ∧ ∀ b, w.heap.size ≤ b → b < w'.heap.size → γ.col b ≠ 0) ∧ AV.relL γ w' outs us) (Ds.map fun D => { target := .collected D, args := #[] }) .returning w2 := by
      intro Ds
      induction Ds with
      | nil =>
        intro w2 _ _ hLs hsz
        have hT := tr_others hLs fun b hb => hb.1
        have hS2 := hS.tr hT
        have hX2 := hX.tr hT
        rw [hE1] at hS2
        rw [hE2] at hX2
        obtain ⟨us, hu, hu'⟩ := results_run (P := P) (fn := fn) hS2 hX2 hres
        refine ⟨_, hu, ghAfter γ w1.heap.size, us, rfl, ⟨hLs.os.trans hx1.os, hLs.tape.trans hx1.tape, hLs.output.trans hx1.output, Nat.le_trans hx1.size hLs.size, fun b hb => ?_⟩, ⟨fun b hb => ?_, fun b h1 h2 => ?_⟩, hu'⟩
        · rw [hLs.block b (Nat.lt_of_lt_of_le hb hx1.size) (fun h => by have := h.2; omega)]; exact hx1.block b hb
        · have h1 := Nat.lt_of_lt_of_le hb hx1.size
          simp only [ghAfter, if_pos h1]; exact hx2 b hb
        · rw [hsz] at h2
          simp only [ghAfter, if_pos h2]; exact hx3 b h1 h2
      | cons D Ds ih =>
        intro w2 hnd hDs hLs hsz
        obtain ⟨n1, n2⟩ := List.nodup_cons.1 hnd
        obtain ⟨g0, g1, g2⟩ := hDs D List.mem_cons_self
        refine ⟨nofun, .inl ⟨D, w2.putObj D (.deferred none), rfl, run_takeDeferred g1, ih _ n2 (fun D' hD' => ?_) ⟨hLs.os, hLs.tape, hLs.output, by simpa using hLs.size, fun b hb hn => ?_⟩ (by simpa using hsz)⟩⟩
        · obtain ⟨k0, k1, k2⟩ := hDs D' (List.mem_cons_of_mem _ hD')
          exact ⟨k0, (World.putObj_heap_other fun e => n1 (by rw [← e]; exact hD')).trans k1, k2⟩
        · rw [World.putObj_heap_other (fun e => hn (by rw [e]; exact ⟨g2, g0⟩))]; exact hLs.block b hb hn
    exact key Ds w1 hnd hDs ⟨rfl, rfl, rfl, Nat.le_refl _, fun _ _ _ => rfl⟩ rfl
section
variable {m : Bool} {P : Program} {l : List It} {cx : Cx} {E E1 : Env} {Q : Exit → Act → World → Prop} {id : Nat} {c : Code}
theorem je_itn (h : EnvLe E E1) : JI m P [] (Sx cx E) fun e a w => (e = .normal ∨ e = .ret) ∧ Sx cx E1 a w := ji_nil fun _ _ hs => ⟨.inl rfl, h.go hs⟩
theorem je_itr (h : EnvLe E E1) : JI m P (.c .ret :: l) (Sx cx E) fun e a w => (e = .normal ∨ e = .ret) ∧ Sx cx E1 a w := ji_ret fun _ _ hs => ⟨.inr rfl, h.go hs⟩
theorem ke_itr (h : EnvLe E E1) : ∀ e a w, (e = .ret ∧ Sx cx E a w) → behind m P (fun e a w => (e = .normal ∨ e = .ret) ∧ Sx cx E1 a w) l e a w := k_ret fun _ _ hs => ⟨.inr rfl, h.go hs⟩
theorem je_retR (h : EnvLe E E1) : JI m P (.c .ret :: l) (Sx cx E) fun e a w => Jump e .ret ∧ Sx cx E1 a w := ji_ret fun _ _ hs => ⟨trivial, h.go hs⟩
theorem je_loopC {σ ρ : Type} (body : σ → Option (σ ⊕ ρ)) (Cs : σ → Cx) (Es : σ → Env) (R : ρ → Exit → Act → World → Prop)
    (hb : ∀ s o, body s = some o → J m P c (Sx (Cs s) (Es s)) (match o with
      | .inl s' => fun e a w => e = .normal ∧ Sx (Cs s') (Es s') a w
      | .inr r => fun e a w => e ≠ .normal ∧ R r e a w))
    {s : σ} {r : ρ} (h : whileO body s = some r) (hC : cx = Cs s) (hS : EnvLe E (Es s)) (k : ∀ e a w, R r e a w → behind m P Q l e a w) : JI m P (.c (.loop c) :: l) (Sx cx E) Q :=
  ji_loop body (fun s => Sx (Cs s) (Es s)) R hb h (fun _ _ hs => by subst hC; exact hS.go hs) k
end
end Go.Proofs.Ythkdneddbbocmaa
namespace Go.Proofs.Ythkdneddbbocmaa
open Go Go.RowKit
set_option linter.unusedVariables false
set_option linter.unusedSectionVars false
def Turned (γ : Gh) (w : World) (γ' : Gh) (w' : World) (p : AV × AV) : Prop := ∀ v, p.1.rel γ w v → p.2.rel γ' w' v
def Turns (W V : List Nat) (T : List (AV × AV)) (a a' : AV) : Prop := ∀ γ w γ' w', Tr W V γ w γ' w' → (∀ p ∈ T, Turned γ w γ' w' p) → ∀ v, a.rel γ w v → a'.rel γ' w' v
def TurnsL (W V : List Nat) (T : List (AV × AV)) : List AV → List AV → Prop
  | [], [] => True
  | a :: l, b :: m => Turns W V T a b ∧ TurnsL W V T l m
  | _, _ => False
section
variable {W V : List Nat} {T : List (AV × AV)} {a a' : AV} {l l' : List AV}
theorem TurnsL.rel {γ γ' : Gh} {w w' : World} (t : Tr W V γ w γ' w') (hT : ∀ p ∈ T, Turned γ w γ' w' p) : ∀ {l l' : List AV} {vs : List Value}, TurnsL W V T l l' → AV.relL γ w l vs → AV.relL γ' w' l' vs
  | [], [], _, _, h => h
  | a :: l, b :: m, _, h, hr => by
    obtain ⟨v, vs', rfl, h1, h2⟩ := hr
    exact ⟨v, vs', rfl, h.1 _ _ _ _ t hT v h1, TurnsL.rel t hT h.2 h2⟩
  | [], _ :: _, _, h, _ => h.elim
  | _ :: _, [], _, h, _ => h.elim
end
def SlT (W V : List Nat) (T : List (AV × AV)) (l : List (Nat × AV)) : List (Nat × AV) → Prop
  | [] => True
  | p :: r => (∃ a, lookup l p.1 = some a ∧ Turns W V T a p.2) ∧ SlT W V T l r
def BxT (W V : List Nat) (T : List (AV × AV)) (l : List Bx) : List Bx → Prop
  | [] => True
  | b :: r => (∃ c, findBx l b.lab = some c ∧ c.typ = b.typ ∧ (!memN b.lab W && !memN b.lab V) = true ∧ TurnsL W V T c.avs b.avs) ∧ BxT W V T l r
section
variable {W V : List Nat} {T : List (AV × AV)} {γ γ' : Gh} {w w' : World}
theorem SlT.rel (t : Tr W V γ w γ' w') (hT : ∀ p ∈ T, Turned γ w γ' w' p) {l : List (Nat × AV)} {a : Act} (hs : Sl γ w a l) : ∀ {r : List (Nat × AV)}, SlT W V T l r → Sl γ' w' a r
  | [], _, p, hp => by cases hp
  | q :: r, h, p, hp => by
    obtain ⟨⟨x, hx, ht⟩, h2⟩ := h
    cases hp with
    | head => exact ht _ _ _ _ t hT _ (hs _ (lookup_mem hx))
    | tail _ hp => exact SlT.rel t hT hs h2 p hp
theorem BxT.rel (t : Tr W V γ w γ' w') (hT : ∀ p ∈ T, Turned γ w γ' w' p) {l : List Bx} (hs : Bxs γ w l) : ∀ {r : List Bx}, BxT W V T l r → Bxs γ' w' r
  | [], _, p, hp => by cases hp
  | q :: r, h, p, hp => by
    obtain ⟨⟨c, hc, hty, hWV, ht⟩, h2⟩ := h
    cases hp with
    | head =>
      obtain ⟨hm, hlab⟩ := findBx_spec hc
      obtain ⟨g1, cs, hh, hL, h1⟩ := hs c hm
      simp only [Bool.and_eq_true] at hWV
      have hlt := (Array.getElem?_eq_some_iff.1 hh).1
      refine ⟨?_, cs, ?_, ht.rel t hT hL, h1⟩
      · rw [t.box _ (not_memN hWV.2), ← hlab, t.col _ hlt]; exact g1
      · rw [t.box _ (not_memN hWV.2), ← hlab, ← hty, t.block _ hlt (by rw [g1, hlab]; exact not_memN hWV.1)]; exact hh
    | tail _ hp => exact BxT.rel t hT hs h2 p hp
end
def StepT (P : Program) (o : Oper) (ins : List (Operand × AV)) (W V : List Nat) (av : AV) (T : List (AV × AV)) : Prop :=
  ∀ (γ : Gh) (a : Act) (w : World), (∀ p ∈ ins, p.2.rel γ w (a.eval p.1)) → ∀ (next : Act → World → Prop) (Q : Exit → Act → World → Prop),
    (∀ γ' w' v, Tr W V γ w γ' w' → av.rel γ' w' v → (∀ p ∈ T, Turned γ w γ' w' p) → next (a.put o.dst v) w') → opq P o a w next Q
def fnXW (w0 : World) (γ0 : Gh) : Ext where
  X γ w := (w.os = w0.os ∧ w.tape = w0.tape ∧ w.output = w0.output ∧ w0.heap.size ≤ w.heap.size) ∧ (∀ b, b < w0.heap.size → γ0.col b < 2 → γ.col b = γ0.col b ∧ w.heap[b]? = w0.heap[b]?) ∧
    (∀ b, b < w0.heap.size → 2 ≤ γ0.col b → γ.col b ≠ 0) ∧ ∀ b, w0.heap.size ≤ b → b < w.heap.size → γ.col b ≠ 0
  tr := fun {γ γ' w w' W V} ⟨⟨h1, h2, h3, h4⟩, h5, h6, h7⟩ t hW hV => by
    have hlt : ∀ b, b < w0.heap.size → b < w.heap.size := fun b hb => Nat.lt_of_lt_of_le hb h4
    refine ⟨⟨t.os.trans h1, t.tape.trans h2, t.output.trans h3, Nat.le_trans h4 t.size⟩, fun b hb h0 => ?_, fun b hb h0 => ?_, fun b k1 k2 h0 => ?_⟩
    · obtain ⟨e1, e2⟩ := h5 b hb h0
      refine ⟨(t.col b (hlt b hb)).trans e1, (t.block b (hlt b hb) fun hc => ?_).trans e2⟩
      have := hW _ hc
      omega
    · rw [t.col b (hlt b hb)]; exact h6 b hb h0
    · by_cases hb : b < w.heap.size
      · exact h7 b k1 hb (by rw [← t.col b hb]; exact h0)
      · rcases t.fresh b (Nat.le_of_not_lt hb) k2 h0 with e | e
        · have := hW _ e; omega
        · have := hV _ e; omega
  ren := fun {γ γ' w} ⟨h1, h2, h3, h4⟩ k => ⟨h1, fun b hb h0 => by
    obtain ⟨e1, e2⟩ := h2 b hb h0
    refine ⟨?_, e2⟩
    rcases Nat.lt_or_ge (γ0.col b) 1 with h | h
    · have h' : γ0.col b = 0 := by omega
      rw [h']; exact k.zero b (by rw [e1, h'])
    · have h' : γ0.col b = 1 := by omega
      rw [h']; exact k.one b (by rw [e1, h']), fun b hb h0 h => h3 b hb h0 (k.back b h), fun b k1 k2 h => h4 b k1 k2 (k.back b h)⟩
  base := w0.heap.size
  le := fun h => h.1.2.2.2
def FnOkW (P : Program) (f : FuncId) (ins outs ts : List AV) : Prop :=
  ∀ (w : World) (γ0 : Gh) (vs : List Value), AV.relL γ0 w ins vs → Calls P f vs.toArray w fun e w' => ∃ γ us, e = .returned (retVal us) ∧ (fnXW w γ0).X γ w' ∧ AV.relL γ w' outs us ∧ AV.relL γ w' ts vs
def anyB : AV → Bool
  | .any => true
  | _ => false
def TsOk (E : Env) (ks : List Nat) : Nat → List AV → Prop
  | _, [] => True
  | n, a :: l => (anyB a = true ∨ memN n ks = true ∧ lookup E.sl n = some a) ∧ TsOk E ks (n + 1) l
theorem TsOk.rel {E : Env} {ks : List Nat} {γ : Gh} {w : World} {a : Act} (hs : Sl γ w a E.sl) {old : Array Value} (hk : ∀ k ∈ ks, a.tmps.getD k undef = old.getD k undef) : ∀ (l : List AV) (vs : List Value) (n : Nat), TsOk E ks n l → l.length = vs.length →
    (∀ i v, vs[i]? = some v → old.getD (n + i) undef = v) → AV.relL γ w l vs
  | [], [], _, _, _, _ => rfl
  | x :: l, v :: vs, n, h, hl, ho => by
    refine ⟨v, vs, rfl, ?_, TsOk.rel hs hk l vs (n + 1) h.2 (by simpa using hl) fun i u hu => by rw [show n + 1 + i = n + (i + 1) by omega]; exact ho (i + 1) u (by simpa using hu)⟩
    rcases h.1 with h1 | ⟨h1, h2⟩
    · cases x <;> first | trivial | cases h1
    · have := hs _ (lookup_mem h2)
      have e := (hk n (memN_iff.1 h1)).trans (ho 0 v rfl)
      simp only at this
      rwa [e] at this
  | [], _ :: _, _, _, h, _ => by simp at h
  | _ :: _, [], _, _, h, _ => by simp at h
def blk : Value → Option Nat
  | .map b => b
  | v => v.ownBlock
section
end
section
end
theorem StepT.le {P : Program} {o : Oper} {ins ins' : List (Operand × AV)} {W V : List Nat} {av : AV} {T : List (AV × AV)} (h : StepT P o ins W V av T) (hl : leI ins' ins) : StepT P o ins' W V av T :=
  fun γ a w hi => h γ a w (leI_rel _ _ hl hi)
theorem FnOkW.le {P : Program} {f : FuncId} {ins ins' outs ts : List AV} (h : FnOkW P f ins outs ts) (hl : leL ins' ins) : FnOkW P f ins' outs ts := fun w γ vs hr => h w γ vs (leL_rel hl hr)
section
end
end Go.Proofs.Ythkdneddbbocmaa
namespace Go.Proofs.Ythkdneddbbocmaa
open Go
theorem wrap_u8 (x : Int) : IntKind.u8.wrap x = x % 256 := by simp [IntKind.wrap, IntKind.bits, IntKind.signed]
theorem wrap_u32 (x : Int) : IntKind.u32.wrap x = x % 4294967296 := by simp [IntKind.wrap, IntKind.bits, IntKind.signed]
theorem wrap_u64 (x : Int) : IntKind.u64.wrap x = x % 18446744073709551616 := by simp [IntKind.wrap, IntKind.bits, IntKind.signed]
theorem wrap_i64 {x : Int} (h : -9223372036854775808 ≤ x ∧ x ≤ 9223372036854775807) : IntKind.i64.wrap x = x := by
  simp [IntKind.wrap, IntKind.bits, IntKind.signed]
  split <;> omega
theorem wrap_i32' (x : Int) : IntKind.i32.wrap x = if x % 4294967296 < 2147483648 then x % 4294967296 else x % 4294967296 - 4294967296 := by
  simp [IntKind.wrap, IntKind.bits, IntKind.signed]
  split <;> split <;> omega
theorem wrap_nat {k : IntKind} (hk : k.signed = false) {n : Nat} (h : n < 2 ^ k.bits) : k.wrap (n : Int) = n := by
  have h2 : (n : Int) % (2 ^ k.bits : Int) = n := Int.emod_eq_of_lt (by omega) (by exact_mod_cast h)
  simp only [IntKind.wrap, hk, Bool.false_and, h2]
  simp
theorem ofInt_nat {b n : Nat} (h : n < 2 ^ b) : (BitVec.ofInt b (n : Int)).toNat = n := by
  rw [BitVec.toNat_ofInt]
  have h2 : (n : Int) % ((2 ^ b : Nat) : Int) = n := Int.emod_eq_of_lt (by omega) (by exact_mod_cast h)
  rw [h2]; rfl
theorem andI_nat {k : IntKind} (hk : k.signed = false) {a b : Nat} (ha : a < 2 ^ k.bits) (hb : b < 2 ^ k.bits) : andI k a b = ((a &&& b : Nat) : Int) := by
  unfold andI
  rw [BitVec.toNat_and, ofInt_nat ha, ofInt_nat hb]
  exact wrap_nat hk (Nat.lt_of_le_of_lt Nat.and_le_left ha)
theorem orI_nat {k : IntKind} (hk : k.signed = false) {a b : Nat} (ha : a < 2 ^ k.bits) (hb : b < 2 ^ k.bits) : orI k a b = ((a ||| b : Nat) : Int) := by
  unfold orI
  rw [BitVec.toNat_or, ofInt_nat ha, ofInt_nat hb]
  exact wrap_nat hk (Nat.or_lt_two_pow ha hb)
theorem shrI_nat {k : IntKind} {a b : Nat} (hb : b ≤ k.bits) : shrI k a b = ((a / 2 ^ b : Nat) : Int) := by
  unfold shrI
  have h2 : (2 : Int) ^ b = ((2 ^ b : Nat) : Int) := by simp
  rw [Int.toNat_natCast, Nat.min_eq_left hb, h2, Int.fdiv_eq_ediv_of_nonneg _ (Int.natCast_nonneg (2 ^ b)), Int.natCast_ediv]
theorem or_high' (a c k : Nat) (h : a < 2 ^ k) : a ||| (c * 2 ^ k) = a + c * 2 ^ k := by
  rw [Nat.or_comm, Nat.mul_comm, ← Nat.two_pow_add_eq_or_of_lt h, Nat.add_comm]
theorem beq_nat (n m : Nat) : ((n : Int) == (m : Int)) = decide (n = m) := by
  by_cases h : n = m
  · simp [h]
  · have : ¬ ((n : Int) = m) := by omega
    simp [h, this]
theorem idx_of {α : Type} {xs : List α} {i : Int} {n : Nat} (h : i = n) (hn : n < xs.length) : idx xs i = some xs[n] := by
  unfold idx
  subst h
  rw [if_pos (by omega), Int.toNat_natCast, List.getElem?_eq_getElem hn]
theorem cut_of {α : Type} {xs : List α} {i j : Int} {a b : Nat} (hi : i = a) (hj : j = b) (h : a ≤ b) (hb : b ≤ xs.length) : cut xs i j = some ((xs.drop a).take (b - a)) := by
  unfold cut
  subst hi hj
  rw [if_pos (by omega), Int.toNat_natCast, Int.toNat_natCast]
theorem cut_drop {α : Type} {xs : List α} {i j : Int} {a : Nat} (hi : i = a) (hj : j = (xs.length : Int)) (h : a ≤ xs.length) : cut xs i j = some (xs.drop a) := by
  rw [cut_of hi hj h (Nat.le_refl _), List.take_of_length_le (by simp)]
theorem cut_take {α : Type} {xs : List α} {j : Int} {b : Nat} (hj : j = b) (hb : b ≤ xs.length) : cut xs 0 j = some (xs.take b) := by
  have := cut_of (xs := xs) (i := 0) (a := 0) rfl hj (Nat.zero_le _) hb
  simpa using this
theorem app_of {α : Type} {bytes : Nat} {xs ys : List α} (h : (xs.length + ys.length) * bytes ≤ 140737488355328) : app bytes xs ys = some (xs ++ ys) := by
  unfold app LIM
  rw [if_pos h]
theorem mkO_of {α : Type} {bytes : Nat} {x0 : α} {n m : Int} {a : Nat} (hn : n = a) (h : n ≤ m) (hm : m * bytes ≤ 140737488355328) : mkO bytes x0 n m = some (List.replicate a x0) := by
  unfold mkO LIM
  subst hn
  rw [if_pos ⟨by omega, h, hm⟩, Int.toNat_natCast]
theorem mkO_nil {α : Type} {bytes : Nat} {x0 : α} {m : Int} (h : 0 ≤ m) (hm : m * bytes ≤ 140737488355328) : mkO bytes x0 0 m = some [] := by
  have := mkO_of (x0 := x0) (n := 0) (a := 0) rfl h hm
  simpa using this
theorem byteO_of {x : Int} {c : UInt8} (h : x = (c.toNat : Int)) : byteO x = some c := by
  unfold byteO
  subst h
  have := c.toNat_lt
  rw [if_pos (by omega), Int.toNat_natCast, UInt8.ofNat_toNat]
theorem byteO_nat {x : Int} {n : Nat} (h : x = n) (hn : n < 256) : byteO x = some (UInt8.ofNat n) := by
  refine byteO_of ?_
  rw [h, UInt8.toNat_ofNat']
  congr 1
  omega
theorem shlO_nat {k : IntKind} {x : Int} {n : Nat} : shlO k x n = some (shlI k x n) := by unfold shlO; rw [if_neg (by omega)]
theorem shrO_nat {k : IntKind} {x : Int} {n : Nat} : shrO k x n = some (shrI k x n) := by unfold shrO; rw [if_neg (by omega)]
theorem sb {α β : Type} {a : α} {f : α → Option β} : ((some a : Option α) >>= f) = f a := rfl
theorem itT {α : Type} {c : Bool} {x y : α} (h : c = true) : (if c then x else y) = x := by rw [h]; rfl
theorem itF {α : Type} {c : Bool} {x y : α} (h : c = false) : (if c then x else y) = y := by rw [h]; rfl
end Go.Proofs.Ythkdneddbbocmaa
namespace Go.Proofs.Ythkdneddbbocmaa
open Go.RowKit (wrap32 wrap64)
def sgnS (x : Int) : Int := if x % 4294967296 < 2147483648 then x % 4294967296 else x % 4294967296 - 4294967296
def wideS (x : Int) : Int := if 0 ≤ x then x else x + 18446744073709551616
def lenN (n : Nat) : Nat := if n < 128 then 1 else lenN (n / 128) + 1
termination_by n
decreasing_by omega
def little : Nat → Nat → List UInt8
  | 0, _ => []
  | k + 1, w => UInt8.ofNat (w % 256) :: little k (w / 256)
def word : List UInt8 → Nat
  | [] => 0
  | c :: r => c.toNat + 256 * word r
theorem sgn_bd (x : Int) : -2147483648 ≤ sgnS x ∧ sgnS x ≤ 2147483647 := by unfold sgnS; split <;> omega
theorem wide_bd {x : Int} (h : -9223372036854775808 ≤ x ∧ x ≤ 9223372036854775807) : 0 ≤ wideS x ∧ wideS x ≤ 18446744073709551615 := by unfold wideS; split <;> omega
theorem sgn_wide {x : Int} (h : -2147483648 ≤ x ∧ x ≤ 2147483647) : sgnS (wideS x) = x := by unfold sgnS wideS; split <;> split <;> omega
theorem lenN_pos (n : Nat) : 1 ≤ lenN n := by unfold lenN; split <;> omega
theorem lenN_lt {n : Nat} (h : n < 128) : lenN n = 1 := by rw [lenN, if_pos h]
theorem lenN_ge {n : Nat} (h : ¬ n < 128) : lenN n = lenN (n / 128) + 1 := by rw [lenN, if_neg h]
theorem lenN_le : ∀ (k n : Nat), n < 128 ^ k → 0 < k → lenN n ≤ k := by
  intro k
  induction k with
  | zero => intro n _ h; omega
  | succ k ih =>
    intro n hn _
    by_cases h : n < 128
    · rw [lenN_lt h]; omega
    · rw [lenN_ge h]
      have h1 : n / 128 < 128 ^ k := by rw [Nat.pow_succ] at hn; exact Nat.div_lt_of_lt_mul (by omega)
      have h2 : 0 < k := by
        rcases Nat.eq_zero_or_pos k with rfl | h
        · simp at h1; omega
        · exact h
      have := ih _ h1 h2
      omega
theorem lenN_u64 {n : Nat} (h : n < 18446744073709551616) : lenN n ≤ 10 := lenN_le 10 n (by omega) (by omega)
def lz (m : Nat) : Nat := if m = 0 then 0 else lenN m
theorem lz_pos {m : Nat} (h : m ≠ 0) : lz m = lz (m / 128) + 1 := by
  unfold lz
  rw [if_neg h]
  split
  · rw [lenN_lt (by omega)]
  · rw [lenN_ge (by omega)]
theorem lz_div (n : Nat) : lenN n = 1 + lz (n / 128) := by
  unfold lz
  split
  · rw [lenN_lt (by omega)]
  · rw [lenN_ge (by omega), Nat.add_comm]
theorem little_length : ∀ (k n : Nat), (little k n).length = k
  | 0, _ => rfl
  | k + 1, n => by simp [little, little_length k]
theorem word_little : ∀ (k n : Nat), word (little k n) = n % 256 ^ k
  | 0, n => by simp [little, word, Nat.mod_one]
  | k + 1, n => by
    rw [little, word, word_little k]
    have : (UInt8.ofNat (n % 256)).toNat = n % 256 := by simp
    rw [this, Nat.pow_succ, Nat.mul_comm (256 ^ k), Nat.mod_mul]
theorem little_succ : ∀ (k n : Nat), little (k + 1) n = little k n ++ [UInt8.ofNat (n / 256 ^ k % 256)]
  | 0, n => by simp [little]
  | k + 1, n => by
    rw [little, little_succ k, little]
    simp only [List.cons_append, List.cons.injEq, List.append_cancel_left_eq, and_true, true_and]
    rw [Nat.div_div_eq_div_mul, Nat.pow_succ, Nat.mul_comm (256 ^ k)]
def littleZ (n m j : Nat) : List UInt8 := little j m ++ List.replicate (n - j) 0
theorem littleZ_zero (n m : Nat) : littleZ n m 0 = List.replicate n 0 := by simp [littleZ, little]
theorem littleZ_all (n m : Nat) : littleZ n m n = little n m := by simp [littleZ]
theorem littleZ_length {n m j : Nat} (h : j ≤ n) : (littleZ n m j).length = n := by simp [littleZ, little_length]; omega
theorem littleZ_set {n m j : Nat} (h : j < n) : (littleZ n m j).set j (UInt8.ofNat (m / 256 ^ j % 256)) = littleZ n m (j + 1) := by
  unfold littleZ
  rw [little_succ, List.set_append, if_neg (by rw [little_length]; omega), little_length, Nat.sub_self, show n - j = (n - (j + 1)) + 1 from by omega, List.replicate_succ, List.set_cons_zero, List.append_assoc]
  rfl
theorem pow_256 (j : Nat) : 2 ^ (8 * j) = 256 ^ j := by rw [Nat.pow_mul]
theorem little_val' (m j : Nat) : ((m / 256 ^ j : Nat) : Int) % 256 = ((UInt8.ofNat (m / 256 ^ j % 256)).toNat : Int) := by
  have e : (UInt8.ofNat (m / 256 ^ j % 256)).toNat = m / 256 ^ j % 256 := by simp
  rw [e, Int.natCast_emod]
  rfl
theorem word_lt : ∀ (l : List UInt8), word l < 256 ^ l.length
  | [] => by simp [word]
  | c :: r => by
    have h1 := word_lt r
    have h2 := c.toNat_lt
    simp only [word, List.length_cons, Nat.pow_succ]
    omega
theorem word_snoc : ∀ (l : List UInt8) (c : UInt8), word (l ++ [c]) = word l + c.toNat * 256 ^ l.length
  | [], c => by simp [word]
  | d :: r, c => by
    simp only [List.cons_append, word, List.length_cons, word_snoc r c, Nat.pow_succ]
    rw [Nat.mul_add, ← Nat.mul_assoc, Nat.mul_comm 256 c.toNat, Nat.mul_assoc c.toNat, Nat.mul_comm (256 ^ r.length)]
    omega
theorem or_high (a c k : Nat) (h : a < 2 ^ k) : a ||| (c * 2 ^ k) = a + c * 2 ^ k := by
  have := Nat.shiftLeft_add_eq_or_of_lt h c
  rw [Nat.shiftLeft_eq] at this
  rw [Nat.or_comm, ← this, Nat.add_comm]
theorem pow_256_le {j : Nat} (h : j ≤ 7) : 256 ^ j ≤ 72057594037927936 := by
  have := Nat.pow_le_pow_right (n := 256) (by omega) h
  simpa using this
theorem word_or (a d j : Nat) (hj : j < 8) (hd : d < 256) (ha : a < 256 ^ j) :
    bits .or .u64 (a : Int) (IntKind.u64.wrap ((d : Int) * 2 ^ (8 * j))) = ((a + d * 256 ^ j : Nat) : Int) := by
  have hp := pow_256_le (show j ≤ 7 by omega)
  have hm : d * 256 ^ j ≤ 255 * 72057594037927936 := Nat.mul_le_mul (by omega) hp
  have e : ((d : Int) * 2 ^ (8 * j)) = ((d * 256 ^ j : Nat) : Int) := by
    rw [← pow_256, Int.natCast_mul, Int.natCast_pow]; rfl
  rw [e, IntKind.wrap_u64, Int.emod_eq_of_lt (by omega) (by omega), bits_or_u64_nat _ _ (by omega) (by omega), ← pow_256, or_high _ _ _ (by rw [pow_256]; exact ha)]
theorem word_add (a d j : Nat) (hj : j < 8) (hd : d < 256) (ha : a < 256 ^ j) :
    IntKind.u64.wrap ((a : Int) + IntKind.u64.wrap ((d : Int) * ((256 ^ j % 18446744073709551616 : Nat) : Int))) = ((a + d * 256 ^ j : Nat) : Int) := by
  have hp := pow_256_le (show j ≤ 7 by omega)
  have hm : d * 256 ^ j ≤ 255 * 72057594037927936 := Nat.mul_le_mul (by omega) hp
  rw [Nat.mod_eq_of_lt (by omega)]
  have e : ((d : Int) * ((256 ^ j : Nat) : Int)) = ((d * 256 ^ j : Nat) : Int) := by rw [Int.natCast_mul]
  have hs : a + d * 256 ^ j < 18446744073709551616 := by
    have : a + d * 256 ^ j < 256 ^ j + 255 * 256 ^ j := Nat.add_lt_add_of_lt_of_le ha (Nat.mul_le_mul_right _ (by omega))
    omega
  rw [e, IntKind.wrap_u64, IntKind.wrap_u64]
  omega
theorem place_step (j : Nat) : ((256 ^ (j + 1) % 18446744073709551616 : Nat) : Int) = IntKind.u64.wrap (((256 ^ j % 18446744073709551616 : Nat) : Int) * 256) := by
  rw [IntKind.wrap_u64, Nat.pow_succ]
  omega
theorem bd_u64 {x : Int} (h : (Lit.int .u64 x).wf = true) : 0 ≤ x ∧ x ≤ 18446744073709551615 := by simpa [Lit.wf, IntKind.min, IntKind.max, IntKind.bits, IntKind.signed] using h
end Go.Proofs.Ythkdneddbbocmaa
