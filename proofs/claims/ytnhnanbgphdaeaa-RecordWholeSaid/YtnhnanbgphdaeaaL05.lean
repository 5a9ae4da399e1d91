/-
  The laws of layer 5 (record), as plain functions: always true. No condition.
-/
import Derived.Test.YtnhnanbgphdaeaaQ05
import Derived.Test.YtnhnanbgphdaeaaO
namespace Go.Proofs.Ytnhnanbgphdaeaa
open Go
set_option linter.unusedVariables false

theorem ex05 : spl 0 [8, 1, 18, 1, 97] = ([⟨1, 0, 0, 1, 2⟩, ⟨2, 2, 2, 4, 5⟩], none) := by
  have h1 : rec5 [8, 1, 18, 1, 97] = .inr (1, 0, 1, 2) := by decide
  have h2 : rec5 [18, 1, 97] = .inr (2, 2, 2, 3) := by decide
  rw [spl_cons (by simp) h1]
  have e : ([8, 1, 18, 1, 97] : List UInt8).drop 2 = [18, 1, 97] := rfl
  rw [e, spl_cons (by simp) h2]
  have e2 : ([18, 1, 97] : List UInt8).drop 3 = [] := rfl
  rw [e2, spl_nil]
  rfl
theorem alive05_is : darninglaw05_alive = some true := by
  unfold darninglaw05_alive
  rw [split_is (by simp), sb, ex05]
  decide
theorem next5_code (b : List UInt8) (p : Int) : 0 ≤ (next5 b p).2 ∧ (next5 b p).2 ≤ 5 := by
  unfold next5
  split
  · simp
  · rcases rec5_cases (b.drop p.toNat) with ⟨c, h, hc⟩ | ⟨n, w, k, a, t, h, _⟩
    · rw [h]; simp only; omega
    · rw [h]; simp
theorem splR_code (b : List UInt8) : 0 ≤ (splR (spl 0 b)).2.2 ∧ (splR (spl 0 b)).2.2 ≤ 5 ∧ (splR (spl 0 b)).1.length ≤ b.length ∧ 0 ≤ (splR (spl 0 b)).2.1 ∧ (splR (spl 0 b)).2.1 ≤ b.length := by
  have hl := spl_len 0 b
  unfold splR
  cases h : (spl 0 b).2 with
  | none => simp only; omega
  | some p =>
    have := spl_code 0 b p.1 p.2 h
    simp only [List.length_nil]; omega
theorem splits_loop (x : List Rec × Int × Int) (hx : x.1.length ≤ 1048576) : ∀ (d i : Nat), i + d = x.1.length → darninglaw05_RecordSplits_l1 x x i = some (.inl ()) := by
  intro d
  induction d with
  | zero =>
    intro i hi
    refine darninglaw05_RecordSplits_l1_inr ?_
    unfold darninglaw05_RecordSplits_b1
    rw [itF (by simp; omega)]
  | succ d ih =>
    intro i hi
    refine (darninglaw05_RecordSplits_l1_inl (i' := ((i + 1 : Nat) : Int)) ?_).trans (ih _ (by omega))
    unfold darninglaw05_RecordSplits_b1
    rw [itT (by simp; omega), idx_of rfl (by omega), sb, sb, itF (by simp), wrap_i64 (by omega)]
    push_cast; rfl
theorem RecordSplits_true (a0 : (List UInt8)) (a1 : Int) (w0 : a0.length * 1 ≤ 140737488351232 ∧ ∀ a0' ∈ a0, True) (w1 : (Lit.int .i64 a1).wf = true) : darninglaw05_RecordSplits a0 a1 = some true := by
  unfold darninglaw05_RecordSplits
  rw [alive05_is, sb, itF (by rfl)]
  by_cases hlen : a0.length ≤ 3000
  · have c1 := next5_code a0 a1
    have c2 := splR_code a0
    rw [itF (by simp; omega), next_is (by omega), sb, refNext_is (by omega), sb, split_is (by omega), sb, refSplit_is (by omega), sb,
      wrap_i64 (x := (next5 a0 a1).2) (by omega), wrap_i64 (x := (splR (spl 0 a0)).2.2) (by omega), itF (by simp)]
    have h := splits_loop (splR (spl 0 a0)) (by omega) (splR (spl 0 a0)).1.length 0 (by omega)
    have h' : darninglaw05_RecordSplits_l1 (splR (spl 0 a0)) (splR (spl 0 a0)) 0 = _ := h
    rw [h', sb]
  · rw [itT (by simp; omega)]
theorem RecordPuts_true (a0 : (List UInt8)) (a1 : Int) (a2 : Int) (a3 : (List UInt8)) (w0 : a0.length * 1 ≤ 140737488351232 ∧ ∀ a0' ∈ a0, True) (w1 : (Lit.int .i64 a1).wf = true) (w2 : (Lit.int .i64 a2).wf = true) (w3 : a3.length * 1 ≤ 140737488351232 ∧ ∀ a3' ∈ a3, True) : ∃ fuel, darninglaw05_RecordPuts fuel a0 a1 a2 a3 = some true := by
  refine ⟨10, ?_⟩
  unfold darninglaw05_RecordPuts
  rw [alive05_is, sb, itF (by rfl), wrap_i64 (by omega)]
  by_cases hlen : a0.length + a3.length ≤ 3000
  · rw [itF (by simp; omega), rput_is (by omega) (by omega), sb, rlen_is (by omega) (by omega), sb, app_of (by simp; omega), sb, List.nil_append, refRight_is, sb]
    have hfirst : ((if tRight a1 2 = true then (darningref05_Put 10 a1 2 a3 >>= fun rv5 => app 1 a0 rv5 >>= fun v2 => some v2) else some a0 : Option (List UInt8))) = some (if tRight a1 2 = true then a0 ++ put5 a1 2 a3 else a0) := by
      cases h : tRight a1 2
      · rfl
      · have hp := put5_le (n := a1) (w := 2) (v := a3) h (by omega)
        rw [if_pos rfl, if_pos rfl, ref05Put_is h (by omega), sb, app_of (by omega), sb]
    rw [hfirst, sb, same_bytes, sb, itF (by simp), refRight_is, sb]
    cases h : tRight a1 a2
    · rw [itT (by rfl), sb, itT (by rfl)]; rfl
    · rw [itF (by rfl), refFits_is a2 (by omega), sb, sb]
      cases hf : fits5 a2 a3
      · rw [itT (by rfl)]; rfl
      · have hp := put5_le (n := a1) (w := a2) (v := a3) h (by omega)
        simp only [and_self, if_true]
        rw [itF (by rfl), itT (by rfl), ref05Put_is h (by omega), sb, sb, app_of (by omega), sb, same_bytes, sb]
        simp
  · rw [itT (by simp; omega)]
theorem splR_none {b : List UInt8} (h : (spl 0 b).2 = none) : splR (spl 0 b) = ((spl 0 b).1, 0, 0) := by unfold splR; rw [h]
theorem splR_some {b : List UInt8} {p : Nat} {c : Int} (h : (spl 0 b).2 = some (p, c)) : splR (spl 0 b) = ([], (p : Int), c) := by unfold splR; rw [h]
theorem spl_bounds (base : Nat) (l : List UInt8) : ∀ r ∈ (spl base l).1, 0 ≤ r.From ∧ r.From ≤ base + l.length ∧ 0 ≤ r.At ∧ r.At ≤ base + l.length ∧ 0 ≤ r.To ∧ r.To ≤ base + l.length := by
  refine spl_ind (fun base l => ∀ r ∈ (spl base l).1, 0 ≤ r.From ∧ r.From ≤ base + l.length ∧ 0 ≤ r.At ∧ r.At ≤ base + l.length ∧ 0 ≤ r.To ∧ r.To ≤ base + l.length) ?_ ?_ ?_ base l
  · intro base r hr; rw [spl_nil] at hr; cases hr
  · intro base l c hl h _ r hr; rw [spl_err hl h] at hr; cases hr
  · intro base l n w a t hl h _ g1 g2 g3 ih r hr
    rw [spl_cons hl h] at hr
    rcases List.mem_cons.1 hr with rfl | hr
    · simp only; omega
    · have := ih r hr
      simp only [List.length_drop] at this
      omega
theorem more_loop (a : List UInt8) (x y z : List Rec × Int × Int) (ha : a.length ≤ 1048576) (hz : z.1 = x.1 ++ y.1.map (shiftR a.length)) (hzl : z.1.length ≤ 1048576)
    (hy : ∀ r ∈ y.1, 0 ≤ r.From ∧ r.From ≤ 1048576 ∧ 0 ≤ r.At ∧ r.At ≤ 1048576 ∧ 0 ≤ r.To ∧ r.To ≤ 1048576) :
    ∀ (d i : Nat), i + d = z.1.length → darninglaw05_RecordMore_l1 a x y z i = some (.inl ()) := by
  have hlen : z.1.length = x.1.length + y.1.length := by rw [hz]; simp
  intro d
  induction d with
  | zero =>
    intro i hi
    refine darninglaw05_RecordMore_l1_inr ?_
    unfold darninglaw05_RecordMore_b1
    rw [itF (by simp; omega)]
  | succ d ih =>
    intro i hi
    refine (darninglaw05_RecordMore_l1_inl (i' := ((i + 1 : Nat) : Int)) ?_).trans (ih _ (by omega))
    unfold darninglaw05_RecordMore_b1
    rw [itT (by simp; omega)]
    by_cases hi2 : i < x.1.length
    · have e : z.1[i]'(by omega) = x.1[i] := by simp only [hz]; rw [List.getElem_append_left hi2]
      rw [itT (by simpa using hi2), idx_of rfl (by omega), sb, idx_of rfl hi2, sb, e, sb, itF (by simp), itT (by simpa using hi2), wrap_i64 (by omega)]
      push_cast; rfl
    · have hj : i - x.1.length < y.1.length := by omega
      have e : z.1[i]'(by omega) = shiftR a.length (y.1[i - x.1.length]) := by simp only [hz]; rw [List.getElem_append_right (by omega)]; simp
      have hb := hy _ (List.getElem_mem hj)
      rw [itF (by simpa using hi2), sb, itF (by rfl), itF (by simpa using hi2), idx_of (n := i - x.1.length) (by rw [wrap_i64 (by omega)]; omega) hj, sb, idx_of rfl (by omega), sb, e,
        wrap_i64 (x := (y.1[i - x.1.length]).From + (a.length : Int)) (by omega), wrap_i64 (x := (y.1[i - x.1.length]).At + (a.length : Int)) (by omega), wrap_i64 (x := (y.1[i - x.1.length]).To + (a.length : Int)) (by omega),
        itF (by simp [shiftR]), wrap_i64 (by omega)]
      push_cast; rfl
theorem RecordMore_true (a0 : (List UInt8)) (a1 : (List UInt8)) (w0 : a0.length * 1 ≤ 140737488351232 ∧ ∀ a0' ∈ a0, True) (w1 : a1.length * 1 ≤ 140737488351232 ∧ ∀ a1' ∈ a1, True) : darninglaw05_RecordMore a0 a1 = some true := by
  unfold darninglaw05_RecordMore
  rw [alive05_is, sb, itF (by rfl), wrap_i64 (by omega)]
  by_cases hlen : a0.length + a1.length ≤ 3000
  · rw [itF (by simp; omega), split_is (by omega), sb, split_is (by omega), sb, app_of (by simp; omega), sb, List.nil_append, app_of (by omega), sb, split_is (by simp; omega), sb]
    cases h0 : (spl 0 a0).2 with
    | some p =>
      have := spl_code 0 a0 p.1 p.2 h0
      rw [splR_some (p := p.1) (c := p.2) h0]
      simp only
      rw [wrap_i64 (x := p.2) (by omega), itT (by simp; omega)]
    | none =>
      have hap := spl_append a1 0 a0 h0
      have hsh := spl_shift a0.length 0 a1
      rw [hsh] at hap
      have l0 := spl_len 0 a0
      have l1 := spl_len 0 a1
      rw [splR_none h0]
      simp only
      rw [itF (by rfl)]
      cases h1 : (spl 0 a1).2 with
      | some p =>
        have hc := spl_code 0 a1 p.1 p.2 h1
        have h2 : (spl 0 (a0 ++ a1)).2 = some (p.1 + a0.length, p.2) := by rw [hap]; simp [h1]
        rw [splR_some (p := p.1) (c := p.2) h1, splR_some h2]
        simp only
        rw [wrap_i64 (x := p.2) (by omega), itT (by simp; omega), wrap_i64 (by omega)]
        simp; omega
      | none =>
        have h2 : (spl 0 (a0 ++ a1)).2 = none := by rw [hap]; simp [h1]
        have h3 : (spl 0 (a0 ++ a1)).1 = (spl 0 a0).1 ++ (spl 0 a1).1.map (shiftR a0.length) := by rw [hap]
        rw [splR_none h1, splR_none h2]
        simp only
        rw [itF (by rfl), wrap_i64 (x := ((spl 0 a0).1.length : Int) + ((spl 0 a1).1.length : Int)) (by omega), itF (by rw [h3]; simp; rfl)]
        have hb := spl_bounds 0 a1
        have h := more_loop a0 ((spl 0 a0).1, 0, 0) ((spl 0 a1).1, 0, 0) ((spl 0 (a0 ++ a1)).1, 0, 0) (by omega) h3 (by rw [h3]; simp; omega)
          (fun r hr => by have := hb r hr; omega) _ 0 (Nat.zero_add _)
        have h' : darninglaw05_RecordMore_l1 a0 ((spl 0 a0).1, 0, 0) ((spl 0 a1).1, 0, 0) ((spl 0 (a0 ++ a1)).1, 0, 0) 0 = _ := h
        rw [h', sb]
  · rw [itT (by simp; omega)]
theorem whole_loop (b : List UInt8) (hb : b.length ≤ 3000) (base : Nat) (l : List UInt8) : ∀ (rs : List Rec × Int × Int) (i : Nat), l = b.drop base → base ≤ b.length → (spl base l).2 = none → rs.1.drop i = (spl base l).1 → rs.1.length ≤ 3000 → i ≤ rs.1.length →
    darninglaw05_RecordWhole_l1 b rs base i = some (.inl (b.length : Int)) := by
  refine spl_ind (fun base l => ∀ (rs : List Rec × Int × Int) (i : Nat), l = b.drop base → base ≤ b.length → (spl base l).2 = none → rs.1.drop i = (spl base l).1 → rs.1.length ≤ 3000 → i ≤ rs.1.length →
    darninglaw05_RecordWhole_l1 b rs base i = some (.inl (b.length : Int))) ?_ ?_ ?_ base l
  · intro base rs i hl hbase _ hd _ _
    rw [spl_nil] at hd
    have h1 : b.length ≤ base := by have := congrArg List.length hl; simp at this; omega
    have h2 : rs.1.length ≤ i := by have := congrArg List.length hd; simp at this; omega
    have : base = b.length := by omega
    subst this
    refine darninglaw05_RecordWhole_l1_inr ?_
    unfold darninglaw05_RecordWhole_b1
    rw [itF (by simp; omega)]
  · intro base l c hl h _ rs i _ _ h2
    rw [spl_err hl h] at h2; cases h2
  · intro base l n w a t hl h hr g1 g2 g3 ih rs i hld hbase h2 hd hrs hi
    subst hld
    rw [spl_cons hl h] at h2 hd
    simp only [List.length_drop] at g3
    obtain ⟨hk, hx, hd'⟩ := drop_cons hd
    obtain ⟨v1, v2, v3⟩ := rec5_value h
    have ev : spn b ((base + a : Nat) : Int) ((base + t : Nat) : Int) = ((b.drop base).drop a).take (t - a) := by
      unfold spn
      rw [if_neg (by omega), List.drop_drop]
      congr 1; omega
    generalize hv : ((b.drop base).drop a).take (t - a) = v at v1 v2 v3 ev
    have hvl : v.length ≤ 3000 := by omega
    have hp := put5_le hr (v := v) (by omega)
    refine (darninglaw05_RecordWhole_l1_inl (atv' := ((base + t : Nat) : Int)) (i' := ((i + 1 : Nat) : Int)) ?_).trans ?_
    · unfold darninglaw05_RecordWhole_b1
      rw [itT (by simp; omega), idx_of rfl hk, sb, hx]
      simp only
      rw [itF (by simp; omega), value_is (by omega), sb]
      simp only
      rw [ev, rput_is (by simp) (by omega), sb, hr, v1, if_pos ⟨rfl, rfl⟩]
      simp only [List.nil_append]
      rw [split_is (by omega), sb]
      have hs := spl_put hr v1 (by omega)
      rw [splR_none (by rw [hs]), hs]
      simp only
      rw [itF (by rfl), itF (by rfl), itF (by rfl)]
      have i0 : idx [(⟨n, w, 0, (((put5 n w v).length - v.length : Nat) : Int), ((put5 n w v).length : Int)⟩ : Rec)] 0 = some ⟨n, w, 0, (((put5 n w v).length - v.length : Nat) : Int), ((put5 n w v).length : Int)⟩ := rfl
      have hlp := put5_len n w v
      have hvv : spn (put5 n w v) (((put5 n w v).length - v.length : Nat) : Int) ((put5 n w v).length : Int) = v := by
        unfold spn
        rw [if_neg (by omega), Int.toNat_natCast, Int.toNat_natCast, put5_value]
        exact List.take_of_length_le (by omega)
      rw [i0, sb]
      simp only
      rw [itF (by simp), sb]
      simp only
      rw [itF (by simp), sb, value_is (by omega), sb, sb]
      simp only
      rw [hvv, same_bytes, sb, itF (by simp), wrap_i64 (by omega), sb, itF (by simp; omega), wrap_i64 (by omega)]
      push_cast; rfl
    · exact ih rs (i + 1) (by rw [List.drop_drop]) (by omega) h2 hd' hrs (by omega)
theorem RecordWhole_true (a0 : (List UInt8)) (w0 : a0.length * 1 ≤ 140737488351232 ∧ ∀ a0' ∈ a0, True) : darninglaw05_RecordWhole a0 = some true := by
  unfold darninglaw05_RecordWhole
  rw [alive05_is, sb, itF (by rfl)]
  by_cases hlen : a0.length ≤ 3000
  · rw [itF (by simp; omega), split_is (by omega), sb]
    cases h0 : (spl 0 a0).2 with
    | some p =>
      have := spl_code 0 a0 p.1 p.2 h0
      rw [splR_some (p := p.1) (c := p.2) h0]
      simp only
      rw [wrap_i64 (x := p.2) (by omega), itT (by simp; omega)]
      rfl
    | none =>
      have hl := spl_len 0 a0
      rw [splR_none h0]
      simp only
      rw [itF (by rfl)]
      have h := whole_loop a0 hlen 0 a0 ((spl 0 a0).1, 0, 0) 0 rfl (Nat.zero_le _) h0 rfl (by simp only; omega) (Nat.zero_le _)
      have h' : darninglaw05_RecordWhole_l1 a0 ((spl 0 a0).1, 0, 0) 0 0 = _ := h
      rw [h', sb]
      simp
  · rw [itT (by simp; omega)]
end Go.Proofs.Ytnhnanbgphdaeaa
