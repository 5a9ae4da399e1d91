/-
  The law VarintList as a plain function: always true. No condition.
-/
import Derived.Test.YtnpfdmlfeealgaaPVarint
namespace Go.Proofs.Ytnpfdmlfeealgaa
open Go

theorem enc_len_all (vs : List Nat) (h : ∀ v ∈ vs, v < 18446744073709551616) : (vs.flatMap enc).length ≤ 10 * vs.length := by
  induction vs with
  | nil => simp
  | cons v vs ih =>
    have h1 := (enc_le (h v List.mem_cons_self)).2
    have h2 := ih fun u hu => h u (List.mem_cons_of_mem _ hu)
    simp only [List.flatMap_cons, List.length_append, List.length_cons]
    omega
theorem list_loop (vs : List Nat) (h : ∀ v ∈ vs, v < 18446744073709551616) (hl : vs.length ≤ 300) : ∀ (k i : Nat), i + k = vs.length →
    darninglaw02_VarintList_l1 (vs.map (fun v : Nat => (v : Int))) ((vs.take i).flatMap enc) i = some (vs.flatMap enc) := by
  intro k
  induction k with
  | zero =>
    intro i hi
    refine darninglaw02_VarintList_l1_inr ?_
    unfold darninglaw02_VarintList_b1
    rw [itF (by simp; omega), List.take_of_length_le (by omega)]
  | succ k ih =>
    intro i hi
    have hlt : i < vs.length := by omega
    have htake := enc_len_all (vs.take i) fun v hv => h v (List.mem_of_mem_take hv)
    rw [List.length_take] at htake
    refine (darninglaw02_VarintList_l1_inl (b' := (vs.take (i + 1)).flatMap enc) (i' := ((i + 1 : Nat) : Int)) ?_).trans (ih (i + 1) (by omega))
    unfold darninglaw02_VarintList_b1
    rw [itT (by simp; omega), idx_of (n := i) rfl (by simpa using hlt), sb, List.getElem_map, put_is _ (h _ (List.getElem_mem hlt)) (by omega), sb, wrap_i64 (by omega)]
    have e : (vs.take (i + 1)).flatMap enc = (vs.take i).flatMap enc ++ enc vs[i] := by rw [List.take_add_one, List.getElem?_eq_getElem hlt, List.flatMap_append]; simp
    rw [e]; rfl
theorem VarintList_true (a0 : (List Int)) (w0 : a0.length ≤ maxLen ∧ ∀ a0' ∈ a0, (Lit.int .u64 a0').wf = true) : darninglaw02_VarintList a0 = some true := by
  obtain ⟨vs, rfl, hvs⟩ : ∃ vs : List Nat, a0 = vs.map (fun v : Nat => (v : Int)) ∧ ∀ v ∈ vs, v < 18446744073709551616 := by
    refine ⟨a0.map Int.toNat, ?_, fun v hv => ?_⟩
    · rw [List.map_map]
      have : ∀ x ∈ a0, ((fun v : Nat => (v : Int)) ∘ Int.toNat) x = x := fun x hx => by
        have := bd_u64 (w0.2 x hx)
        simp only [Function.comp]; omega
      rw [List.map_congr_left this, List.map_id']
    · obtain ⟨x, hx, rfl⟩ := List.mem_map.1 hv
      have := bd_u64 (w0.2 x hx)
      omega
  clear w0
  unfold darninglaw02_VarintList
  rw [alive_is, sb, itF (by rfl)]
  simp only [List.length_map]
  by_cases hlen : vs.length ≤ 300
  · have hloop : darninglaw02_VarintList_l1 (vs.map (fun v : Nat => (v : Int))) [] 0 = some (vs.flatMap enc) := list_loop vs hvs hlen vs.length 0 (by omega)
    have hall : varint_All (vs.flatMap enc) = some (vs.map (fun v : Nat => (v : Int)), 0) := by
      have := all_enc vs [] [] hvs (by simp; omega)
      rw [List.append_nil, all_nil] at this
      unfold varint_All
      rw [this]; rfl
    rw [itF (by simp; omega), hloop, sb, hall, sb, itF (by rfl), same_is _ _ (by simp; omega), sb]
    simp only [decide_true, Bool.not_true]
    rw [sb, itF (by rfl)]
    rcases List.eq_nil_or_concat vs with rfl | ⟨us, v, rfl⟩
    · rfl
    · have hv : v < 18446744073709551616 := hvs v (by simp)
      have hus : ∀ u ∈ us, u < 18446744073709551616 := fun u hu => hvs u (by simp [hu])
      have hen := enc_le hv
      simp only [List.concat_eq_append, List.length_append, List.length_cons, List.length_nil] at hlen ⊢
      have hg : idx (List.map (fun v : Nat => (v : Int)) (us ++ [v])) (IntKind.i64.wrap (((us.length + (0 + 1) : Nat) : Int) - 1)) = some (v : Int) := by
        rw [wrap_i64 (by omega), idx_of (n := us.length) (by push_cast; omega) (by simp)]
        simp
      rw [itF (by simp; omega), hg, sb, sb]
      by_cases hs : v < 128
      · rw [itT (by simp; omega)]
      · have hle := enc_len_all us hus
        have hlast : (us ++ [v]).flatMap enc = us.flatMap enc ++ enc v := by simp
        rw [itF (by simp; omega), hlast]
        have hcut : cut (us.flatMap enc ++ enc v) 0 (IntKind.i64.wrap (((us.flatMap enc ++ enc v).length : Int) - 1)) = some (us.flatMap enc ++ (enc v).take ((enc v).length - 1)) := by
          rw [List.length_append, wrap_i64 (by omega), cut_take (b := (us.flatMap enc).length + ((enc v).length - 1)) (by omega) (by rw [List.length_append]; omega)]
          congr 1
          rw [List.take_append, List.take_of_length_le (by omega), Nat.add_sub_cancel_left]
        have hne : 2 ≤ (enc v).length := by
          rw [enc_ge hs, List.length_cons]
          have := (enc_le (v := v / 128) (by omega)).1
          omega
        have hall2 : varint_All (us.flatMap enc ++ (enc v).take ((enc v).length - 1)) = some ([], 3) := by
          have := all_enc us ((enc v).take ((enc v).length - 1)) [] hus (by simp; omega)
          unfold varint_All
          rw [this]
          have h3 : varint_All_l1 ((enc v).take ((enc v).length - 1)) ([] ++ us.map (fun v : Nat => (v : Int))) = some (.inr 3) := by
            refine varint_All_l1_inr ?_
            unfold varint_All_b1
            rw [itT (by simp; omega), read_is, sb, rd_short hv]
            rfl
          rw [h3]; rfl
        rw [hcut, sb, hall2, sb]
        rfl
  · rw [itT (by simp; omega)]
end Go.Proofs.Ytnpfdmlfeealgaa
