/-
  The laws as plain functions. No condition.
-/
import Derived.Test.YtdpolccecmaajaaP1
import Derived.Test.YtdpolccecmaajaaO
namespace Go.Proofs.Ytdpolccecmaajaa
open Go
set_option linter.unusedVariables false
theorem idx_mid10 {α : Type} {xs pre post : List α} {v : α} (e : xs = pre ++ v :: post) {n : Int} (hn : n = (pre.length : Nat)) : idx xs n = some v := by
  subst e
  rw [idx_of hn (by simp)]
  simp
theorem code10 (m : Mes) (b : List UInt8) : 0 ≤ (all10 m b).2.2 ∧ (all10 m b).2.2 ≤ 6 := by
  rcases all10_cases m b with h | h <;> omega
theorem lcode10 (m : Mes) (b : List UInt8) (p : Int) : 0 ≤ (look10 m b p).2 ∧ (look10 m b p).2 ≤ 6 := by
  unfold look10
  by_cases h : (next5 b p).2 = 0
  · rw [if_neg (by simpa using h)]
    rcases vw_cases m (next5 b p).1.Number (next5 b p).1.Wire with hv | ⟨hv, _⟩ | ⟨i, run, hv, _⟩ <;> rw [hv] <;> simp
  · rw [if_pos h]
    unfold next5 at h ⊢
    split
    · simp
    · rcases rec5_cases (b.drop p.toNat) with ⟨c, h', hc⟩ | ⟨n, w, k, a, t, h', _⟩
      · rw [h']; simp only; omega
      · rw [h']; simp
theorem alen10 (m : Mes) (b : List UInt8) : (all10 m b).1.length ≤ b.length := by
  rcases all10_cases m b with ⟨_, hn, e, _⟩ | ⟨_, e⟩
  · have h := congrArg List.length (vws_none hn).2
    rw [List.length_map] at h
    rw [e, h]
    exact spl_len 0 b
  · rw [e]; simp
theorem pos10 {m : Mes} {b : List UInt8} : ∀ v ∈ (all10 m b).1, cut b v.R.From v.R.To = some (raw10 b v.R) := by
  intro v hv
  obtain ⟨n, w, f, a, t, hre, hrec, h1, h2, h3⟩ := spl_mem b 0 b rfl (Nat.zero_le _) _ (v10_mem hv).1
  unfold raw10
  rw [hre]
  exact cut_of (a := f) (b := f + t) rfl rfl (by omega) h3
theorem sum10 (m : Mes) (b : List UInt8) : ((all10 m b).1.flatMap fun v => raw10 b v.R).length ≤ b.length := by
  rcases all10_cases m b with ⟨_, hn, e, _⟩ | ⟨_, e⟩
  · obtain ⟨e1, e2⟩ := vws_none hn
    have := spl_raws10 b 0 b rfl (Nat.zero_le _) e1
    rw [e, ← List.flatMap_map (f := fun v : Vw => v.R) (g := raw10 b), e2, this]
    exact Nat.le_refl _
  · rw [e]; simp
theorem same10_pr (v : Vw) : darninglaw10_same (prV v) v = some true := by
  unfold darninglaw10_same prV
  simp
theorem same10_one (v : Vw) {x : PVw} (h : x = prV v) : darninglaw10_same x v = some true := by rw [h]; exact same10_pr v
theorem valive_is : darninglaw10_alive = some true := by
  have h1 : rec5 [(8 : UInt8), (1 : UInt8), (10 : UInt8), (1 : UInt8), (1 : UInt8), (16 : UInt8), (1 : UInt8)] = .inr (1, 0, 1, 2) := by decide
  have h2 : rec5 [(10 : UInt8), (1 : UInt8), (1 : UInt8), (16 : UInt8), (1 : UInt8)] = .inr (1, 2, 2, 3) := by decide
  have h3 : rec5 [(16 : UInt8), (1 : UInt8)] = .inr (2, 0, 1, 2) := by decide
  have hs : spl 0 [(8 : UInt8), (1 : UInt8), (10 : UInt8), (1 : UInt8), (1 : UInt8), (16 : UInt8), (1 : UInt8)] = ([⟨1, 0, 0, 1, 2⟩, ⟨1, 2, 2, 4, 5⟩, ⟨2, 0, 5, 6, 7⟩], none) := by
    rw [spl_cons (by simp) h1]
    have e : ([(8 : UInt8), (1 : UInt8), (10 : UInt8), (1 : UInt8), (1 : UInt8), (16 : UInt8), (1 : UInt8)] : List UInt8).drop 2 = [(10 : UInt8), (1 : UInt8), (1 : UInt8), (16 : UInt8), (1 : UInt8)] := rfl
    rw [e, spl_cons (by simp) h2]
    have e2 : ([(10 : UInt8), (1 : UInt8), (1 : UInt8), (16 : UInt8), (1 : UInt8)] : List UInt8).drop 3 = [(16 : UInt8), (1 : UInt8)] := rfl
    rw [e2, spl_cons (by simp) h3]
    have e3 : ([(16 : UInt8), (1 : UInt8)] : List UInt8).drop 2 = [] := rfl
    rw [e3, spl_nil]
    rfl
  have ha : all10 ⟨[], [⟨[], 1, 1, true, false, 0⟩]⟩ [(8 : UInt8), (1 : UInt8), (10 : UInt8), (1 : UInt8), (1 : UInt8), (16 : UInt8), (1 : UInt8)] = ([⟨⟨1, 0, 0, 1, 2⟩, 0, false⟩, ⟨⟨1, 2, 2, 4, 5⟩, 0, true⟩, ⟨⟨2, 0, 5, 6, 7⟩, -1, false⟩], 0, 0) := by
    unfold all10
    rw [hs]
    decide
  unfold darninglaw10_alive
  rw [vall_is (by simp) (by simp), sb, ha]
  rfl
theorem ViewLooks_true (a0 : T_Name_Fields) (a1 : (List UInt8)) (a2 : Int) (w0 : W_Name_Fields a0) (w1 : a1.length * 1 ≤ 140737488351232 ∧ ∀ a1' ∈ a1, True) (_w2 : (Lit.int .i64 a2).wf = true) : darninglaw10_ViewLooks a0 a1 a2 = some true := by
  unfold darninglaw10_ViewLooks
  rw [valive_is, sb, itF (by rfl)]
  unfold darninglaw10_Wide
  rw [sb]
  by_cases hl : 300 < a0.Fields.length ∨ 2000 < a1.length
  · rw [itT (by simp; omega)]
  · have hm : a0.Fields.length ≤ 1152921504606846976 := by omega
    have hb : a1.length ≤ 1048576 := by omega
    have c1 := lcode10 a0 a1 a2
    have c2 := code10 a0 a1
    have c3 := alen10 a0 a1
    have hF : (decide ((a0.Fields.length : Int) > 300) || decide ((a1.length : Int) > 2000)) = false := by
      rw [Bool.or_eq_false_iff]; exact ⟨decide_eq_false (by omega), decide_eq_false (by omega)⟩
    rw [itF hF, vlook_is hm hb, sb, refLook_is hm hb, sb, vall_is hm hb, sb, refAll10_is hm hb, sb]
    simp only
    rw [wrap_i64 (x := (look10 a0 a1 a2).2) (by omega), wrap_i64 (x := (all10 a0 a1).2.2) (by omega), itF (by simp), itF (by simp), itF (by simp), itF (by simp), same10_pr, sb, sb, itF (by rfl)]
    have hloop : ∀ (d i : Nat), i + d = (all10 a0 a1).1.length → darninglaw10_ViewLooks_l1 ((all10 a0 a1).1.map prV, (all10 a0 a1).2.1, (all10 a0 a1).2.2) (all10 a0 a1) i = some (.inl ()) := by
      intro d
      induction d with
      | zero =>
        intro i hi
        refine darninglaw10_ViewLooks_l1_inr ?_
        unfold darninglaw10_ViewLooks_b1
        rw [itF (by simp; omega)]
      | succ d ih =>
        intro i hi
        refine (darninglaw10_ViewLooks_l1_inl (i' := ((i + 1 : Nat) : Int)) ?_).trans (ih _ (by omega))
        unfold darninglaw10_ViewLooks_b1
        rw [itT (by simp; omega), idx_of (n := i) rfl (by simp; omega), sb, idx_of (n := i) rfl (by omega), sb, same10_one _ (by simp), sb, itF (by rfl), wrap_i64 (by omega)]
        push_cast; rfl
    have h0 := hloop _ 0 (Nat.zero_add _)
    have h0' : darninglaw10_ViewLooks_l1 ((all10 a0 a1).1.map prV, (all10 a0 a1).2.1, (all10 a0 a1).2.2) (all10 a0 a1) 0 = _ := h0
    rw [h0', sb]
theorem filt_len (b : List UInt8) (p : Vw → Bool) : ∀ l : List Vw, ((l.filter p).flatMap fun v => raw10 b v.R).length ≤ (l.flatMap fun v => raw10 b v.R).length
  | [] => Nat.le_refl _
  | x :: l => by
    have ih := filt_len b p l
    cases h : p x <;> simp only [List.filter_cons, h, if_true, Bool.false_eq_true, if_false, List.flatMap_cons, List.length_append] <;> omega
theorem parts_loop (b : List UInt8) (number : Int) (all : List Vw) (x : Int × Int) (hpos : ∀ v ∈ all, cut b v.R.From v.R.To = some (raw10 b v.R)) (hsum : (all.flatMap fun v => raw10 b v.R).length ≤ 1048576) (hlen : all.length ≤ 1048576) : ∀ (post pre : List Vw), all = pre ++ post →
    darninglaw10_ViewParts_l1 b number (all, x) ((all.filter fun v => v.R.Number == number).map prV) ((all.filter fun v => decide (v.Field < 0)).map fun v => raw10 b v.R) ((pre.filter fun v => v.R.Number == number).length : Nat) ((pre.filter fun v => decide (v.Field < 0)).length : Nat)
      ((pre.filter fun v => !decide (v.Field < 0)).flatMap fun v => raw10 b v.R) (pre.length : Nat) = some (.inl (((all.filter fun v => v.R.Number == number).length : Nat), ((all.filter fun v => decide (v.Field < 0)).length : Nat), (all.filter fun v => !decide (v.Field < 0)).flatMap fun v => raw10 b v.R)) := by
  intro post
  induction post with
  | nil =>
    intro pre e
    rw [List.append_nil] at e
    subst e
    refine darninglaw10_ViewParts_l1_inr ?_
    unfold darninglaw10_ViewParts_b1
    rw [itF (by simp)]
  | cons v post ih =>
    intro pre e
    have hi : idx all (pre.length : Nat) = some v := idx_mid10 e rfl
    have hlt : pre.length < all.length := by rw [e]; simp
    have hv : v ∈ all := by rw [e]; simp
    have hfl := filt_len b (fun v => !decide (v.Field < 0)) pre
    have hfl2 := filt_len b (fun v => !decide (v.Field < 0)) [v]
    have hpre : (pre.flatMap fun v => raw10 b v.R).length + (raw10 b v.R).length ≤ 1048576 := by
      have h := hsum
      rw [e, List.flatMap_append, List.flatMap_cons] at h
      simp only [List.length_append] at h
      omega
    have k1 : (pre.filter fun v => v.R.Number == number).length ≤ pre.length := List.length_filter_le _ _
    have k2 : (pre.filter fun v => decide (v.Field < 0)).length ≤ pre.length := List.length_filter_le _ _
    refine (darninglaw10_ViewParts_l1_inl (n' := (((pre ++ [v]).filter fun v => v.R.Number == number).length : Nat)) (k' := (((pre ++ [v]).filter fun v => decide (v.Field < 0)).length : Nat)) (want' := ((pre ++ [v]).filter fun v => !decide (v.Field < 0)).flatMap fun v => raw10 b v.R) (i' := ((pre ++ [v]).length : Nat)) ?_).trans (ih (pre ++ [v]) (by rw [e]; simp))
    unfold darninglaw10_ViewParts_b1
    simp only
    rw [itT (by simp; omega), hi, sb]
    simp only [List.filter_append, List.length_append, List.flatMap_append]
    have tail : ∀ u : Int, (match (Sum.inl u : Int ⊕ Unit) with
        | .inl u => some v >>= fun x4 => if (decide (x4.Field ≥ 0)) then (cut b v.R.From v.R.To >>= fun v3 => app 1 ((pre.filter fun v => !decide (v.Field < 0)).flatMap fun v => raw10 b v.R) v3 >>= fun v4 => (some (.inl (u, (((pre.filter fun v => decide (v.Field < 0)).length : Nat) : Int), v4, (IntKind.i64.wrap ((pre.length : Nat) + 1)))) : Option ((Int × Int × (List UInt8) × Int) ⊕ ((Int × Int × (List UInt8)) ⊕ Unit)))) else (
          ((if (decide ((((pre.filter fun v => decide (v.Field < 0)).length : Nat) : Int) ≥ (((all.filter fun v => decide (v.Field < 0)).map fun v => raw10 b v.R).length : Int))) then some true else (idx ((all.filter fun v => decide (v.Field < 0)).map fun v => raw10 b v.R) ((pre.filter fun v => decide (v.Field < 0)).length : Nat) >>= fun x5 => cut b v.R.From v.R.To >>= fun v5 => darningref01_Same x5 v5 >>= fun rv8 => some (!rv8)))) >>= fun g2 => if g2 then (some (.inr (.inr ()))) else (some (.inl (u, (IntKind.i64.wrap ((((pre.filter fun v => decide (v.Field < 0)).length : Nat) : Int) + 1)), (pre.filter fun v => !decide (v.Field < 0)).flatMap (fun v => raw10 b v.R), (IntKind.i64.wrap ((pre.length : Nat) + 1))))))
        | .inr u2 => some (.inr (.inr ()))) = some (.inl (u, (((pre.filter fun v => decide (v.Field < 0)).length + ([v].filter fun v => decide (v.Field < 0)).length : Nat) : Int), ((pre.filter fun v => !decide (v.Field < 0)).flatMap fun v => raw10 b v.R) ++ (([v].filter fun v => !decide (v.Field < 0)).flatMap fun v => raw10 b v.R), ((pre.length + 1 : Nat) : Int))) := by
      intro u
      simp only
      rw [sb]
      by_cases hf : v.Field < 0
      · have hlk : (all.filter fun v => decide (v.Field < 0)) = (pre.filter fun v => decide (v.Field < 0)) ++ v :: (post.filter fun v => decide (v.Field < 0)) := by rw [e, List.filter_append, List.filter_cons, if_pos (by simpa using hf)]
        have hk : idx ((all.filter fun v => decide (v.Field < 0)).map fun v => raw10 b v.R) (((pre.filter fun v => decide (v.Field < 0)).length : Nat) : Int) = some (raw10 b v.R) := idx_mid10 (pre := (pre.filter fun v => decide (v.Field < 0)).map fun v => raw10 b v.R) (post := (post.filter fun v => decide (v.Field < 0)).map fun v => raw10 b v.R) (by rw [hlk]; simp) (by simp)
        have hge : ¬ (((pre.filter fun v => decide (v.Field < 0)).length : Nat) : Int) ≥ (((all.filter fun v => decide (v.Field < 0)).map fun v => raw10 b v.R).length : Int) := by rw [hlk]; simp; omega
        rw [itF (decide_eq_false (by omega)), itF (decide_eq_false hge), hk, sb, hpos v hv, sb, same_bytes, sb, sb, itF (by simp), wrap_i64 (by omega), wrap_i64 (by omega)]
        simp [hf]
      · rw [itT (decide_eq_true (by omega)), hpos v hv, sb, app_of (by omega), sb, wrap_i64 (by omega)]
        simp [hf]
    by_cases hn : v.R.Number = number
    · have hlk : (all.filter fun v => v.R.Number == number) = (pre.filter fun v => v.R.Number == number) ++ v :: (post.filter fun v => v.R.Number == number) := by rw [e, List.filter_append, List.filter_cons, if_pos (by simpa using hn)]
      have hk : idx ((all.filter fun v => v.R.Number == number).map prV) (((pre.filter fun v => v.R.Number == number).length : Nat) : Int) = some (prV v) := idx_mid10 (pre := (pre.filter fun v => v.R.Number == number).map prV) (post := (post.filter fun v => v.R.Number == number).map prV) (by rw [hlk]; simp) (by simp)
      have hge : ¬ (((pre.filter fun v => v.R.Number == number).length : Nat) : Int) ≥ (((all.filter fun v => v.R.Number == number).map prV).length : Int) := by rw [hlk]; simp; omega
      rw [itT (by simpa using hn), itF (decide_eq_false hge), hk, sb, sb, same10_pr, sb, sb, itF (by rfl), sb, wrap_i64 (by omega)]
      refine (tail _).trans ?_
      simp [hn]
    · rw [itF (by simpa using hn), sb]
      refine (tail _).trans ?_
      simp [hn]
theorem ViewParts_true (a0 : T_Name_Fields) (a1 : (List UInt8)) (a2 : Int) (w0 : W_Name_Fields a0) (w1 : a1.length * 1 ≤ 140737488351232 ∧ ∀ a1' ∈ a1, True) (_w2 : (Lit.int .i64 a2).wf = true) : darninglaw10_ViewParts a0 a1 a2 = some true := by
  unfold darninglaw10_ViewParts
  rw [valive_is, sb, itF (by rfl)]
  unfold darninglaw10_Wide
  rw [sb]
  by_cases hl : 300 < a0.Fields.length ∨ 2000 < a1.length
  · rw [itT (by simp; omega)]
  · have hm : a0.Fields.length ≤ 1152921504606846976 := by omega
    have hb : a1.length ≤ 1048576 := by omega
    have c2 := code10 a0 a1
    have c3 := alen10 a0 a1
    have c4 := sum10 a0 a1
    have hF : (decide ((a0.Fields.length : Int) > 300) || decide ((a1.length : Int) > 2000)) = false := by
      rw [Bool.or_eq_false_iff]; exact ⟨decide_eq_false (by omega), decide_eq_false (by omega)⟩
    have h0 := parts_loop a1 a2 (all10 a0 a1).1 (all10 a0 a1).2 pos10 (by omega) (by omega) (all10 a0 a1).1 [] rfl
    have h0' : darninglaw10_ViewParts_l1 a1 a2 (all10 a0 a1) ((of10 a0 a1 a2).map prV) (unk10 a0 a1) 0 0 [] 0 = some (.inl (((of10 a0 a1 a2).length : Nat), (((all10 a0 a1).1.filter fun v => decide (v.Field < 0)).length : Nat), drop10 a0 a1)) := h0
    rw [itF hF, refAll10_is hm hb, sb, vof_is hm hb, sb, vunk_is hm hb, sb, vdrop_is hm hb, sb, h0', sb]
    simp only
    have hu : (unk10 a0 a1).length = ((all10 a0 a1).1.filter fun v => decide (v.Field < 0)).length := by unfold unk10; simp
    have ha : ((all10 a0 a1).1.any fun v => v.R.Number == a2) = decide ((((of10 a0 a1 a2).length : Nat) : Int) > 0) := by
      unfold of10
      rw [Bool.eq_iff_iff, List.any_eq_true, decide_eq_true_iff]
      constructor
      · rintro ⟨v, hv, h⟩
        have := List.length_pos_of_mem (List.mem_filter (p := fun v : Vw => v.R.Number == a2) |>.2 ⟨hv, h⟩)
        omega
      · intro h
        obtain ⟨v, hv⟩ := List.exists_mem_of_length_pos (show 0 < ((all10 a0 a1).1.filter fun v : Vw => v.R.Number == a2).length by omega)
        obtain ⟨v1, v2⟩ := List.mem_filter.1 hv
        exact ⟨v, v1, v2⟩
    rw [itT (by simp), itT (by rw [hu]; simp), vhas_is hm hb, sb, itT (by rw [ha]; simp), wrap_i64 (by omega), itT (by simp), same_bytes, sb, sb]
    simp
theorem split10_loop (l : List (List UInt8)) (hl : l.length ≤ 1048576) : ∀ (post pre : List (List UInt8)) (n : Nat), l = pre ++ post → n + (post.map List.length).sum ≤ 1048576 → darninglaw10_ViewSplit_l1 l (n : Int) (pre.length : Nat) = some ((n + (post.map List.length).sum : Nat) : Int) := by
  intro post
  induction post with
  | nil =>
    intro pre n e h
    rw [List.append_nil] at e
    subst e
    refine darninglaw10_ViewSplit_l1_inr ?_
    unfold darninglaw10_ViewSplit_b1
    rw [itF (by simp)]
    rfl
  | cons v post ih =>
    intro pre n e h
    simp only [List.map_cons, List.sum_cons] at h ⊢
    have hlt : pre.length < l.length := by rw [e]; simp
    refine (darninglaw10_ViewSplit_l1_inl (n' := ((n + v.length : Nat) : Int)) (i' := ((pre ++ [v]).length : Nat)) ?_).trans ((ih (pre ++ [v]) (n + v.length) (by rw [e]; simp) (by omega)).trans (by rw [Nat.add_assoc]))
    unfold darninglaw10_ViewSplit_b1
    rw [itT (by simp; omega), idx_mid10 e rfl, sb, wrap_i64 (by omega), wrap_i64 (by omega)]
    simp
theorem ViewSplit_true (a0 : T_Name_Fields) (a1 : (List UInt8)) (a2 : Int) (w0 : W_Name_Fields a0) (w1 : a1.length * 1 ≤ 140737488351232 ∧ ∀ a1' ∈ a1, True) (_w2 : (Lit.int .i64 a2).wf = true) : darninglaw10_ViewSplit a0 a1 a2 = some true := by
  unfold darninglaw10_ViewSplit
  rw [valive_is, sb, itF (by rfl)]
  unfold darninglaw10_Wide
  rw [sb]
  by_cases hl : 300 < a0.Fields.length ∨ 2000 < a1.length
  · rw [itT (by simp; omega)]
  · have hm : a0.Fields.length ≤ 1152921504606846976 := by omega
    have hb : a1.length ≤ 1048576 := by omega
    have c2 := code10 a0 a1
    have c3 := alen10 a0 a1
    have c4 := sum10 a0 a1
    have hF : (decide ((a0.Fields.length : Int) > 300) || decide ((a1.length : Int) > 2000)) = false := by
      rw [Bool.or_eq_false_iff]; exact ⟨decide_eq_false (by omega), decide_eq_false (by omega)⟩
    rw [itF hF, vall_is hm hb, sb]
    simp only
    rw [wrap_i64 (x := (all10 a0 a1).2.2) (by omega)]
    by_cases h0 : (all10 a0 a1).2.2 = 0
    · have hsp := split10 h0
      have hul : (unk10 a0 a1).length ≤ (all10 a0 a1).1.length := by unfold unk10; rw [List.length_map]; exact List.length_filter_le _ _
      have hol : (of10 a0 a1 (0 : Int)).length ≤ (all10 a0 a1).1.length := by unfold of10; exact List.length_filter_le _ _
      have hlp := split10_loop (unk10 a0 a1) (by omega) (unk10 a0 a1) [] (drop10 a0 a1).length rfl (by omega)
      have hlp' : darninglaw10_ViewSplit_l1 (unk10 a0 a1) ((drop10 a0 a1).length : Int) 0 = _ := hlp
      rw [itF (by simpa using h0), vdrop_is hm hb, sb, vunk_is hm hb, sb, hlp', sb]
      simp only
      rw [h0, itF (by decide), hsp, itF (by simp), vunk_is hm (by omega), sb, unk_drop, sb, itF (by rfl)]
      by_cases hi : a2 < 0 ∨ a2 ≥ a0.Fields.length
      · rw [itT (by simpa using hi)]
      · have hi' : (decide (a2 < 0) || decide (a2 ≥ (a0.Fields.length : Int))) = false := by
          rw [Bool.or_eq_false_iff]; exact ⟨decide_eq_false (by omega), decide_eq_false (by omega)⟩
        rw [itF hi']
        obtain ⟨i, rfl⟩ : ∃ i : Nat, a2 = i := ⟨a2.toNat, by omega⟩
        have hlt : i < a0.Fields.length := by omega
        have hmf : (less10 a0 i).Fields.length ≤ 1152921504606846976 := by unfold less10; simp; omega
        have t1 : (a0.Fields.drop 0).take (i - 0) = a0.Fields.take i := by simp
        have t2 : (a0.Fields.drop (i + 1)).take (a0.Fields.length - (i + 1)) = a0.Fields.drop (i + 1) := List.take_of_length_le (by simp)
        rw [cut_of (i := 0) (a := 0) (b := i) rfl rfl (by omega) (by omega), sb, t1, app_of (by simp; omega), sb, wrap_i64 (by omega), cut_of (a := i + 1) (b := a0.Fields.length) (by push_cast; rfl) rfl (by omega) (by omega), sb, t2, app_of (by simp; omega), sb, List.nil_append, idx_of rfl hlt, sb]
        show (darningref07_Field (less10 a0 i) (a0.Fields[i]).Number >>= _) = _
        rw [refField_is hmf, sb]
        by_cases hg : fldI (less10 a0 i) (a0.Fields[i]).Number ≥ 0
        · rw [itT (by simpa using hg)]
        · obtain ⟨q1, q2, q3, q4⟩ := less_all hlt (by omega) h0
          have hol2 : (of10 a0 a1 (a0.Fields[i]).Number).length ≤ (all10 a0 a1).1.length := by unfold of10; exact List.length_filter_le _ _
          rw [itF (by simpa using hg)]
          show (view_All (less10 a0 i) a1 >>= _) = _
          rw [vall_is hmf hb, sb]
          simp only
          rw [q1, itT (by decide), itT (by simp [q2])]
          show ((view_Of (less10 a0 i) a1 (a0.Fields[i]).Number >>= _) >>= _) = _
          rw [vof_is hmf hb, sb, vof_is hm hb, sb, itT (by simp [q3])]
          show ((view_Unknown (less10 a0 i) a1 >>= _) >>= _) = _
          rw [vunk_is hmf hb, sb, q4, sb, List.length_map, wrap_i64 (by omega), sb]
          simp
    · rcases all10_cases a0 a1 with ⟨h, _⟩ | ⟨_, h⟩
      · exact absurd h h0
      · rw [itT (by simpa using h0), h]
        rfl
end Go.Proofs.Ytdpolccecmaajaa
