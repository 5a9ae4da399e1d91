/-
  The laws as plain functions. No condition.
-/
import Derived.Test.YtnchbppkppbflaaP1
import Derived.Test.YtnchbppkppbflaaO
namespace Go.Proofs.Ytnchbppkppbflaa
open Go
set_option linter.unusedVariables false
theorem ws_of {s : List Mes} (w : s.length * 40 ≤ 140737488351232 ∧ ∀ m ∈ s, W_Name_Fields m) : WS s :=
  ⟨by omega, fun m hm => ⟨(w.2 m hm).1, by have := (w.2 m hm).2.1; omega, fun f hf => ((w.2 m hm).2.2 f hf).1⟩⟩
theorem SchemaChecks_true (a0 : (List T_Name_Fields)) (w0 : a0.length * 40 ≤ 140737488351232 ∧ ∀ a0' ∈ a0, W_Name_Fields a0') : darninglaw07_SchemaChecks a0 = some true := by
  have hw := ws_of w0
  unfold darninglaw07_SchemaChecks
  rw [alive7_is, sb, itF (show (!true) = false from rfl)]
  obtain ⟨b, hb⟩ := few_is hw
  rw [hb, sb]
  cases b with
  | false => rfl
  | true =>
    rw [itF (show (!true) = false from rfl), check_is hw, sb, refCheck07_is hw, sb, right_is hw, itT (decide_eq_true rfl)]
    by_cases h : (checkS a0).2.2 = 0
    · rw [if_pos h]
      simp [h, rightS, wrap_i64]
    · rw [if_neg h]
      simp [h, rightS, wrap_i64]
theorem fault_of {n : Int} {prev : List Fld} {f : Fld} (h : FldOk n f) (h1 : prev.any (fun g => g.Name == f.Name) = false) (h2 : prev.any (fun g => g.Number == f.Number) = false) (h3 : ¬ (19000 ≤ f.Number ∧ f.Number < 20000)) : faultF n prev f = 0 := by
  obtain ⟨k1, k2, k3, k4, k5, k6, k7⟩ := h
  unfold faultF
  rw [if_neg (by rw [k1]; simp), if_neg (by rw [h1]; simp), if_neg (by omega), if_neg (by rw [h2]; simp), if_neg (by rw [k4]; simp), if_neg (fun hh => hh.2 (k5 hh.1)), if_neg]
  rintro (⟨e, hh⟩ | ⟨e, hh⟩)
  · have := k6 e; omega
  · exact hh (k7 e)
theorem fault_gap {n : Int} {prev : List Fld} {f : Fld} (h : faultF n prev f = 0) : ¬ (19000 ≤ f.Number ∧ f.Number < 20000) := by
  intro hh
  unfold faultF at h
  split at h
  · omega
  · split at h
    · omega
    · rw [if_pos (by omega)] at h; omega
theorem less_last {s : List Mes} (hr : rightS s = true) (hl : 1 < s.length) (hu : ∀ (i : Nat) (m : Mes), i < s.length - 1 → s[i]? = some m → ∀ f ∈ m.Fields, ¬ (f.Kind = 17 ∧ f.Of = ((s.length - 1 : Nat) : Int))) : rightS (s.take (s.length - 1)) = true := by
  have h0 : (checkS s).2.2 = 0 := by simpa [rightS] using hr
  have h1 : ¬ (s.length = 0 ∨ 100 < s.length) := fun hh => by unfold checkS at h0; rw [if_pos hh] at h0; simp at h0
  have h2 : chkF s.length [] s = none := by
    cases h4 : chkF s.length [] s with
    | none => rfl
    | some p =>
      exfalso
      obtain ⟨i, k, w⟩ := p
      have h5 : (checkS s).2.2 = w := by unfold checkS; rw [if_neg h1, h4]
      have := chk_pos _ _ _ _ _ _ h4
      omega
  have h3 := (chkF_none s []).1 h2
  have hlen : (s.take (s.length - 1)).length = s.length - 1 := by simp
  have hc : chkF ((s.take (s.length - 1)).length : Int) [] (s.take (s.length - 1)) = none := by
    refine (chkF_none _ []).2 fun i m hm => ?_
    have hi : i < s.length - 1 := by have := (List.getElem?_eq_some_iff.1 hm).1; omega
    have hm' : s[i]? = some m := by rw [List.getElem?_take, if_pos hi] at hm; exact hm
    obtain ⟨q1, q2, q3, q4⟩ := h3 i m hm'
    refine ⟨q1, ?_, q3, ?_⟩
    · rw [List.take_take, Nat.min_eq_left (by omega)]; exact q2
    · refine (msgF_none _ []).2 fun k f hf => ?_
      have q5 := (msgF_none _ []).1 q4 k f hf
      obtain ⟨g1, g2, g3⟩ := fault_zero q5
      have hfm : f ∈ m.Fields := List.mem_of_getElem? hf
      refine fault_of ⟨g1.name, g1.lo, g1.hi, g1.kind, g1.packed, fun hk => ?_, g1.noSub⟩ g2 g3 (fault_gap q5)
      obtain ⟨p1, p2⟩ := g1.sub hk
      have := hu i m hi hm' f hfm
      refine ⟨p1, ?_⟩
      have h7 : f.Of ≠ ((s.length - 1 : Nat) : Int) := fun e => this ⟨hk, e⟩
      rw [hlen]
      omega
  unfold rightS checkS
  rw [if_neg (by omega), hc]
  rfl
theorem find_first {α : Type} {p : α → Bool} {l : List α} {i : Nat} (hi : i < l.length) (hp : p l[i] = true) (hn : ∀ j (h : j < l.length), j < i → p l[j] = false) : l.findIdx? p = some i := by
  rw [List.findIdx?_eq_some_iff_getElem]
  exact ⟨hi, hp, fun j hj => by simp [hn j (by omega) hj]⟩
theorem message7_is {s : List Mes} (hs : s.length ≤ 140737488351232) (name : Str) : schema_Message s name = some (match s.findIdx? (fun m => m.Name == name) with | some i => ((i : Int), 0) | none => (0, 11)) := by
  unfold schema_Message slices_IndexFunc_api_Schema_api_Message___schema_Message_1
  have h := find_loop (fun m : Mes => m.Name == name) s (fun i => slices_IndexFunc_api_Schema_api_Message___schema_Message_1_l1 s name i) (slices_IndexFunc_api_Schema_api_Message___schema_Message_1_l1_inr (by unfold slices_IndexFunc_api_Schema_api_Message___schema_Message_1_b1; rw [itF (by simp)])) (fun i hi => by
    by_cases hp : (s[i].Name == name) = true
    · rw [if_pos hp]; exact slices_IndexFunc_api_Schema_api_Message___schema_Message_1_l1_inr (by unfold slices_IndexFunc_api_Schema_api_Message___schema_Message_1_b1 schema_Message_1; rw [itT (by simp; omega), idx_of rfl hi, sb, sb, itT hp])
    · rw [if_neg hp]; exact slices_IndexFunc_api_Schema_api_Message___schema_Message_1_l1_inl (by unfold slices_IndexFunc_api_Schema_api_Message___schema_Message_1_b1 schema_Message_1; rw [itT (by simp; omega), idx_of rfl hi, sb, sb, itF (eq_false_of_ne_true hp), wrap_i64 (by omega)]; rfl)) s.length 0 (by omega) (fun j _ h => by omega)
  have h' : slices_IndexFunc_api_Schema_api_Message___schema_Message_1_l1 s name 0 = _ := h
  rw [h', sb]
  cases s.findIdx? (fun m : Mes => m.Name == name) with
  | none => rfl
  | some i =>
    simp only [sb]
    rw [itF (by simp)]
theorem byNumber_is {m : Mes} (hm : m.Fields.length ≤ 140737488351232) (n : Int) : schema_ByNumber m n = some (match m.Fields.findIdx? (fun f => f.Number == n) with | some i => ((i : Int), true) | none => (0, false)) := by
  unfold schema_ByNumber schema_first__schema_ByNumber_1 slices_IndexFunc___api_Field_api_Field___schema_ByNumber_1
  have h := find_loop (fun f : Fld => f.Number == n) m.Fields (fun i => slices_IndexFunc___api_Field_api_Field___schema_ByNumber_1_l1 m.Fields n i) (slices_IndexFunc___api_Field_api_Field___schema_ByNumber_1_l1_inr (by unfold slices_IndexFunc___api_Field_api_Field___schema_ByNumber_1_b1; rw [itF (by simp)])) (fun i hi => by
    by_cases hp : (m.Fields[i].Number == n) = true
    · rw [if_pos hp]; exact slices_IndexFunc___api_Field_api_Field___schema_ByNumber_1_l1_inr (by unfold slices_IndexFunc___api_Field_api_Field___schema_ByNumber_1_b1 schema_ByNumber_1; rw [itT (by simp; omega), idx_of rfl hi, sb, sb, itT hp])
    · rw [if_neg hp]; exact slices_IndexFunc___api_Field_api_Field___schema_ByNumber_1_l1_inl (by unfold slices_IndexFunc___api_Field_api_Field___schema_ByNumber_1_b1 schema_ByNumber_1; rw [itT (by simp; omega), idx_of rfl hi, sb, sb, itF (eq_false_of_ne_true hp), wrap_i64 (by omega)]; rfl)) m.Fields.length 0 (by omega) (fun j _ h => by omega)
  have h' : slices_IndexFunc___api_Field_api_Field___schema_ByNumber_1_l1 m.Fields n 0 = _ := h
  rw [h', sb]
  cases m.Fields.findIdx? (fun f : Fld => f.Number == n) with
  | none => rfl
  | some i => simp [sb]; omega
theorem byName_is {m : Mes} (hm : m.Fields.length ≤ 140737488351232) (n : Str) : schema_ByName m n = some (match m.Fields.findIdx? (fun f => f.Name == n) with | some i => ((i : Int), true) | none => (0, false)) := by
  unfold schema_ByName schema_first__schema_ByName_1 slices_IndexFunc___api_Field_api_Field___schema_ByName_1
  have h := find_loop (fun f : Fld => f.Name == n) m.Fields (fun i => slices_IndexFunc___api_Field_api_Field___schema_ByName_1_l1 m.Fields n i) (slices_IndexFunc___api_Field_api_Field___schema_ByName_1_l1_inr (by unfold slices_IndexFunc___api_Field_api_Field___schema_ByName_1_b1; rw [itF (by simp)])) (fun i hi => by
    by_cases hp : (m.Fields[i].Name == n) = true
    · rw [if_pos hp]; exact slices_IndexFunc___api_Field_api_Field___schema_ByName_1_l1_inr (by unfold slices_IndexFunc___api_Field_api_Field___schema_ByName_1_b1 schema_ByName_1; rw [itT (by simp; omega), idx_of rfl hi, sb, sb, itT hp])
    · rw [if_neg hp]; exact slices_IndexFunc___api_Field_api_Field___schema_ByName_1_l1_inl (by unfold slices_IndexFunc___api_Field_api_Field___schema_ByName_1_b1 schema_ByName_1; rw [itT (by simp; omega), idx_of rfl hi, sb, sb, itF (eq_false_of_ne_true hp), wrap_i64 (by omega)]; rfl)) m.Fields.length 0 (by omega) (fun j _ h => by omega)
  have h' : slices_IndexFunc___api_Field_api_Field___schema_ByName_1_l1 m.Fields n 0 = _ := h
  rw [h', sb]
  cases m.Fields.findIdx? (fun f : Fld => f.Name == n) with
  | none => rfl
  | some i => simp [sb]; omega
def isLast (n : Nat) (f : Fld) : Bool := f.Kind == 17 && f.Of == ((n - 1 : Nat) : Int)
theorem each_l2 {s : List Mes} {i : Nat} {m : Mes} (hs : s.length ≤ 140737488351232) (hi : i < s.length) (hm : s[i] = m) (hb : m.Fields.length ≤ 140737488351232) (hnum : ∀ (a b : Nat) (f g : Fld), a < b → m.Fields[a]? = some f → m.Fields[b]? = some g → f.Number ≠ g.Number ∧ f.Name ≠ g.Name) :
    ∀ (d j : Nat) (u : Bool), j + d = m.Fields.length → darninglaw07_SchemaEach_l2 i s u j = some (.inl (u || (decide (i < s.length - 1) && (m.Fields.drop j).any (isLast s.length)))) := by
  have e1 : idx s (i : Int) = some m := by rw [idx_of rfl hi, hm]
  intro d
  induction d with
  | zero =>
    intro j u hj
    refine darninglaw07_SchemaEach_l2_inr ?_
    unfold darninglaw07_SchemaEach_b2
    rw [e1, sb, itF (by simp; omega), List.drop_eq_nil_of_le (by omega)]
    simp
  | succ d ih =>
    intro j u hj
    have hjl : j < m.Fields.length := by omega
    have hf1 : m.Fields.findIdx? (fun f => f.Number == m.Fields[j].Number) = some j := find_first hjl (by simp) fun a ha hlt => by
      have := (hnum a j _ _ hlt (List.getElem?_eq_getElem ha) (List.getElem?_eq_getElem hjl)).1
      simpa using this
    have hf2 : m.Fields.findIdx? (fun f => f.Name == m.Fields[j].Name) = some j := find_first hjl (by simp) fun a ha hlt => by
      have := (hnum a j _ _ hlt (List.getElem?_eq_getElem ha) (List.getElem?_eq_getElem hjl)).2
      simpa using this
    have hstep : darninglaw07_SchemaEach_b2 i s u j = some (.inl (u || (decide (i < s.length - 1) && isLast s.length m.Fields[j]), ((j + 1 : Nat) : Int))) := by
      unfold darninglaw07_SchemaEach_b2
      rw [e1, sb, itT (by simp; omega), sb, idx_of rfl hjl, sb, sb, byNumber_is hb, sb, sb, byName_is hb, sb, hf1, hf2]
      dsimp only
      rw [itF (by simp), wrap_i64 (x := (j : Int) + 1) (by omega), wrap_i64 (by omega)]
      have c1 : decide ((i : Int) < (s.length : Int) - 1) = decide (i < s.length - 1) := by rw [Bool.eq_iff_iff]; simp; omega
      have c2 : (m.Fields[j].Of == (s.length : Int) - 1) = (m.Fields[j].Of == ((s.length - 1 : Nat) : Int)) := by
        have : ((s.length : Int) - 1) = ((s.length - 1 : Nat) : Int) := by omega
        rw [this]
      rw [c1, c2]
      rfl
    rw [darninglaw07_SchemaEach_l2_inl hstep, ih (j + 1) _ (by omega), List.drop_eq_getElem_cons hjl, List.any_cons]
    cases u <;> cases decide (i < s.length - 1) <;> cases isLast s.length m.Fields[j] <;> simp
theorem each_l1 {s : List Mes} (hw : WS s) (hr : Right7 s) : ∀ (d i : Nat) (u : Bool), i + d = s.length → ∃ u', darninglaw07_SchemaEach_l1 s u i = some (.inl u') ∧ (u' = false → u = false ∧ ∀ (j : Nat) (m : Mes), i ≤ j → j < s.length - 1 → s[j]? = some m → ∀ f ∈ m.Fields, isLast s.length f = false) := by
  obtain ⟨w1, w2⟩ := hw
  intro d
  induction d with
  | zero =>
    intro i u hi
    refine ⟨u, darninglaw07_SchemaEach_l1_inr ?_, fun h => ⟨h, fun j m h1 h2 => by omega⟩⟩
    unfold darninglaw07_SchemaEach_b1
    rw [itF (by simp; omega)]
  | succ d ih =>
    intro i u hi
    have hil : i < s.length := by omega
    obtain ⟨m1, m2, m3⟩ := w2 s[i] (List.getElem_mem hil)
    have hf : s.findIdx? (fun m => m.Name == s[i].Name) = some i := find_first hil (by simp) fun a ha hlt => by
      have := hr.names a i _ _ hlt (List.getElem?_eq_getElem ha) (List.getElem?_eq_getElem hil)
      simpa using this
    have h2 := each_l2 (s := s) (i := i) (m := s[i]) w1 hil rfl m2 (hr.nums _ (List.getElem_mem hil)) s[i].Fields.length 0 u (by omega)
    have h2' : darninglaw07_SchemaEach_l2 i s u 0 = _ := h2
    obtain ⟨u', hu1, hu2⟩ := ih (i + 1) (u || (decide (i < s.length - 1) && (s[i].Fields.drop 0).any (isLast s.length))) (by omega)
    refine ⟨u', (darninglaw07_SchemaEach_l1_inl (i' := ((i + 1 : Nat) : Int)) ?_).trans hu1, fun h => ?_⟩
    · unfold darninglaw07_SchemaEach_b1
      rw [itT (by simp; omega), idx_of rfl hil, sb, message7_is w1, sb, hf]
      dsimp only
      rw [itF (by simp [wrap_i64]), h2', sb]
      dsimp only
      rw [wrap_i64 (by omega)]
      rfl
    · obtain ⟨q1, q2⟩ := hu2 h
      rw [Bool.or_eq_false_iff] at q1
      refine ⟨q1.1, fun j m hj1 hj2 hm f hfm => ?_⟩
      rcases Nat.lt_or_ge i j with hlt | hge
      · exact q2 j m hlt hj2 hm f hfm
      · have : j = i := by omega
        subst this
        have e : s[j] = m := (List.getElem?_eq_some_iff.1 hm).2
        have := q1.2
        rw [decide_eq_true hj2, Bool.true_and, List.drop_zero, e] at this
        exact any_false this hfm
theorem SchemaEach_true (a0 : (List T_Name_Fields)) (w0 : a0.length * 40 ≤ 140737488351232 ∧ ∀ a0' ∈ a0, W_Name_Fields a0') : darninglaw07_SchemaEach a0 = some true := by
  have hw := ws_of w0
  unfold darninglaw07_SchemaEach
  rw [alive7_is, sb, itF (show (!true) = false from rfl)]
  obtain ⟨b, hb⟩ := few_is hw
  rw [hb, sb]
  cases b with
  | false => rfl
  | true =>
    rw [itF (show (!true) = false from rfl), right_is hw, sb]
    cases hr : rightS a0 with
    | false => rfl
    | true =>
      have hR := right7_of hr
      obtain ⟨u, hu1, hu2⟩ := each_l1 hw hR a0.length 0 false (by omega)
      have hu1' : darninglaw07_SchemaEach_l1 a0 false 0 = _ := hu1
      rw [sb, itF (show (!true) = false from rfl), hu1', sb]
      dsimp only
      cases u with
      | true => rfl
      | false =>
        have hlen := hR.len
        rw [itF rfl, wrap_i64 (by omega)]
        by_cases h1 : a0.length = 1
        · rw [itT (by rw [h1]; rfl)]; rfl
        · have hcut : cut a0 0 ((a0.length : Int) - 1) = some ((a0.drop 0).take (a0.length - 1 - 0)) := cut_of (a := 0) (b := a0.length - 1) rfl (by omega) (by omega) (by omega)
          rw [itF (by simp; omega), hcut, sb]
          have hless := less_last hr (by omega) fun i m hi hm f hf => by
            have := (hu2 rfl).2 i m (by omega) hi hm f hf
            unfold isLast at this
            rintro ⟨e1, e2⟩
            rw [e1, e2] at this
            simp at this
          have hw2 : WS (a0.take (a0.length - 1)) := ⟨by simp; have := hw.1; omega, fun m hm => hw.2 m (List.mem_of_mem_take hm)⟩
          rw [List.drop_zero, Nat.sub_zero, right_is hw2, hless]
          rfl
end Go.Proofs.Ytnchbppkppbflaa
