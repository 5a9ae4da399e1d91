/-
  The laws as plain functions. No condition.
-/
import Derived.Test.YtnchbppkppbflaaP1
import Derived.Test.YtnchbppkppbflaaO
namespace Go.Proofs.Ytnchbppkppbflaa
open Go
set_option linter.unusedVariables false
theorem ws_of {s : List Mes} (w : s.length * 40 ≤ 140737488351232 ∧ ∀ m ∈ s, W_Name_Fields m) : WS s :=
  ⟨by omega, fun m hm => ⟨(w.2 m hm).1, by have := (w.2 m hm).2.1; omega, fun f hf => ((w.2 m hm).2.2 f hf).1⟩⟩
theorem message7_is {s : List Mes} (hs : s.length ≤ 140737488351232) (name : Str) : schema_Message s name = some (match s.findIdx? (fun m => m.Name == name) with | some i => ((i : Int), 0) | none => (0, 11)) := by
  unfold schema_Message slices_IndexFunc_api_Schema_api_Message___schema_Message_1
  have h := find_loop (fun m : Mes => m.Name == name) s (fun i => slices_IndexFunc_api_Schema_api_Message___schema_Message_1_l1 s name i) (slices_IndexFunc_api_Schema_api_Message___schema_Message_1_l1_inr (by unfold slices_IndexFunc_api_Schema_api_Message___schema_Message_1_b1; rw [itF (by simp)])) (fun i hi => by
    by_cases hp : (s[i].Name == name) = true
    · rw [if_pos hp]; exact slices_IndexFunc_api_Schema_api_Message___schema_Message_1_l1_inr (by unfold slices_IndexFunc_api_Schema_api_Message___schema_Message_1_b1 schema_Message_1; rw [itT (by simp; omega), idx_of rfl hi, sb, sb, itT hp])
    · rw [if_neg hp]; exact slices_IndexFunc_api_Schema_api_Message___schema_Message_1_l1_inl (by unfold slices_IndexFunc_api_Schema_api_Message___schema_Message_1_b1 schema_Message_1; rw [itT (by simp; omega), idx_of rfl hi, sb, sb, itF (eq_false_of_ne_true hp), wrap_i64 (by omega)]; rfl)) s.length 0 (by omega) (fun j _ h => by omega)
  have h' : slices_IndexFunc_api_Schema_api_Message___schema_Message_1_l1 s name 0 = _ := h
  rw [h', sb]
  cases s.findIdx? (fun m : Mes => m.Name == name) with
  | none => rfl
  | some i =>
    simp only [sb]
    rw [itF (by simp)]
theorem byNumber_is {m : Mes} (hm : m.Fields.length ≤ 140737488351232) (n : Int) : schema_ByNumber m n = some (match m.Fields.findIdx? (fun f => f.Number == n) with | some i => ((i : Int), true) | none => (0, false)) := by
  unfold schema_ByNumber schema_first__schema_ByNumber_1 slices_IndexFunc___api_Field_api_Field___schema_ByNumber_1
  have h := find_loop (fun f : Fld => f.Number == n) m.Fields (fun i => slices_IndexFunc___api_Field_api_Field___schema_ByNumber_1_l1 m.Fields n i) (slices_IndexFunc___api_Field_api_Field___schema_ByNumber_1_l1_inr (by unfold slices_IndexFunc___api_Field_api_Field___schema_ByNumber_1_b1; rw [itF (by simp)])) (fun i hi => by
    by_cases hp : (m.Fields[i].Number == n) = true
    · rw [if_pos hp]; exact slices_IndexFunc___api_Field_api_Field___schema_ByNumber_1_l1_inr (by unfold slices_IndexFunc___api_Field_api_Field___schema_ByNumber_1_b1 schema_ByNumber_1; rw [itT (by simp; omega), idx_of rfl hi, sb, sb, itT hp])
    · rw [if_neg hp]; exact slices_IndexFunc___api_Field_api_Field___schema_ByNumber_1_l1_inl (by unfold slices_IndexFunc___api_Field_api_Field___schema_ByNumber_1_b1 schema_ByNumber_1; rw [itT (by simp; omega), idx_of rfl hi, sb, sb, itF (eq_false_of_ne_true hp), wrap_i64 (by omega)]; rfl)) m.Fields.length 0 (by omega) (fun j _ h => by omega)
  have h' : slices_IndexFunc___api_Field_api_Field___schema_ByNumber_1_l1 m.Fields n 0 = _ := h
  rw [h', sb]
  cases m.Fields.findIdx? (fun f : Fld => f.Number == n) with
  | none => rfl
  | some i => simp [sb]; omega
theorem byName_is {m : Mes} (hm : m.Fields.length ≤ 140737488351232) (n : Str) : schema_ByName m n = some (match m.Fields.findIdx? (fun f => f.Name == n) with | some i => ((i : Int), true) | none => (0, false)) := by
  unfold schema_ByName schema_first__schema_ByName_1 slices_IndexFunc___api_Field_api_Field___schema_ByName_1
  have h := find_loop (fun f : Fld => f.Name == n) m.Fields (fun i => slices_IndexFunc___api_Field_api_Field___schema_ByName_1_l1 m.Fields n i) (slices_IndexFunc___api_Field_api_Field___schema_ByName_1_l1_inr (by unfold slices_IndexFunc___api_Field_api_Field___schema_ByName_1_b1; rw [itF (by simp)])) (fun i hi => by
    by_cases hp : (m.Fields[i].Name == n) = true
    · rw [if_pos hp]; exact slices_IndexFunc___api_Field_api_Field___schema_ByName_1_l1_inr (by unfold slices_IndexFunc___api_Field_api_Field___schema_ByName_1_b1 schema_ByName_1; rw [itT (by simp; omega), idx_of rfl hi, sb, sb, itT hp])
    · rw [if_neg hp]; exact slices_IndexFunc___api_Field_api_Field___schema_ByName_1_l1_inl (by unfold slices_IndexFunc___api_Field_api_Field___schema_ByName_1_b1 schema_ByName_1; rw [itT (by simp; omega), idx_of rfl hi, sb, sb, itF (eq_false_of_ne_true hp), wrap_i64 (by omega)]; rfl)) m.Fields.length 0 (by omega) (fun j _ h => by omega)
  have h' : slices_IndexFunc___api_Field_api_Field___schema_ByName_1_l1 m.Fields n 0 = _ := h
  rw [h', sb]
  cases m.Fields.findIdx? (fun f : Fld => f.Name == n) with
  | none => rfl
  | some i => simp [sb]; omega
theorem finds_l1 {s : List Mes} {name : Str} (hs : s.length ≤ 140737488351232) : ∀ (k : Nat) (want : Int), k ≤ s.length → darninglaw07_SchemaFinds_l1 name s want ((k : Int) - 1) = some (match (s.take k).findIdx? (fun m => m.Name == name) with | some i => (i : Int) | none => want) := by
  intro k
  induction k with
  | zero =>
    intro want h
    refine darninglaw07_SchemaFinds_l1_inr ?_
    unfold darninglaw07_SchemaFinds_b1
    rw [itF (by simp)]
    rfl
  | succ k ih =>
    intro want h
    have hk : k < s.length := by omega
    have e : ((k + 1 : Nat) : Int) - 1 = (k : Int) := by omega
    have hb : darninglaw07_SchemaFinds_b1 name s want (((k + 1 : Nat) : Int) - 1) = some (.inl (if (s[k].Name == name) = true then (k : Int) else want, (k : Int) - 1)) := by
      unfold darninglaw07_SchemaFinds_b1
      rw [e, itT (by simp), idx_of rfl hk, sb, wrap_i64 (by omega)]
      by_cases hp : (s[k].Name == name) = true
      · rw [itT hp, if_pos hp]
      · rw [itF (eq_false_of_ne_true hp), if_neg hp]
    rw [darninglaw07_SchemaFinds_l1_inl hb, ih _ (by omega), List.take_succ_eq_append_getElem hk, List.findIdx?_append]
    cases hc : (s.take k).findIdx? (fun m => m.Name == name) with
    | some i => rfl
    | none =>
      by_cases hp : (s[k].Name == name) = true
      · have hl : (s.take k).length = k := by simp; omega
        rw [if_pos hp]
        simp [List.findIdx?_cons, hp, Nat.min_eq_left (Nat.le_of_lt hk)]
      · rw [if_neg hp]
        simp [List.findIdx?_cons, hp]
theorem SchemaFinds_true (a0 : (List T_Name_Fields)) (a1 : (List T_Name_Fields)) (a2 : T_Name_Fields) (a3 : Str) (a4 : Int) (w0 : a0.length * 40 ≤ 140737488351232 ∧ ∀ a0' ∈ a0, W_Name_Fields a0') (w1 : a1.length * 40 ≤ 140737488351232 ∧ ∀ a1' ∈ a1, W_Name_Fields a1') (w2 : W_Name_Fields a2) (w3 : a3.length ≤ 140737488351232) (w4 : (Lit.int .i64 a4).wf = true) : ∃ fuel, darninglaw07_SchemaFinds fuel a0 a1 a2 a3 a4 = some true := by
  refine ⟨a2.Fields.length, ?_⟩
  have hw := ws_of w0
  have hw1 := ws_of w1
  unfold darninglaw07_SchemaFinds
  rw [alive7_is, sb, itF (show (!true) = false from rfl)]
  obtain ⟨b, hb⟩ := few_is hw
  obtain ⟨b1, hb1⟩ := few_is hw1
  rw [hb, sb]
  cases b with
  | false => rfl
  | true =>
    rw [itF (show (!true) = false from rfl), hb1, sb]
    cases b1 with
    | false => rfl
    | true =>
      rw [itF (show (!true) = false from rfl)]
      by_cases hm : a2.Fields.length ≤ 300
      · rw [itF (show decide ((a2.Fields.length : Int) > 300) = false by simp; omega), sb]
        by_cases hn : (a3.length : Int) > 200
        · rw [itT (decide_eq_true hn)]
        · have hs := hw.1
          have hl := finds_l1 (s := a0) (name := a3) hs a0.length (-1) (Nat.le_refl _)
          rw [itF (decide_eq_false hn), message7_is hs, sb, wrap_i64 (x := (a0.length : Int) - 1) (by omega), hl, sb, List.take_length]
          rw [itF (by cases a0.findIdx? (fun m => m.Name == a3) with
            | none => rfl
            | some i =>
              dsimp only
              rw [if_neg (show ¬ ((i : Int) < 0) by omega)]
              simp [wrap_i64])]
          rw [byNumber_is (by omega), sb, byName_is (by omega), sb, refField_is (by omega), sb, refNamed_is (by omega), sb]
          unfold fldI nmdI firstI
          rw [itT (by cases a2.Fields.findIdx? (fun f : Fld => f.Number == a4) with
            | none => rfl
            | some i =>
              dsimp only
              rw [if_neg (show ¬ ((i : Int) < 0) by omega)]
              simp)]
          rw [itT (by cases a2.Fields.findIdx? (fun f : Fld => f.Number == a4) with
            | none => rfl
            | some i => simp)]
          rw [itT (by cases a2.Fields.findIdx? (fun f : Fld => f.Name == a3) with
            | none => rfl
            | some i =>
              dsimp only
              rw [if_neg (show ¬ ((i : Int) < 0) by omega)]
              simp)]
          rw [itT (by cases a2.Fields.findIdx? (fun f : Fld => f.Name == a3) with
            | none => rfl
            | some i => simp)]
          rw [schemaSorted_is (by omega), sb, refSorted_is (by omega), sb, refInts_is (by rw [sortS_len]; omega), sb, itT (decide_eq_true rfl), same7_is hw, sb, refSame07_is hw, sb, itT (by simp), copy7_is w0.1 (fun x hx => (w0.2 x hx).2.1), sb, refSame07_is hw, sb, sb, decide_eq_true rfl]
      · rw [itT (show decide ((a2.Fields.length : Int) > 300) = true by simp; omega), sb]
        rfl
end Go.Proofs.Ytnchbppkppbflaa
