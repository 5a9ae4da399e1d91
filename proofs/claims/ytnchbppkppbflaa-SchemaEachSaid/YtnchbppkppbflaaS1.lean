/-
  What the Go functions do, as plain functions. No condition.
-/
import Derived.Test.YtnchbppkppbflaaK2
namespace Go.Proofs.Ytnchbppkppbflaa
open Go
set_option linter.unusedVariables false
abbrev Str := List UInt8
structure T_name_wire where
  name : Str
  wire : Int deriving DecidableEq
def R_name_wire : Rp T_name_wire := ⟨2, true, fun x => [.str x.name, .int .i64 x.wire], fun _ => rfl, by decide⟩
structure T_Name_Number_Kind_Repeated_Packed_Of where
  Name : Str
  Number : Int
  Kind : Int
  Repeated : Bool
  Packed : Bool
  Of : Int deriving DecidableEq
def R_Name_Number_Kind_Repeated_Packed_Of : Rp T_Name_Number_Kind_Repeated_Packed_Of := ⟨6, true, fun x => [.str x.Name, .int .i64 x.Number, .int .i64 x.Kind, .bool x.Repeated, .bool x.Packed, .int .i64 x.Of], fun _ => rfl, by decide⟩
structure T_Name_Fields where
  Name : Str
  Fields : (List T_Name_Number_Kind_Repeated_Packed_Of) deriving DecidableEq
def R_Name_Fields : Rp T_Name_Fields := ⟨2, true, fun x => [.str x.Name, .sl x.Fields.length R_Name_Number_Kind_Repeated_Packed_Of.size (x.Fields.flatMap R_Name_Number_Kind_Repeated_Packed_Of.lv)], fun _ => rfl, by decide⟩
structure T_Number_Wire where
  Number : Int
  Wire : Int deriving DecidableEq
structure T_Number_Wire_From_At_To where
  Number : Int
  Wire : Int
  From : Int
  At : Int
  To : Int deriving DecidableEq
structure T_message_name where
  message : Int
  name : Str deriving DecidableEq
def R_message_name : Rp T_message_name := ⟨2, true, fun x => [.int .i64 x.message, .str x.name], fun _ => rfl, by decide⟩
structure T_message_number where
  message : Int
  number : Int deriving DecidableEq
def R_message_number : Rp T_message_number := ⟨2, true, fun x => [.int .i64 x.message, .int .i64 x.number], fun _ => rfl, by decide⟩
structure T_size_kinds_names_numbers where
  size : Int
  kinds : (List Int)
  names : (List (T_message_name × Bool))
  numbers : (List (T_message_number × Bool))
structure T_Message_Field_What where
  Message : Int
  Field : Int
  What : Int deriving DecidableEq
def R_Message_Field_What : Rp T_Message_Field_What := ⟨3, true, fun x => [.int .i64 x.Message, .int .i64 x.Field, .int .i64 x.What], fun _ => rfl, by decide⟩
end Go.Proofs.Ytnchbppkppbflaa
namespace Go.Proofs.Ytnchbppkppbflaa
open Go
set_option linter.unusedVariables false
noncomputable section
def slices_Index___int_int__b1 (sv : (List Int)) (v : Int) (v2 : Int) : Option (Int ⊕ (Unit ⊕ Int)) :=
 if (decide (v2 < (sv.length : Int))) then (
  idx sv v2 >>= fun x =>
  if (v == x) then (
   some (.inr (.inr v2))
  ) else (
   some (.inl (IntKind.i64.wrap (v2 + 1)))
  )
 ) else (
  some (.inr (.inl ()))
 )
def slices_Index___int_int__l1 (sv : (List Int)) (v : Int) (v2 : Int) : Option (Unit ⊕ Int) := whileO (fun s : Int => slices_Index___int_int__b1 sv v s) v2
def slices_Index___int_int_ (sv : (List Int)) (v : Int) : Option Int :=
 slices_Index___int_int__l1 sv v 0 >>= fun q =>
 match q with
 | .inl u => (
  some (-1)
 )
 | .inr u2 => (
  some u2
 )
theorem slices_Index___int_int__l1_inl {sv : (List Int)} {v : Int} {v2 : Int} {v2' : Int} (h : slices_Index___int_int__b1 sv v v2 = some (.inl v2')) : slices_Index___int_int__l1 sv v v2 = slices_Index___int_int__l1 sv v v2' := whileO_inl (body := fun s : Int => slices_Index___int_int__b1 sv v s) h
theorem slices_Index___int_int__l1_inr {sv : (List Int)} {v : Int} {v2 : Int} {oo_ : (Unit ⊕ Int)} (h : slices_Index___int_int__b1 sv v v2 = some (.inr oo_)) : slices_Index___int_int__l1 sv v v2 = some oo_ := whileO_inr (body := fun s : Int => slices_Index___int_int__b1 sv v s) h
def slices_Contains___int_int_ (sv : (List Int)) (v : Int) : Option Bool :=
 slices_Index___int_int_ sv v >>= fun rv =>
 some (decide (rv ≥ 0))
end
end Go.Proofs.Ytnchbppkppbflaa
namespace Go.Proofs.Ytnchbppkppbflaa
open Go
set_option linter.unusedVariables false
noncomputable section
def kind_kinds  : Option (List (Int × T_name_wire)) :=
 some (mput (mput (mput (mput (mput (mput (mput (mput (mput (mput (mput (mput (mput (mput (mput (mput (mput ([] : (List (Int × T_name_wire))) 1 (⟨[105, 110, 116, 51, 50], 0⟩ : T_name_wire)) 2 (⟨[105, 110, 116, 54, 52], 0⟩ : T_name_wire)) 3 (⟨[117, 105, 110, 116, 51, 50], 0⟩ : T_name_wire)) 4 (⟨[117, 105, 110, 116, 54, 52], 0⟩ : T_name_wire)) 5 (⟨[115, 105, 110, 116, 51, 50], 0⟩ : T_name_wire)) 6 (⟨[115, 105, 110, 116, 54, 52], 0⟩ : T_name_wire)) 7 (⟨[98, 111, 111, 108], 0⟩ : T_name_wire)) 8 (⟨[101, 110, 117, 109], 0⟩ : T_name_wire)) 9 (⟨[102, 105, 120, 101, 100, 51, 50], 5⟩ : T_name_wire)) 10 (⟨[115, 102, 105, 120, 101, 100, 51, 50], 5⟩ : T_name_wire)) 11 (⟨[102, 108, 111, 97, 116], 5⟩ : T_name_wire)) 12 (⟨[102, 105, 120, 101, 100, 54, 52], 1⟩ : T_name_wire)) 13 (⟨[115, 102, 105, 120, 101, 100, 54, 52], 1⟩ : T_name_wire)) 14 (⟨[100, 111, 117, 98, 108, 101], 1⟩ : T_name_wire)) 15 (⟨[115, 116, 114, 105, 110, 103], 2⟩ : T_name_wire)) 16 (⟨[98, 121, 116, 101, 115], 2⟩ : T_name_wire)) 17 (⟨[109, 101, 115, 115, 97, 103, 101], 2⟩ : T_name_wire))
def kind_All  : Option (List Int) :=
 kind_kinds >>= fun rv =>
 keysO rv >>= fun v =>
 some v
def kind_Wire (k : Int) : Option (Int × Int) :=
 kind_kinds >>= fun rv =>
 if (!(mget rv k).isSome) then (
  some (0, 2)
 ) else (
  some (((mget rv k).getD (⟨[], 0⟩ : T_name_wire)).wire, 0)
 )
def darningref06_Right (k : Int) : Option Bool :=
 some ((decide (k ≥ 1)) && (decide (k ≤ 17)))
def kind_Number (k : Int) : Option Bool :=
 kind_Wire k >>= fun rv =>
 some ((rv.2 == 0) && (rv.1 != 2))
def darningref06_Number (k : Int) : Option Bool :=
 some ((decide (k ≥ 1)) && (decide (k ≤ 14)))
end
end Go.Proofs.Ytnchbppkppbflaa
namespace Go.Proofs.Ytnchbppkppbflaa
open Go
set_option linter.unusedVariables false
noncomputable section
def schema_isDigit (c : Int) : Option Bool :=
 some ((decide (c ≥ 48)) && (decide (c ≤ 57)))
def schema_isLetter (c : Int) : Option Bool :=
 some (if (decide (c ≥ 97)) then ((decide (c ≤ 122)) || (if (decide (c ≥ 65)) then ((decide (c ≤ 90)) || (c == 95)) else (c == 95))) else (if (decide (c ≥ 65)) then ((decide (c ≤ 90)) || (c == 95)) else (c == 95)))
def schema_isName_b1 (name : Str) (v2 : Int) : Option (Int ⊕ (Unit ⊕ Unit)) :=
 if (decide (v2 < (name.length : Int))) then (
  (
   idx name v2 >>= fun c2 =>
   schema_isLetter (c2.toNat : Int) >>= fun rv2 =>
   if (!rv2) then (
    idx name v2 >>= fun c3 =>
    schema_isDigit (c3.toNat : Int) >>= fun rv3 =>
    some (!rv3)
   ) else (
    some false
   )
  ) >>= fun g2 =>
  if g2 then (
   some (.inr (.inr ()))
  ) else (
   some (.inl (IntKind.i64.wrap (v2 + 1)))
  )
 ) else (
  some (.inr (.inl ()))
 )
def schema_isName_l1 (name : Str) (v2 : Int) : Option (Unit ⊕ Unit) := whileO (fun s : Int => schema_isName_b1 name s) v2
def schema_isName (name : Str) : Option Bool :=
 (
  if (name == []) then (
   some true
  ) else (
   if (decide ((name.length : Int) > 60)) then (
    some true
   ) else (
    idx name 0 >>= fun c =>
    schema_isDigit (c.toNat : Int) >>= fun rv =>
    some rv
   )
  )
 ) >>= fun g =>
 if g then (
  some false
 ) else (
  schema_isName_l1 name 0 >>= fun q =>
  match q with
  | .inl u => (
   some true
  )
  | .inr u2 => (
   some false
  )
 )
theorem schema_isName_l1_inl {name : Str} {v2 : Int} {v2' : Int} (h : schema_isName_b1 name v2 = some (.inl v2')) : schema_isName_l1 name v2 = schema_isName_l1 name v2' := whileO_inl (body := fun s : Int => schema_isName_b1 name s) h
theorem schema_isName_l1_inr {name : Str} {v2 : Int} {oo_ : (Unit ⊕ Unit)} (h : schema_isName_b1 name v2 = some (.inr oo_)) : schema_isName_l1 name v2 = some oo_ := whileO_inr (body := fun s : Int => schema_isName_b1 name s) h
def schema_isNumber (n : Int) : Option Bool :=
 some ((decide (n ≥ 1)) && ((decide (n ≤ 536870911)) && ((decide (n < 19000)) || (decide (n > 19999)))))
def schema_mayPack (f : T_Name_Number_Kind_Repeated_Packed_Of) : Option Bool :=
 (
  if f.Repeated then (
   kind_Number f.Kind >>= fun rv =>
   some rv
  ) else (
   some false
  )
 ) >>= fun g =>
 some g
def schema_check_leads (c : T_size_kinds_names_numbers) (f : T_Name_Number_Kind_Repeated_Packed_Of) : Option Bool :=
 if (f.Kind == 17) then (
  some ((decide (f.Of ≥ 0)) && (decide (f.Of < c.size)))
 ) else (
  some (f.Of == 0)
 )
def schema_check_field (c : T_size_kinds_names_numbers) (message : Int) (f : T_Name_Number_Kind_Repeated_Packed_Of) : Option (Int × (List (T_message_name × Bool)) × (List (T_message_number × Bool))) :=
 schema_isName f.Name >>= fun rv =>
 if (!rv) then (
  some (5, c.names, c.numbers)
 ) else (
  if ((mget c.names (⟨message, f.Name⟩ : T_message_name)).getD false) then (
   some (6, c.names, c.numbers)
  ) else (
   schema_isNumber f.Number >>= fun rv2 =>
   if (!rv2) then (
    some (7, c.names, c.numbers)
   ) else (
    if ((mget c.numbers (⟨message, f.Number⟩ : T_message_number)).getD false) then (
     some (8, c.names, c.numbers)
    ) else (
     slices_Contains___int_int_ c.kinds f.Kind >>= fun rv3 =>
     if (!rv3) then (
      some (9, c.names, c.numbers)
     ) else (
      (
       if f.Packed then (
        schema_mayPack f >>= fun rv4 =>
        some (!rv4)
       ) else (
        some false
       )
      ) >>= fun g =>
      if g then (
       some (10, c.names, c.numbers)
      ) else (
       schema_check_leads c f >>= fun rv5 =>
       if (!rv5) then (
        some (11, c.names, c.numbers)
       ) else (
        some (0, (mput c.names (⟨message, f.Name⟩ : T_message_name) true), (mput c.numbers (⟨message, f.Number⟩ : T_message_number) true))
       )
      )
     )
    )
   )
  )
 )
def schema_check_message (c : T_size_kinds_names_numbers) (m : T_Name_Fields) : Option (Int × (List (T_message_name × Bool)) × (List (T_message_number × Bool))) :=
 schema_isName m.Name >>= fun rv =>
 if (!rv) then (
  some (2, c.names, c.numbers)
 ) else (
  if ((mget c.names (⟨(-1), m.Name⟩ : T_message_name)).getD false) then (
   some (3, c.names, c.numbers)
  ) else (
   if (decide ((m.Fields.length : Int) > 200)) then (
    some (4, c.names, c.numbers)
   ) else (
    some (0, (mput c.names (⟨(-1), m.Name⟩ : T_message_name) true), c.numbers)
   )
  )
 )
def darninglaw07_Few_b2 (i : Int) (sv : (List T_Name_Fields)) (n3 : Int) (k : Int) : Option ((Int × Int) ⊕ Int) :=
 idx sv i >>= fun x3 =>
 if (decide (k < (x3.Fields.length : Int))) then (
  idx sv i >>= fun x4 =>
  idx x4.Fields k >>= fun x5 =>
  some (.inl ((IntKind.i64.wrap (n3 + (IntKind.i64.wrap (Int.tdiv (x5.Name.length : Int) 100)))), (IntKind.i64.wrap (k + 1))))
 ) else (
  some (.inr n3)
 )
def darninglaw07_Few_l2 (i : Int) (sv : (List T_Name_Fields)) (n3 : Int) (k : Int) : Option Int := whileO (fun s : (Int × Int) => darninglaw07_Few_b2 i sv s.1 s.2) (n3, k)
def darninglaw07_Few_b1 (sv : (List T_Name_Fields)) (n : Int) (i : Int) : Option ((Int × Int) ⊕ Int) :=
 if (decide (i < (sv.length : Int))) then (
  idx sv i >>= fun x =>
  idx sv i >>= fun x2 =>
  darninglaw07_Few_l2 i sv (IntKind.i64.wrap ((IntKind.i64.wrap ((IntKind.i64.wrap (n + 1)) + (IntKind.i64.wrap (Int.tdiv (x.Name.length : Int) 100)))) + (x2.Fields.length : Int))) 0 >>= fun q =>
  some (.inl (q, (IntKind.i64.wrap (i + 1))))
 ) else (
  some (.inr n)
 )
def darninglaw07_Few_l1 (sv : (List T_Name_Fields)) (n : Int) (i : Int) : Option Int := whileO (fun s : (Int × Int) => darninglaw07_Few_b1 sv s.1 s.2) (n, i)
def darninglaw07_Few (sv : (List T_Name_Fields)) : Option Bool :=
 darninglaw07_Few_l1 sv 0 0 >>= fun q2 =>
 some (decide (q2 ≤ 500))
theorem darninglaw07_Few_l2_inl {i : Int} {sv : (List T_Name_Fields)} {n3 : Int} {k : Int} {n3' : Int} {k' : Int} (h : darninglaw07_Few_b2 i sv n3 k = some (.inl (n3', k'))) : darninglaw07_Few_l2 i sv n3 k = darninglaw07_Few_l2 i sv n3' k' := whileO_inl (body := fun s : (Int × Int) => darninglaw07_Few_b2 i sv s.1 s.2) h
theorem darninglaw07_Few_l2_inr {i : Int} {sv : (List T_Name_Fields)} {n3 : Int} {k : Int} {oo_ : Int} (h : darninglaw07_Few_b2 i sv n3 k = some (.inr oo_)) : darninglaw07_Few_l2 i sv n3 k = some oo_ := whileO_inr (body := fun s : (Int × Int) => darninglaw07_Few_b2 i sv s.1 s.2) h
theorem darninglaw07_Few_l1_inl {sv : (List T_Name_Fields)} {n : Int} {i : Int} {n' : Int} {i' : Int} (h : darninglaw07_Few_b1 sv n i = some (.inl (n', i'))) : darninglaw07_Few_l1 sv n i = darninglaw07_Few_l1 sv n' i' := whileO_inl (body := fun s : (Int × Int) => darninglaw07_Few_b1 sv s.1 s.2) h
theorem darninglaw07_Few_l1_inr {sv : (List T_Name_Fields)} {n : Int} {i : Int} {oo_ : Int} (h : darninglaw07_Few_b1 sv n i = some (.inr oo_)) : darninglaw07_Few_l1 sv n i = some oo_ := whileO_inr (body := fun s : (Int × Int) => darninglaw07_Few_b1 sv s.1 s.2) h
def schema_Check_b2 (rv : (List Int)) (sv : (List T_Name_Fields)) (v2 : Int) (x : T_Name_Fields) (v3 : Int) (f6 : (List (T_message_name × Bool))) (f7 : (List (T_message_number × Bool))) : Option ((Int × (List (T_message_name × Bool)) × (List (T_message_number × Bool))) ⊕ (((List (T_message_name × Bool)) × (List (T_message_number × Bool))) ⊕ (Int × Int))) :=
 if (decide (v3 < (x.Fields.length : Int))) then (
  idx x.Fields v3 >>= fun x2 =>
  schema_check_field (⟨(sv.length : Int), rv, f6, f7⟩ : T_size_kinds_names_numbers) v2 x2 >>= fun rv5 =>
  if (rv5.1 != 0) then (
   some (.inr (.inr (v3, rv5.1)))
  ) else (
   some (.inl ((IntKind.i64.wrap (v3 + 1)), rv5.2.1, rv5.2.2))
  )
 ) else (
  some (.inr (.inl (f6, f7)))
 )
def schema_Check_l2 (rv : (List Int)) (sv : (List T_Name_Fields)) (v2 : Int) (x : T_Name_Fields) (v3 : Int) (f6 : (List (T_message_name × Bool))) (f7 : (List (T_message_number × Bool))) : Option (((List (T_message_name × Bool)) × (List (T_message_number × Bool))) ⊕ (Int × Int)) := whileO (fun s : (Int × (List (T_message_name × Bool)) × (List (T_message_number × Bool))) => schema_Check_b2 rv sv v2 x s.1 s.2.1 s.2.2) (v3, f6, f7)
def schema_Check_b1 (rv : (List Int)) (sv : (List T_Name_Fields)) (v2 : Int) (f : (List (T_message_name × Bool))) (f2 : (List (T_message_number × Bool))) : Option ((Int × (List (T_message_name × Bool)) × (List (T_message_number × Bool))) ⊕ (Unit ⊕ (Int × Int × Int))) :=
 if (decide (v2 < (sv.length : Int))) then (
  idx sv v2 >>= fun x =>
  schema_check_message (⟨(sv.length : Int), rv, f, f2⟩ : T_size_kinds_names_numbers) x >>= fun rv3 =>
  if (rv3.1 != 0) then (
   some (.inr (.inr (v2, (-1), rv3.1)))
  ) else (
   schema_Check_l2 rv sv v2 x 0 rv3.2.1 rv3.2.2 >>= fun q =>
   match q with
   | .inl u => (
    some (.inl ((IntKind.i64.wrap (v2 + 1)), u.1, u.2))
   )
   | .inr u2 => (
    some (.inr (.inr (v2, u2.1, u2.2)))
   )
  )
 ) else (
  some (.inr (.inl ()))
 )
def schema_Check_l1 (rv : (List Int)) (sv : (List T_Name_Fields)) (v2 : Int) (f : (List (T_message_name × Bool))) (f2 : (List (T_message_number × Bool))) : Option (Unit ⊕ (Int × Int × Int)) := whileO (fun s : (Int × (List (T_message_name × Bool)) × (List (T_message_number × Bool))) => schema_Check_b1 rv sv s.1 s.2.1 s.2.2) (v2, f, f2)
def schema_Check (sv : (List T_Name_Fields)) : Option (T_Message_Field_What × Int) :=
 if ((decide ((sv.length : Int) < 1)) || (decide ((sv.length : Int) > 100))) then (
  some ((⟨(-1), (-1), 1⟩ : T_Message_Field_What), 9)
 ) else (
  kind_All >>= fun rv =>
  schema_Check_l1 rv sv 0 ([] : (List (T_message_name × Bool))) ([] : (List (T_message_number × Bool))) >>= fun q2 =>
  match q2 with
  | .inl u3 => (
   some ((⟨0, 0, 0⟩ : T_Message_Field_What), 0)
  )
  | .inr u4 => (
   some ((⟨u4.1, u4.2.1, u4.2.2⟩ : T_Message_Field_What), 9)
  )
 )
theorem schema_Check_l2_inl {rv : (List Int)} {sv : (List T_Name_Fields)} {v2 : Int} {x : T_Name_Fields} {v3 : Int} {f6 : (List (T_message_name × Bool))} {f7 : (List (T_message_number × Bool))} {v3' : Int} {f6' : (List (T_message_name × Bool))} {f7' : (List (T_message_number × Bool))} (h : schema_Check_b2 rv sv v2 x v3 f6 f7 = some (.inl (v3', f6', f7'))) : schema_Check_l2 rv sv v2 x v3 f6 f7 = schema_Check_l2 rv sv v2 x v3' f6' f7' := whileO_inl (body := fun s : (Int × (List (T_message_name × Bool)) × (List (T_message_number × Bool))) => schema_Check_b2 rv sv v2 x s.1 s.2.1 s.2.2) h
theorem schema_Check_l2_inr {rv : (List Int)} {sv : (List T_Name_Fields)} {v2 : Int} {x : T_Name_Fields} {v3 : Int} {f6 : (List (T_message_name × Bool))} {f7 : (List (T_message_number × Bool))} {oo_ : (((List (T_message_name × Bool)) × (List (T_message_number × Bool))) ⊕ (Int × Int))} (h : schema_Check_b2 rv sv v2 x v3 f6 f7 = some (.inr oo_)) : schema_Check_l2 rv sv v2 x v3 f6 f7 = some oo_ := whileO_inr (body := fun s : (Int × (List (T_message_name × Bool)) × (List (T_message_number × Bool))) => schema_Check_b2 rv sv v2 x s.1 s.2.1 s.2.2) h
theorem schema_Check_l1_inl {rv : (List Int)} {sv : (List T_Name_Fields)} {v2 : Int} {f : (List (T_message_name × Bool))} {f2 : (List (T_message_number × Bool))} {v2' : Int} {f' : (List (T_message_name × Bool))} {f2' : (List (T_message_number × Bool))} (h : schema_Check_b1 rv sv v2 f f2 = some (.inl (v2', f', f2'))) : schema_Check_l1 rv sv v2 f f2 = schema_Check_l1 rv sv v2' f' f2' := whileO_inl (body := fun s : (Int × (List (T_message_name × Bool)) × (List (T_message_number × Bool))) => schema_Check_b1 rv sv s.1 s.2.1 s.2.2) h
theorem schema_Check_l1_inr {rv : (List Int)} {sv : (List T_Name_Fields)} {v2 : Int} {f : (List (T_message_name × Bool))} {f2 : (List (T_message_number × Bool))} {oo_ : (Unit ⊕ (Int × Int × Int))} (h : schema_Check_b1 rv sv v2 f f2 = some (.inr oo_)) : schema_Check_l1 rv sv v2 f f2 = some oo_ := whileO_inr (body := fun s : (Int × (List (T_message_name × Bool)) × (List (T_message_number × Bool))) => schema_Check_b1 rv sv s.1 s.2.1 s.2.2) h
def schema_Right (sv : (List T_Name_Fields)) : Option Bool :=
 schema_Check sv >>= fun rv =>
 some (rv.2 == 0)
def darninglaw07_alive  : Option Bool :=
 (
  schema_Right ([(⟨[97], []⟩ : T_Name_Fields)] : (List T_Name_Fields)) >>= fun rv =>
  if rv then (
   schema_Right ([] : (List T_Name_Fields)) >>= fun rv2 =>
   some (!rv2)
  ) else (
   some false
  )
 ) >>= fun g =>
 some g
def darningref07_Name_b1 (sv : Str) (i : Int) : Option (Int ⊕ (Unit ⊕ Unit)) :=
 if (decide (i < (sv.length : Int))) then (
  idx sv i >>= fun c =>
  if (!(if (decide ((c.toNat : Int) ≥ 65)) then ((decide ((c.toNat : Int) ≤ 90)) || (if (decide ((c.toNat : Int) ≥ 97)) then ((decide ((c.toNat : Int) ≤ 122)) || (((c.toNat : Int) == 95) || ((decide (i > 0)) && ((decide ((c.toNat : Int) ≥ 48)) && (decide ((c.toNat : Int) ≤ 57)))))) else (((c.toNat : Int) == 95) || ((decide (i > 0)) && ((decide ((c.toNat : Int) ≥ 48)) && (decide ((c.toNat : Int) ≤ 57))))))) else (if (decide ((c.toNat : Int) ≥ 97)) then ((decide ((c.toNat : Int) ≤ 122)) || (((c.toNat : Int) == 95) || ((decide (i > 0)) && ((decide ((c.toNat : Int) ≥ 48)) && (decide ((c.toNat : Int) ≤ 57)))))) else (((c.toNat : Int) == 95) || ((decide (i > 0)) && ((decide ((c.toNat : Int) ≥ 48)) && (decide ((c.toNat : Int) ≤ 57)))))))) then (
   some (.inr (.inr ()))
  ) else (
   some (.inl (IntKind.i64.wrap (i + 1)))
  )
 ) else (
  some (.inr (.inl ()))
 )
def darningref07_Name_l1 (sv : Str) (i : Int) : Option (Unit ⊕ Unit) := whileO (fun s : Int => darningref07_Name_b1 sv s) i
def darningref07_Name (sv : Str) : Option Bool :=
 darningref07_Name_l1 sv 0 >>= fun q =>
 match q with
 | .inl u => (
  some ((decide ((sv.length : Int) ≥ 1)) && (decide ((sv.length : Int) ≤ 60)))
 )
 | .inr u2 => (
  some false
 )
theorem darningref07_Name_l1_inl {sv : Str} {i : Int} {i' : Int} (h : darningref07_Name_b1 sv i = some (.inl i')) : darningref07_Name_l1 sv i = darningref07_Name_l1 sv i' := whileO_inl (body := fun s : Int => darningref07_Name_b1 sv s) h
theorem darningref07_Name_l1_inr {sv : Str} {i : Int} {oo_ : (Unit ⊕ Unit)} (h : darningref07_Name_b1 sv i = some (.inr oo_)) : darningref07_Name_l1 sv i = some oo_ := whileO_inr (body := fun s : Int => darningref07_Name_b1 sv s) h
def darningref07_Fault_b1 (i : Int) (k : Int) (sv : (List T_Name_Fields)) (x2 : T_Name_Number_Kind_Repeated_Packed_Of) (name : Bool) (number : Bool) (j : Int) : Option ((Bool × Bool × Int) ⊕ (Bool × Bool)) :=
 if (decide (j < k)) then (
  (
   if name then (
    some true
   ) else (
    idx sv i >>= fun x3 =>
    idx x3.Fields j >>= fun x4 =>
    some (x4.Name == x2.Name)
   )
  ) >>= fun g =>
  (
   if number then (
    some true
   ) else (
    idx sv i >>= fun x5 =>
    idx x5.Fields j >>= fun x6 =>
    some (x6.Number == x2.Number)
   )
  ) >>= fun g2 =>
  some (.inl (g, g2, (IntKind.i64.wrap (j + 1))))
 ) else (
  some (.inr (name, number))
 )
def darningref07_Fault_l1 (i : Int) (k : Int) (sv : (List T_Name_Fields)) (x2 : T_Name_Number_Kind_Repeated_Packed_Of) (name : Bool) (number : Bool) (j : Int) : Option (Bool × Bool) := whileO (fun s : (Bool × Bool × Int) => darningref07_Fault_b1 i k sv x2 s.1 s.2.1 s.2.2) (name, number, j)
def darningref07_Fault (sv : (List T_Name_Fields)) (i : Int) (k : Int) : Option Int :=
 idx sv i >>= fun x =>
 idx x.Fields k >>= fun x2 =>
 darningref07_Fault_l1 i k sv x2 false false 0 >>= fun q =>
 darningref07_Name x2.Name >>= fun rv =>
 if (!rv) then (
  some 5
 ) else (
  if q.1 then (
   some 6
  ) else (
   if ((decide (x2.Number < 1)) || ((decide (x2.Number > 536870911)) || ((decide (x2.Number ≥ 19000)) && (decide (x2.Number < 20000))))) then (
    some 7
   ) else (
    if q.2 then (
     some 8
    ) else (
     darningref06_Right x2.Kind >>= fun rv2 =>
     if (!rv2) then (
      some 9
     ) else (
      (
       if x2.Packed then (
        if x2.Repeated then (
         darningref06_Number x2.Kind >>= fun rv3 =>
         some (!rv3)
        ) else (
         some (!false)
        )
       ) else (
        some false
       )
      ) >>= fun g3 =>
      if g3 then (
       some 10
      ) else (
       if (if (x2.Kind == 17) then ((decide (x2.Of < 0)) || ((decide (x2.Of ≥ (sv.length : Int))) || ((x2.Kind != 17) && (x2.Of != 0)))) else ((x2.Kind != 17) && (x2.Of != 0))) then (
        some 11
       ) else (
        some 0
       )
      )
     )
    )
   )
  )
 )
theorem darningref07_Fault_l1_inl {i : Int} {k : Int} {sv : (List T_Name_Fields)} {x2 : T_Name_Number_Kind_Repeated_Packed_Of} {name : Bool} {number : Bool} {j : Int} {name' : Bool} {number' : Bool} {j' : Int} (h : darningref07_Fault_b1 i k sv x2 name number j = some (.inl (name', number', j'))) : darningref07_Fault_l1 i k sv x2 name number j = darningref07_Fault_l1 i k sv x2 name' number' j' := whileO_inl (body := fun s : (Bool × Bool × Int) => darningref07_Fault_b1 i k sv x2 s.1 s.2.1 s.2.2) h
theorem darningref07_Fault_l1_inr {i : Int} {k : Int} {sv : (List T_Name_Fields)} {x2 : T_Name_Number_Kind_Repeated_Packed_Of} {name : Bool} {number : Bool} {j : Int} {oo_ : (Bool × Bool)} (h : darningref07_Fault_b1 i k sv x2 name number j = some (.inr oo_)) : darningref07_Fault_l1 i k sv x2 name number j = some oo_ := whileO_inr (body := fun s : (Bool × Bool × Int) => darningref07_Fault_b1 i k sv x2 s.1 s.2.1 s.2.2) h
def darningref07_Check_b2 (i : Int) (sv : (List T_Name_Fields)) (twice : Bool) (k : Int) : Option ((Bool × Int) ⊕ Bool) :=
 if (decide (k < i)) then (
  (
   if twice then (
    some true
   ) else (
    idx sv k >>= fun x =>
    idx sv i >>= fun x2 =>
    some (x.Name == x2.Name)
   )
  ) >>= fun g =>
  some (.inl (g, (IntKind.i64.wrap (k + 1))))
 ) else (
  some (.inr twice)
 )
def darningref07_Check_l2 (i : Int) (sv : (List T_Name_Fields)) (twice : Bool) (k : Int) : Option Bool := whileO (fun s : (Bool × Int) => darningref07_Check_b2 i sv s.1 s.2) (twice, k)
def darningref07_Check_b3 (i : Int) (sv : (List T_Name_Fields)) (k2 : Int) : Option (Int ⊕ (Unit ⊕ (Int × Int))) :=
 idx sv i >>= fun x5 =>
 if (decide (k2 < (x5.Fields.length : Int))) then (
  darningref07_Fault sv i k2 >>= fun rv2 =>
  if (decide (rv2 > 0)) then (
   some (.inr (.inr (k2, rv2)))
  ) else (
   some (.inl (IntKind.i64.wrap (k2 + 1)))
  )
 ) else (
  some (.inr (.inl ()))
 )
def darningref07_Check_l3 (i : Int) (sv : (List T_Name_Fields)) (k2 : Int) : Option (Unit ⊕ (Int × Int)) := whileO (fun s : Int => darningref07_Check_b3 i sv s) k2
def darningref07_Check_b1 (sv : (List T_Name_Fields)) (i : Int) : Option (Int ⊕ (Unit ⊕ (Int × Int × Int))) :=
 if (decide (i < (sv.length : Int))) then (
  darningref07_Check_l2 i sv false 0 >>= fun q =>
  idx sv i >>= fun x3 =>
  darningref07_Name x3.Name >>= fun rv =>
  if (!rv) then (
   some (.inr (.inr (i, (-1), 2)))
  ) else (
   if q then (
    some (.inr (.inr (i, (-1), 3)))
   ) else (
    idx sv i >>= fun x4 =>
    if (decide ((x4.Fields.length : Int) > 200)) then (
     some (.inr (.inr (i, (-1), 4)))
    ) else (
     darningref07_Check_l3 i sv 0 >>= fun q2 =>
     match q2 with
     | .inl u => (
      some (.inl (IntKind.i64.wrap (i + 1)))
     )
     | .inr u2 => (
      some (.inr (.inr (i, u2.1, u2.2)))
     )
    )
   )
  )
 ) else (
  some (.inr (.inl ()))
 )
def darningref07_Check_l1 (sv : (List T_Name_Fields)) (i : Int) : Option (Unit ⊕ (Int × Int × Int)) := whileO (fun s : Int => darningref07_Check_b1 sv s) i
def darningref07_Check (sv : (List T_Name_Fields)) : Option (Int × Int × Int) :=
 if (((sv.length : Int) == 0) || (decide ((sv.length : Int) > 100))) then (
  some ((-1), (-1), 1)
 ) else (
  darningref07_Check_l1 sv 0 >>= fun q3 =>
  match q3 with
  | .inl u3 => (
   some (0, 0, 0)
  )
  | .inr u4 => (
   some (u4.1, u4.2.1, u4.2.2)
  )
 )
theorem darningref07_Check_l2_inl {i : Int} {sv : (List T_Name_Fields)} {twice : Bool} {k : Int} {twice' : Bool} {k' : Int} (h : darningref07_Check_b2 i sv twice k = some (.inl (twice', k'))) : darningref07_Check_l2 i sv twice k = darningref07_Check_l2 i sv twice' k' := whileO_inl (body := fun s : (Bool × Int) => darningref07_Check_b2 i sv s.1 s.2) h
theorem darningref07_Check_l2_inr {i : Int} {sv : (List T_Name_Fields)} {twice : Bool} {k : Int} {oo_ : Bool} (h : darningref07_Check_b2 i sv twice k = some (.inr oo_)) : darningref07_Check_l2 i sv twice k = some oo_ := whileO_inr (body := fun s : (Bool × Int) => darningref07_Check_b2 i sv s.1 s.2) h
theorem darningref07_Check_l3_inl {i : Int} {sv : (List T_Name_Fields)} {k2 : Int} {k2' : Int} (h : darningref07_Check_b3 i sv k2 = some (.inl k2')) : darningref07_Check_l3 i sv k2 = darningref07_Check_l3 i sv k2' := whileO_inl (body := fun s : Int => darningref07_Check_b3 i sv s) h
theorem darningref07_Check_l3_inr {i : Int} {sv : (List T_Name_Fields)} {k2 : Int} {oo_ : (Unit ⊕ (Int × Int))} (h : darningref07_Check_b3 i sv k2 = some (.inr oo_)) : darningref07_Check_l3 i sv k2 = some oo_ := whileO_inr (body := fun s : Int => darningref07_Check_b3 i sv s) h
theorem darningref07_Check_l1_inl {sv : (List T_Name_Fields)} {i : Int} {i' : Int} (h : darningref07_Check_b1 sv i = some (.inl i')) : darningref07_Check_l1 sv i = darningref07_Check_l1 sv i' := whileO_inl (body := fun s : Int => darningref07_Check_b1 sv s) h
theorem darningref07_Check_l1_inr {sv : (List T_Name_Fields)} {i : Int} {oo_ : (Unit ⊕ (Int × Int × Int))} (h : darningref07_Check_b1 sv i = some (.inr oo_)) : darningref07_Check_l1 sv i = some oo_ := whileO_inr (body := fun s : Int => darningref07_Check_b1 sv s) h
def darninglaw07_SchemaChecks (sv : (List T_Name_Fields)) : Option Bool :=
 darninglaw07_alive >>= fun rv =>
 if (!rv) then (
  some false
 ) else (
  darninglaw07_Few sv >>= fun rv2 =>
  if (!rv2) then (
   some true
  ) else (
   schema_Check sv >>= fun rv3 =>
   darningref07_Check sv >>= fun rv4 =>
   (
    if (decide (rv3.1 = (⟨rv4.1, rv4.2.1, rv4.2.2⟩ : T_Message_Field_What))) then (
     if (((IntKind.i64.wrap rv3.2) == 0) == (rv4.2.2 == 0)) then (
      if ((IntKind.i64.wrap rv3.2) == 0) then (
       schema_Right sv >>= fun rv5 =>
       some (rv5 == (rv4.2.2 == 0))
      ) else (
       if ((IntKind.i64.wrap rv3.2) == 9) then (
        schema_Right sv >>= fun rv6 =>
        some (rv6 == (rv4.2.2 == 0))
       ) else (
        some false
       )
      )
     ) else (
      some false
     )
    ) else (
     some false
    )
   ) >>= fun g =>
   some g
  )
 )
def schema_Message_1 (m : T_Name_Fields) (v : Str) : Option Bool :=
 some (m.Name == v)
def slices_IndexFunc_api_Schema_api_Message___schema_Message_1_b1 (sv : (List T_Name_Fields)) (v : Str) (v2 : Int) : Option (Int ⊕ (Unit ⊕ Int)) :=
 if (decide (v2 < (sv.length : Int))) then (
  idx sv v2 >>= fun x =>
  schema_Message_1 x v >>= fun rv =>
  if rv then (
   some (.inr (.inr v2))
  ) else (
   some (.inl (IntKind.i64.wrap (v2 + 1)))
  )
 ) else (
  some (.inr (.inl ()))
 )
def slices_IndexFunc_api_Schema_api_Message___schema_Message_1_l1 (sv : (List T_Name_Fields)) (v : Str) (v2 : Int) : Option (Unit ⊕ Int) := whileO (fun s : Int => slices_IndexFunc_api_Schema_api_Message___schema_Message_1_b1 sv v s) v2
def slices_IndexFunc_api_Schema_api_Message___schema_Message_1 (sv : (List T_Name_Fields)) (v : Str) : Option Int :=
 slices_IndexFunc_api_Schema_api_Message___schema_Message_1_l1 sv v 0 >>= fun q =>
 match q with
 | .inl u => (
  some (-1)
 )
 | .inr u2 => (
  some u2
 )
theorem slices_IndexFunc_api_Schema_api_Message___schema_Message_1_l1_inl {sv : (List T_Name_Fields)} {v : Str} {v2 : Int} {v2' : Int} (h : slices_IndexFunc_api_Schema_api_Message___schema_Message_1_b1 sv v v2 = some (.inl v2')) : slices_IndexFunc_api_Schema_api_Message___schema_Message_1_l1 sv v v2 = slices_IndexFunc_api_Schema_api_Message___schema_Message_1_l1 sv v v2' := whileO_inl (body := fun s : Int => slices_IndexFunc_api_Schema_api_Message___schema_Message_1_b1 sv v s) h
theorem slices_IndexFunc_api_Schema_api_Message___schema_Message_1_l1_inr {sv : (List T_Name_Fields)} {v : Str} {v2 : Int} {oo_ : (Unit ⊕ Int)} (h : slices_IndexFunc_api_Schema_api_Message___schema_Message_1_b1 sv v v2 = some (.inr oo_)) : slices_IndexFunc_api_Schema_api_Message___schema_Message_1_l1 sv v v2 = some oo_ := whileO_inr (body := fun s : Int => slices_IndexFunc_api_Schema_api_Message___schema_Message_1_b1 sv v s) h
def schema_Message (sv : (List T_Name_Fields)) (name : Str) : Option (Int × Int) :=
 slices_IndexFunc_api_Schema_api_Message___schema_Message_1 sv name >>= fun rv =>
 if (decide (rv < 0)) then (
  some (0, 11)
 ) else (
  some (rv, 0)
 )
def schema_ByNumber_1 (f : T_Name_Number_Kind_Repeated_Packed_Of) (v : Int) : Option Bool :=
 some (f.Number == v)
def slices_IndexFunc___api_Field_api_Field___schema_ByNumber_1_b1 (sv : (List T_Name_Number_Kind_Repeated_Packed_Of)) (v : Int) (v2 : Int) : Option (Int ⊕ (Unit ⊕ Int)) :=
 if (decide (v2 < (sv.length : Int))) then (
  idx sv v2 >>= fun x =>
  schema_ByNumber_1 x v >>= fun rv =>
  if rv then (
   some (.inr (.inr v2))
  ) else (
   some (.inl (IntKind.i64.wrap (v2 + 1)))
  )
 ) else (
  some (.inr (.inl ()))
 )
def slices_IndexFunc___api_Field_api_Field___schema_ByNumber_1_l1 (sv : (List T_Name_Number_Kind_Repeated_Packed_Of)) (v : Int) (v2 : Int) : Option (Unit ⊕ Int) := whileO (fun s : Int => slices_IndexFunc___api_Field_api_Field___schema_ByNumber_1_b1 sv v s) v2
def slices_IndexFunc___api_Field_api_Field___schema_ByNumber_1 (sv : (List T_Name_Number_Kind_Repeated_Packed_Of)) (v : Int) : Option Int :=
 slices_IndexFunc___api_Field_api_Field___schema_ByNumber_1_l1 sv v 0 >>= fun q =>
 match q with
 | .inl u => (
  some (-1)
 )
 | .inr u2 => (
  some u2
 )
theorem slices_IndexFunc___api_Field_api_Field___schema_ByNumber_1_l1_inl {sv : (List T_Name_Number_Kind_Repeated_Packed_Of)} {v : Int} {v2 : Int} {v2' : Int} (h : slices_IndexFunc___api_Field_api_Field___schema_ByNumber_1_b1 sv v v2 = some (.inl v2')) : slices_IndexFunc___api_Field_api_Field___schema_ByNumber_1_l1 sv v v2 = slices_IndexFunc___api_Field_api_Field___schema_ByNumber_1_l1 sv v v2' := whileO_inl (body := fun s : Int => slices_IndexFunc___api_Field_api_Field___schema_ByNumber_1_b1 sv v s) h
theorem slices_IndexFunc___api_Field_api_Field___schema_ByNumber_1_l1_inr {sv : (List T_Name_Number_Kind_Repeated_Packed_Of)} {v : Int} {v2 : Int} {oo_ : (Unit ⊕ Int)} (h : slices_IndexFunc___api_Field_api_Field___schema_ByNumber_1_b1 sv v v2 = some (.inr oo_)) : slices_IndexFunc___api_Field_api_Field___schema_ByNumber_1_l1 sv v v2 = some oo_ := whileO_inr (body := fun s : Int => slices_IndexFunc___api_Field_api_Field___schema_ByNumber_1_b1 sv v s) h
def schema_first__schema_ByNumber_1 (m : T_Name_Fields) (v : Int) : Option (Int × Bool) :=
 slices_IndexFunc___api_Field_api_Field___schema_ByNumber_1 m.Fields v >>= fun rv =>
 some ((if rv < 0 then 0 else rv), (decide (rv ≥ 0)))
def schema_ByNumber (m : T_Name_Fields) (number : Int) : Option (Int × Bool) :=
 schema_first__schema_ByNumber_1 m number >>= fun rv =>
 some (rv.1, rv.2)
def schema_ByName_1 (f : T_Name_Number_Kind_Repeated_Packed_Of) (v : Str) : Option Bool :=
 some (f.Name == v)
def slices_IndexFunc___api_Field_api_Field___schema_ByName_1_b1 (sv : (List T_Name_Number_Kind_Repeated_Packed_Of)) (v : Str) (v2 : Int) : Option (Int ⊕ (Unit ⊕ Int)) :=
 if (decide (v2 < (sv.length : Int))) then (
  idx sv v2 >>= fun x =>
  schema_ByName_1 x v >>= fun rv =>
  if rv then (
   some (.inr (.inr v2))
  ) else (
   some (.inl (IntKind.i64.wrap (v2 + 1)))
  )
 ) else (
  some (.inr (.inl ()))
 )
def slices_IndexFunc___api_Field_api_Field___schema_ByName_1_l1 (sv : (List T_Name_Number_Kind_Repeated_Packed_Of)) (v : Str) (v2 : Int) : Option (Unit ⊕ Int) := whileO (fun s : Int => slices_IndexFunc___api_Field_api_Field___schema_ByName_1_b1 sv v s) v2
def slices_IndexFunc___api_Field_api_Field___schema_ByName_1 (sv : (List T_Name_Number_Kind_Repeated_Packed_Of)) (v : Str) : Option Int :=
 slices_IndexFunc___api_Field_api_Field___schema_ByName_1_l1 sv v 0 >>= fun q =>
 match q with
 | .inl u => (
  some (-1)
 )
 | .inr u2 => (
  some u2
 )
theorem slices_IndexFunc___api_Field_api_Field___schema_ByName_1_l1_inl {sv : (List T_Name_Number_Kind_Repeated_Packed_Of)} {v : Str} {v2 : Int} {v2' : Int} (h : slices_IndexFunc___api_Field_api_Field___schema_ByName_1_b1 sv v v2 = some (.inl v2')) : slices_IndexFunc___api_Field_api_Field___schema_ByName_1_l1 sv v v2 = slices_IndexFunc___api_Field_api_Field___schema_ByName_1_l1 sv v v2' := whileO_inl (body := fun s : Int => slices_IndexFunc___api_Field_api_Field___schema_ByName_1_b1 sv v s) h
theorem slices_IndexFunc___api_Field_api_Field___schema_ByName_1_l1_inr {sv : (List T_Name_Number_Kind_Repeated_Packed_Of)} {v : Str} {v2 : Int} {oo_ : (Unit ⊕ Int)} (h : slices_IndexFunc___api_Field_api_Field___schema_ByName_1_b1 sv v v2 = some (.inr oo_)) : slices_IndexFunc___api_Field_api_Field___schema_ByName_1_l1 sv v v2 = some oo_ := whileO_inr (body := fun s : Int => slices_IndexFunc___api_Field_api_Field___schema_ByName_1_b1 sv v s) h
def schema_first__schema_ByName_1 (m : T_Name_Fields) (v : Str) : Option (Int × Bool) :=
 slices_IndexFunc___api_Field_api_Field___schema_ByName_1 m.Fields v >>= fun rv =>
 some ((if rv < 0 then 0 else rv), (decide (rv ≥ 0)))
def schema_ByName (m : T_Name_Fields) (name : Str) : Option (Int × Bool) :=
 schema_first__schema_ByName_1 m name >>= fun rv =>
 some (rv.1, rv.2)
def darninglaw07_SchemaEach_b2 (i : Int) (sv : (List T_Name_Fields)) (used3 : Bool) (j : Int) : Option ((Bool × Int) ⊕ (Bool ⊕ Unit)) :=
 idx sv i >>= fun x2 =>
 if (decide (j < (x2.Fields.length : Int))) then (
  idx sv i >>= fun x3 =>
  idx x3.Fields j >>= fun x4 =>
  idx sv i >>= fun x5 =>
  schema_ByNumber x5 x4.Number >>= fun rv5 =>
  idx sv i >>= fun x6 =>
  schema_ByName x6 x4.Name >>= fun rv6 =>
  if ((rv5.1 != j) || ((rv6.1 != j) || ((!rv5.2) || (!rv6.2)))) then (
   some (.inr (.inr ()))
  ) else (
   some (.inl ((used3 || ((decide (i < (IntKind.i64.wrap ((sv.length : Int) - 1)))) && ((x4.Kind == 17) && (x4.Of == (IntKind.i64.wrap ((sv.length : Int) - 1)))))), (IntKind.i64.wrap (j + 1))))
  )
 ) else (
  some (.inr (.inl used3))
 )
def darninglaw07_SchemaEach_l2 (i : Int) (sv : (List T_Name_Fields)) (used3 : Bool) (j : Int) : Option (Bool ⊕ Unit) := whileO (fun s : (Bool × Int) => darninglaw07_SchemaEach_b2 i sv s.1 s.2) (used3, j)
def darninglaw07_SchemaEach_b1 (sv : (List T_Name_Fields)) (used : Bool) (i : Int) : Option ((Bool × Int) ⊕ (Bool ⊕ Unit)) :=
 if (decide (i < (sv.length : Int))) then (
  idx sv i >>= fun x =>
  schema_Message sv x.Name >>= fun rv4 =>
  if ((rv4.1 != i) || ((IntKind.i64.wrap rv4.2) != 0)) then (
   some (.inr (.inr ()))
  ) else (
   darninglaw07_SchemaEach_l2 i sv used 0 >>= fun q =>
   match q with
   | .inl u => (
    some (.inl (u, (IntKind.i64.wrap (i + 1))))
   )
   | .inr u2 => (
    some (.inr (.inr ()))
   )
  )
 ) else (
  some (.inr (.inl used))
 )
def darninglaw07_SchemaEach_l1 (sv : (List T_Name_Fields)) (used : Bool) (i : Int) : Option (Bool ⊕ Unit) := whileO (fun s : (Bool × Int) => darninglaw07_SchemaEach_b1 sv s.1 s.2) (used, i)
def darninglaw07_SchemaEach (sv : (List T_Name_Fields)) : Option Bool :=
 darninglaw07_alive >>= fun rv =>
 if (!rv) then (
  some false
 ) else (
  (
   darninglaw07_Few sv >>= fun rv2 =>
   if (!rv2) then (
    some true
   ) else (
    schema_Right sv >>= fun rv3 =>
    some (!rv3)
   )
  ) >>= fun g =>
  if g then (
   some true
  ) else (
   darninglaw07_SchemaEach_l1 sv false 0 >>= fun q2 =>
   match q2 with
   | .inl u3 => (
    (
     if u3 then (
      some true
     ) else (
      if ((IntKind.i64.wrap ((sv.length : Int) - 1)) == 0) then (
       some true
      ) else (
       cut sv 0 (IntKind.i64.wrap ((sv.length : Int) - 1)) >>= fun v4 =>
       schema_Right v4 >>= fun rv7 =>
       some rv7
      )
     )
    ) >>= fun g2 =>
    some g2
   )
   | .inr u4 => (
    some false
   )
  )
 )
theorem darninglaw07_SchemaEach_l2_inl {i : Int} {sv : (List T_Name_Fields)} {used3 : Bool} {j : Int} {used3' : Bool} {j' : Int} (h : darninglaw07_SchemaEach_b2 i sv used3 j = some (.inl (used3', j'))) : darninglaw07_SchemaEach_l2 i sv used3 j = darninglaw07_SchemaEach_l2 i sv used3' j' := whileO_inl (body := fun s : (Bool × Int) => darninglaw07_SchemaEach_b2 i sv s.1 s.2) h
theorem darninglaw07_SchemaEach_l2_inr {i : Int} {sv : (List T_Name_Fields)} {used3 : Bool} {j : Int} {oo_ : (Bool ⊕ Unit)} (h : darninglaw07_SchemaEach_b2 i sv used3 j = some (.inr oo_)) : darninglaw07_SchemaEach_l2 i sv used3 j = some oo_ := whileO_inr (body := fun s : (Bool × Int) => darninglaw07_SchemaEach_b2 i sv s.1 s.2) h
theorem darninglaw07_SchemaEach_l1_inl {sv : (List T_Name_Fields)} {used : Bool} {i : Int} {used' : Bool} {i' : Int} (h : darninglaw07_SchemaEach_b1 sv used i = some (.inl (used', i'))) : darninglaw07_SchemaEach_l1 sv used i = darninglaw07_SchemaEach_l1 sv used' i' := whileO_inl (body := fun s : (Bool × Int) => darninglaw07_SchemaEach_b1 sv s.1 s.2) h
theorem darninglaw07_SchemaEach_l1_inr {sv : (List T_Name_Fields)} {used : Bool} {i : Int} {oo_ : (Bool ⊕ Unit)} (h : darninglaw07_SchemaEach_b1 sv used i = some (.inr oo_)) : darninglaw07_SchemaEach_l1 sv used i = some oo_ := whileO_inr (body := fun s : (Bool × Int) => darninglaw07_SchemaEach_b1 sv s.1 s.2) h
end
end Go.Proofs.Ytnchbppkppbflaa
