/-
  What the Go functions do, as plain functions. No condition.
-/
import Derived.Test.YtnchbppkppbflaaK2
namespace Go.Proofs.Ytnchbppkppbflaa
open Go
set_option linter.unusedVariables false
abbrev Str := List UInt8
structure T_name_wire where
  name : Str
  wire : Int deriving DecidableEq
def R_name_wire : Rp T_name_wire := ⟨2, true, fun x => [.str x.name, .int .i64 x.wire], fun _ => rfl, by decide⟩
structure T_Name_Number_Kind_Repeated_Packed_Of where
  Name : Str
  Number : Int
  Kind : Int
  Repeated : Bool
  Packed : Bool
  Of : Int deriving DecidableEq
def R_Name_Number_Kind_Repeated_Packed_Of : Rp T_Name_Number_Kind_Repeated_Packed_Of := ⟨6, true, fun x => [.str x.Name, .int .i64 x.Number, .int .i64 x.Kind, .bool x.Repeated, .bool x.Packed, .int .i64 x.Of], fun _ => rfl, by decide⟩
structure T_Name_Fields where
  Name : Str
  Fields : (List T_Name_Number_Kind_Repeated_Packed_Of) deriving DecidableEq
def R_Name_Fields : Rp T_Name_Fields := ⟨2, true, fun x => [.str x.Name, .sl x.Fields.length R_Name_Number_Kind_Repeated_Packed_Of.size (x.Fields.flatMap R_Name_Number_Kind_Repeated_Packed_Of.lv)], fun _ => rfl, by decide⟩
structure T_Number_Wire where
  Number : Int
  Wire : Int deriving DecidableEq
structure T_Number_Wire_From_At_To where
  Number : Int
  Wire : Int
  From : Int
  At : Int
  To : Int deriving DecidableEq
structure T_message_name where
  message : Int
  name : Str deriving DecidableEq
def R_message_name : Rp T_message_name := ⟨2, true, fun x => [.int .i64 x.message, .str x.name], fun _ => rfl, by decide⟩
structure T_message_number where
  message : Int
  number : Int deriving DecidableEq
def R_message_number : Rp T_message_number := ⟨2, true, fun x => [.int .i64 x.message, .int .i64 x.number], fun _ => rfl, by decide⟩
structure T_size_kinds_names_numbers where
  size : Int
  kinds : (List Int)
  names : (List (T_message_name × Bool))
  numbers : (List (T_message_number × Bool))
structure T_Message_Field_What where
  Message : Int
  Field : Int
  What : Int deriving DecidableEq
def R_Message_Field_What : Rp T_Message_Field_What := ⟨3, true, fun x => [.int .i64 x.Message, .int .i64 x.Field, .int .i64 x.What], fun _ => rfl, by decide⟩
end Go.Proofs.Ytnchbppkppbflaa
namespace Go.Proofs.Ytnchbppkppbflaa
open Go
set_option linter.unusedVariables false
noncomputable section
def slices_Clone___api_Field_api_Field_ (sv : (List T_Name_Number_Kind_Repeated_Packed_Of)) : Option (List T_Name_Number_Kind_Repeated_Packed_Of) :=
 nilO sv (
  some []
 ) (
  app 48 ([] : (List T_Name_Number_Kind_Repeated_Packed_Of)) sv >>= fun v =>
  some v
 )
def slices_Clone_api_Schema_api_Message_ (sv : (List T_Name_Fields)) : Option (List T_Name_Fields) :=
 nilO sv (
  some []
 ) (
  app 40 ([] : (List T_Name_Fields)) sv >>= fun v =>
  some v
 )
def slices_Equal___api_Field_api_Field__b1 (s1 : (List T_Name_Number_Kind_Repeated_Packed_Of)) (s2 : (List T_Name_Number_Kind_Repeated_Packed_Of)) (v : Int) : Option (Int ⊕ (Unit ⊕ Unit)) :=
 if (decide (v < (s1.length : Int))) then (
  idx s1 v >>= fun x =>
  idx s2 v >>= fun x2 =>
  if (!(decide (x = x2))) then (
   some (.inr (.inr ()))
  ) else (
   some (.inl (IntKind.i64.wrap (v + 1)))
  )
 ) else (
  some (.inr (.inl ()))
 )
def slices_Equal___api_Field_api_Field__l1 (s1 : (List T_Name_Number_Kind_Repeated_Packed_Of)) (s2 : (List T_Name_Number_Kind_Repeated_Packed_Of)) (v : Int) : Option (Unit ⊕ Unit) := whileO (fun s : Int => slices_Equal___api_Field_api_Field__b1 s1 s2 s) v
def slices_Equal___api_Field_api_Field_ (s1 : (List T_Name_Number_Kind_Repeated_Packed_Of)) (s2 : (List T_Name_Number_Kind_Repeated_Packed_Of)) : Option Bool :=
 if ((s1.length : Int) != (s2.length : Int)) then (
  some false
 ) else (
  slices_Equal___api_Field_api_Field__l1 s1 s2 0 >>= fun q =>
  match q with
  | .inl u => (
   some true
  )
  | .inr u2 => (
   some false
  )
 )
theorem slices_Equal___api_Field_api_Field__l1_inl {s1 : (List T_Name_Number_Kind_Repeated_Packed_Of)} {s2 : (List T_Name_Number_Kind_Repeated_Packed_Of)} {v : Int} {v' : Int} (h : slices_Equal___api_Field_api_Field__b1 s1 s2 v = some (.inl v')) : slices_Equal___api_Field_api_Field__l1 s1 s2 v = slices_Equal___api_Field_api_Field__l1 s1 s2 v' := whileO_inl (body := fun s : Int => slices_Equal___api_Field_api_Field__b1 s1 s2 s) h
theorem slices_Equal___api_Field_api_Field__l1_inr {s1 : (List T_Name_Number_Kind_Repeated_Packed_Of)} {s2 : (List T_Name_Number_Kind_Repeated_Packed_Of)} {v : Int} {oo_ : (Unit ⊕ Unit)} (h : slices_Equal___api_Field_api_Field__b1 s1 s2 v = some (.inr oo_)) : slices_Equal___api_Field_api_Field__l1 s1 s2 v = some oo_ := whileO_inr (body := fun s : Int => slices_Equal___api_Field_api_Field__b1 s1 s2 s) h
def slices_Index___int_int__b1 (sv : (List Int)) (v : Int) (v2 : Int) : Option (Int ⊕ (Unit ⊕ Int)) :=
 if (decide (v2 < (sv.length : Int))) then (
  idx sv v2 >>= fun x =>
  if (v == x) then (
   some (.inr (.inr v2))
  ) else (
   some (.inl (IntKind.i64.wrap (v2 + 1)))
  )
 ) else (
  some (.inr (.inl ()))
 )
def slices_Index___int_int__l1 (sv : (List Int)) (v : Int) (v2 : Int) : Option (Unit ⊕ Int) := whileO (fun s : Int => slices_Index___int_int__b1 sv v s) v2
def slices_Index___int_int_ (sv : (List Int)) (v : Int) : Option Int :=
 slices_Index___int_int__l1 sv v 0 >>= fun q =>
 match q with
 | .inl u => (
  some (-1)
 )
 | .inr u2 => (
  some u2
 )
theorem slices_Index___int_int__l1_inl {sv : (List Int)} {v : Int} {v2 : Int} {v2' : Int} (h : slices_Index___int_int__b1 sv v v2 = some (.inl v2')) : slices_Index___int_int__l1 sv v v2 = slices_Index___int_int__l1 sv v v2' := whileO_inl (body := fun s : Int => slices_Index___int_int__b1 sv v s) h
theorem slices_Index___int_int__l1_inr {sv : (List Int)} {v : Int} {v2 : Int} {oo_ : (Unit ⊕ Int)} (h : slices_Index___int_int__b1 sv v v2 = some (.inr oo_)) : slices_Index___int_int__l1 sv v v2 = some oo_ := whileO_inr (body := fun s : Int => slices_Index___int_int__b1 sv v s) h
def slices_Contains___int_int_ (sv : (List Int)) (v : Int) : Option Bool :=
 slices_Index___int_int_ sv v >>= fun rv =>
 some (decide (rv ≥ 0))
def cmp_isNaN_int_ (x : Int) : Option Bool :=
 some (x != x)
def cmp_Compare_int_ (x : Int) (y : Int) : Option Int :=
 cmp_isNaN_int_ x >>= fun rv =>
 cmp_isNaN_int_ y >>= fun rv2 =>
 if rv then (
  if rv2 then (
   some 0
  ) else (
   some (-1)
  )
 ) else (
  if rv2 then (
   some 1
  ) else (
   if (decide (x < y)) then (
    some (-1)
   ) else (
    if (decide (x > y)) then (
     some 1
    ) else (
     some 0
    )
   )
  )
 )
end
end Go.Proofs.Ytnchbppkppbflaa
namespace Go.Proofs.Ytnchbppkppbflaa
open Go
set_option linter.unusedVariables false
noncomputable section
def kind_kinds  : Option (List (Int × T_name_wire)) :=
 some (mput (mput (mput (mput (mput (mput (mput (mput (mput (mput (mput (mput (mput (mput (mput (mput (mput ([] : (List (Int × T_name_wire))) 1 (⟨[105, 110, 116, 51, 50], 0⟩ : T_name_wire)) 2 (⟨[105, 110, 116, 54, 52], 0⟩ : T_name_wire)) 3 (⟨[117, 105, 110, 116, 51, 50], 0⟩ : T_name_wire)) 4 (⟨[117, 105, 110, 116, 54, 52], 0⟩ : T_name_wire)) 5 (⟨[115, 105, 110, 116, 51, 50], 0⟩ : T_name_wire)) 6 (⟨[115, 105, 110, 116, 54, 52], 0⟩ : T_name_wire)) 7 (⟨[98, 111, 111, 108], 0⟩ : T_name_wire)) 8 (⟨[101, 110, 117, 109], 0⟩ : T_name_wire)) 9 (⟨[102, 105, 120, 101, 100, 51, 50], 5⟩ : T_name_wire)) 10 (⟨[115, 102, 105, 120, 101, 100, 51, 50], 5⟩ : T_name_wire)) 11 (⟨[102, 108, 111, 97, 116], 5⟩ : T_name_wire)) 12 (⟨[102, 105, 120, 101, 100, 54, 52], 1⟩ : T_name_wire)) 13 (⟨[115, 102, 105, 120, 101, 100, 54, 52], 1⟩ : T_name_wire)) 14 (⟨[100, 111, 117, 98, 108, 101], 1⟩ : T_name_wire)) 15 (⟨[115, 116, 114, 105, 110, 103], 2⟩ : T_name_wire)) 16 (⟨[98, 121, 116, 101, 115], 2⟩ : T_name_wire)) 17 (⟨[109, 101, 115, 115, 97, 103, 101], 2⟩ : T_name_wire))
def kind_All  : Option (List Int) :=
 kind_kinds >>= fun rv =>
 keysO rv >>= fun v =>
 some v
def kind_Wire (k : Int) : Option (Int × Int) :=
 kind_kinds >>= fun rv =>
 if (!(mget rv k).isSome) then (
  some (0, 2)
 ) else (
  some (((mget rv k).getD (⟨[], 0⟩ : T_name_wire)).wire, 0)
 )
def kind_Number (k : Int) : Option Bool :=
 kind_Wire k >>= fun rv =>
 some ((rv.2 == 0) && (rv.1 != 2))
end
end Go.Proofs.Ytnchbppkppbflaa
namespace Go.Proofs.Ytnchbppkppbflaa
open Go
set_option linter.unusedVariables false
noncomputable section
def schema_isDigit (c : Int) : Option Bool :=
 some ((decide (c ≥ 48)) && (decide (c ≤ 57)))
def schema_isLetter (c : Int) : Option Bool :=
 some (if (decide (c ≥ 97)) then ((decide (c ≤ 122)) || (if (decide (c ≥ 65)) then ((decide (c ≤ 90)) || (c == 95)) else (c == 95))) else (if (decide (c ≥ 65)) then ((decide (c ≤ 90)) || (c == 95)) else (c == 95)))
def schema_isName_b1 (name : Str) (v2 : Int) : Option (Int ⊕ (Unit ⊕ Unit)) :=
 if (decide (v2 < (name.length : Int))) then (
  (
   idx name v2 >>= fun c2 =>
   schema_isLetter (c2.toNat : Int) >>= fun rv2 =>
   if (!rv2) then (
    idx name v2 >>= fun c3 =>
    schema_isDigit (c3.toNat : Int) >>= fun rv3 =>
    some (!rv3)
   ) else (
    some false
   )
  ) >>= fun g2 =>
  if g2 then (
   some (.inr (.inr ()))
  ) else (
   some (.inl (IntKind.i64.wrap (v2 + 1)))
  )
 ) else (
  some (.inr (.inl ()))
 )
def schema_isName_l1 (name : Str) (v2 : Int) : Option (Unit ⊕ Unit) := whileO (fun s : Int => schema_isName_b1 name s) v2
def schema_isName (name : Str) : Option Bool :=
 (
  if (name == []) then (
   some true
  ) else (
   if (decide ((name.length : Int) > 60)) then (
    some true
   ) else (
    idx name 0 >>= fun c =>
    schema_isDigit (c.toNat : Int) >>= fun rv =>
    some rv
   )
  )
 ) >>= fun g =>
 if g then (
  some false
 ) else (
  schema_isName_l1 name 0 >>= fun q =>
  match q with
  | .inl u => (
   some true
  )
  | .inr u2 => (
   some false
  )
 )
theorem schema_isName_l1_inl {name : Str} {v2 : Int} {v2' : Int} (h : schema_isName_b1 name v2 = some (.inl v2')) : schema_isName_l1 name v2 = schema_isName_l1 name v2' := whileO_inl (body := fun s : Int => schema_isName_b1 name s) h
theorem schema_isName_l1_inr {name : Str} {v2 : Int} {oo_ : (Unit ⊕ Unit)} (h : schema_isName_b1 name v2 = some (.inr oo_)) : schema_isName_l1 name v2 = some oo_ := whileO_inr (body := fun s : Int => schema_isName_b1 name s) h
def schema_isNumber (n : Int) : Option Bool :=
 some ((decide (n ≥ 1)) && ((decide (n ≤ 536870911)) && ((decide (n < 19000)) || (decide (n > 19999)))))
def schema_mayPack (f : T_Name_Number_Kind_Repeated_Packed_Of) : Option Bool :=
 (
  if f.Repeated then (
   kind_Number f.Kind >>= fun rv =>
   some rv
  ) else (
   some false
  )
 ) >>= fun g =>
 some g
def schema_check_leads (c : T_size_kinds_names_numbers) (f : T_Name_Number_Kind_Repeated_Packed_Of) : Option Bool :=
 if (f.Kind == 17) then (
  some ((decide (f.Of ≥ 0)) && (decide (f.Of < c.size)))
 ) else (
  some (f.Of == 0)
 )
def schema_check_field (c : T_size_kinds_names_numbers) (message : Int) (f : T_Name_Number_Kind_Repeated_Packed_Of) : Option (Int × (List (T_message_name × Bool)) × (List (T_message_number × Bool))) :=
 schema_isName f.Name >>= fun rv =>
 if (!rv) then (
  some (5, c.names, c.numbers)
 ) else (
  if ((mget c.names (⟨message, f.Name⟩ : T_message_name)).getD false) then (
   some (6, c.names, c.numbers)
  ) else (
   schema_isNumber f.Number >>= fun rv2 =>
   if (!rv2) then (
    some (7, c.names, c.numbers)
   ) else (
    if ((mget c.numbers (⟨message, f.Number⟩ : T_message_number)).getD false) then (
     some (8, c.names, c.numbers)
    ) else (
     slices_Contains___int_int_ c.kinds f.Kind >>= fun rv3 =>
     if (!rv3) then (
      some (9, c.names, c.numbers)
     ) else (
      (
       if f.Packed then (
        schema_mayPack f >>= fun rv4 =>
        some (!rv4)
       ) else (
        some false
       )
      ) >>= fun g =>
      if g then (
       some (10, c.names, c.numbers)
      ) else (
       schema_check_leads c f >>= fun rv5 =>
       if (!rv5) then (
        some (11, c.names, c.numbers)
       ) else (
        some (0, (mput c.names (⟨message, f.Name⟩ : T_message_name) true), (mput c.numbers (⟨message, f.Number⟩ : T_message_number) true))
       )
      )
     )
    )
   )
  )
 )
def schema_check_message (c : T_size_kinds_names_numbers) (m : T_Name_Fields) : Option (Int × (List (T_message_name × Bool)) × (List (T_message_number × Bool))) :=
 schema_isName m.Name >>= fun rv =>
 if (!rv) then (
  some (2, c.names, c.numbers)
 ) else (
  if ((mget c.names (⟨(-1), m.Name⟩ : T_message_name)).getD false) then (
   some (3, c.names, c.numbers)
  ) else (
   if (decide ((m.Fields.length : Int) > 200)) then (
    some (4, c.names, c.numbers)
   ) else (
    some (0, (mput c.names (⟨(-1), m.Name⟩ : T_message_name) true), c.numbers)
   )
  )
 )
def darninglaw07_Few_b2 (i : Int) (sv : (List T_Name_Fields)) (n3 : Int) (k : Int) : Option ((Int × Int) ⊕ Int) :=
 idx sv i >>= fun x3 =>
 if (decide (k < (x3.Fields.length : Int))) then (
  idx sv i >>= fun x4 =>
  idx x4.Fields k >>= fun x5 =>
  some (.inl ((IntKind.i64.wrap (n3 + (IntKind.i64.wrap (Int.tdiv (x5.Name.length : Int) 100)))), (IntKind.i64.wrap (k + 1))))
 ) else (
  some (.inr n3)
 )
def darninglaw07_Few_l2 (i : Int) (sv : (List T_Name_Fields)) (n3 : Int) (k : Int) : Option Int := whileO (fun s : (Int × Int) => darninglaw07_Few_b2 i sv s.1 s.2) (n3, k)
def darninglaw07_Few_b1 (sv : (List T_Name_Fields)) (n : Int) (i : Int) : Option ((Int × Int) ⊕ Int) :=
 if (decide (i < (sv.length : Int))) then (
  idx sv i >>= fun x =>
  idx sv i >>= fun x2 =>
  darninglaw07_Few_l2 i sv (IntKind.i64.wrap ((IntKind.i64.wrap ((IntKind.i64.wrap (n + 1)) + (IntKind.i64.wrap (Int.tdiv (x.Name.length : Int) 100)))) + (x2.Fields.length : Int))) 0 >>= fun q =>
  some (.inl (q, (IntKind.i64.wrap (i + 1))))
 ) else (
  some (.inr n)
 )
def darninglaw07_Few_l1 (sv : (List T_Name_Fields)) (n : Int) (i : Int) : Option Int := whileO (fun s : (Int × Int) => darninglaw07_Few_b1 sv s.1 s.2) (n, i)
def darninglaw07_Few (sv : (List T_Name_Fields)) : Option Bool :=
 darninglaw07_Few_l1 sv 0 0 >>= fun q2 =>
 some (decide (q2 ≤ 500))
theorem darninglaw07_Few_l2_inl {i : Int} {sv : (List T_Name_Fields)} {n3 : Int} {k : Int} {n3' : Int} {k' : Int} (h : darninglaw07_Few_b2 i sv n3 k = some (.inl (n3', k'))) : darninglaw07_Few_l2 i sv n3 k = darninglaw07_Few_l2 i sv n3' k' := whileO_inl (body := fun s : (Int × Int) => darninglaw07_Few_b2 i sv s.1 s.2) h
theorem darninglaw07_Few_l2_inr {i : Int} {sv : (List T_Name_Fields)} {n3 : Int} {k : Int} {oo_ : Int} (h : darninglaw07_Few_b2 i sv n3 k = some (.inr oo_)) : darninglaw07_Few_l2 i sv n3 k = some oo_ := whileO_inr (body := fun s : (Int × Int) => darninglaw07_Few_b2 i sv s.1 s.2) h
theorem darninglaw07_Few_l1_inl {sv : (List T_Name_Fields)} {n : Int} {i : Int} {n' : Int} {i' : Int} (h : darninglaw07_Few_b1 sv n i = some (.inl (n', i'))) : darninglaw07_Few_l1 sv n i = darninglaw07_Few_l1 sv n' i' := whileO_inl (body := fun s : (Int × Int) => darninglaw07_Few_b1 sv s.1 s.2) h
theorem darninglaw07_Few_l1_inr {sv : (List T_Name_Fields)} {n : Int} {i : Int} {oo_ : Int} (h : darninglaw07_Few_b1 sv n i = some (.inr oo_)) : darninglaw07_Few_l1 sv n i = some oo_ := whileO_inr (body := fun s : (Int × Int) => darninglaw07_Few_b1 sv s.1 s.2) h
def schema_Check_b2 (rv : (List Int)) (sv : (List T_Name_Fields)) (v2 : Int) (x : T_Name_Fields) (v3 : Int) (f6 : (List (T_message_name × Bool))) (f7 : (List (T_message_number × Bool))) : Option ((Int × (List (T_message_name × Bool)) × (List (T_message_number × Bool))) ⊕ (((List (T_message_name × Bool)) × (List (T_message_number × Bool))) ⊕ (Int × Int))) :=
 if (decide (v3 < (x.Fields.length : Int))) then (
  idx x.Fields v3 >>= fun x2 =>
  schema_check_field (⟨(sv.length : Int), rv, f6, f7⟩ : T_size_kinds_names_numbers) v2 x2 >>= fun rv5 =>
  if (rv5.1 != 0) then (
   some (.inr (.inr (v3, rv5.1)))
  ) else (
   some (.inl ((IntKind.i64.wrap (v3 + 1)), rv5.2.1, rv5.2.2))
  )
 ) else (
  some (.inr (.inl (f6, f7)))
 )
def schema_Check_l2 (rv : (List Int)) (sv : (List T_Name_Fields)) (v2 : Int) (x : T_Name_Fields) (v3 : Int) (f6 : (List (T_message_name × Bool))) (f7 : (List (T_message_number × Bool))) : Option (((List (T_message_name × Bool)) × (List (T_message_number × Bool))) ⊕ (Int × Int)) := whileO (fun s : (Int × (List (T_message_name × Bool)) × (List (T_message_number × Bool))) => schema_Check_b2 rv sv v2 x s.1 s.2.1 s.2.2) (v3, f6, f7)
def schema_Check_b1 (rv : (List Int)) (sv : (List T_Name_Fields)) (v2 : Int) (f : (List (T_message_name × Bool))) (f2 : (List (T_message_number × Bool))) : Option ((Int × (List (T_message_name × Bool)) × (List (T_message_number × Bool))) ⊕ (Unit ⊕ (Int × Int × Int))) :=
 if (decide (v2 < (sv.length : Int))) then (
  idx sv v2 >>= fun x =>
  schema_check_message (⟨(sv.length : Int), rv, f, f2⟩ : T_size_kinds_names_numbers) x >>= fun rv3 =>
  if (rv3.1 != 0) then (
   some (.inr (.inr (v2, (-1), rv3.1)))
  ) else (
   schema_Check_l2 rv sv v2 x 0 rv3.2.1 rv3.2.2 >>= fun q =>
   match q with
   | .inl u => (
    some (.inl ((IntKind.i64.wrap (v2 + 1)), u.1, u.2))
   )
   | .inr u2 => (
    some (.inr (.inr (v2, u2.1, u2.2)))
   )
  )
 ) else (
  some (.inr (.inl ()))
 )
def schema_Check_l1 (rv : (List Int)) (sv : (List T_Name_Fields)) (v2 : Int) (f : (List (T_message_name × Bool))) (f2 : (List (T_message_number × Bool))) : Option (Unit ⊕ (Int × Int × Int)) := whileO (fun s : (Int × (List (T_message_name × Bool)) × (List (T_message_number × Bool))) => schema_Check_b1 rv sv s.1 s.2.1 s.2.2) (v2, f, f2)
def schema_Check (sv : (List T_Name_Fields)) : Option (T_Message_Field_What × Int) :=
 if ((decide ((sv.length : Int) < 1)) || (decide ((sv.length : Int) > 100))) then (
  some ((⟨(-1), (-1), 1⟩ : T_Message_Field_What), 9)
 ) else (
  kind_All >>= fun rv =>
  schema_Check_l1 rv sv 0 ([] : (List (T_message_name × Bool))) ([] : (List (T_message_number × Bool))) >>= fun q2 =>
  match q2 with
  | .inl u3 => (
   some ((⟨0, 0, 0⟩ : T_Message_Field_What), 0)
  )
  | .inr u4 => (
   some ((⟨u4.1, u4.2.1, u4.2.2⟩ : T_Message_Field_What), 9)
  )
 )
theorem schema_Check_l2_inl {rv : (List Int)} {sv : (List T_Name_Fields)} {v2 : Int} {x : T_Name_Fields} {v3 : Int} {f6 : (List (T_message_name × Bool))} {f7 : (List (T_message_number × Bool))} {v3' : Int} {f6' : (List (T_message_name × Bool))} {f7' : (List (T_message_number × Bool))} (h : schema_Check_b2 rv sv v2 x v3 f6 f7 = some (.inl (v3', f6', f7'))) : schema_Check_l2 rv sv v2 x v3 f6 f7 = schema_Check_l2 rv sv v2 x v3' f6' f7' := whileO_inl (body := fun s : (Int × (List (T_message_name × Bool)) × (List (T_message_number × Bool))) => schema_Check_b2 rv sv v2 x s.1 s.2.1 s.2.2) h
theorem schema_Check_l2_inr {rv : (List Int)} {sv : (List T_Name_Fields)} {v2 : Int} {x : T_Name_Fields} {v3 : Int} {f6 : (List (T_message_name × Bool))} {f7 : (List (T_message_number × Bool))} {oo_ : (((List (T_message_name × Bool)) × (List (T_message_number × Bool))) ⊕ (Int × Int))} (h : schema_Check_b2 rv sv v2 x v3 f6 f7 = some (.inr oo_)) : schema_Check_l2 rv sv v2 x v3 f6 f7 = some oo_ := whileO_inr (body := fun s : (Int × (List (T_message_name × Bool)) × (List (T_message_number × Bool))) => schema_Check_b2 rv sv v2 x s.1 s.2.1 s.2.2) h
theorem schema_Check_l1_inl {rv : (List Int)} {sv : (List T_Name_Fields)} {v2 : Int} {f : (List (T_message_name × Bool))} {f2 : (List (T_message_number × Bool))} {v2' : Int} {f' : (List (T_message_name × Bool))} {f2' : (List (T_message_number × Bool))} (h : schema_Check_b1 rv sv v2 f f2 = some (.inl (v2', f', f2'))) : schema_Check_l1 rv sv v2 f f2 = schema_Check_l1 rv sv v2' f' f2' := whileO_inl (body := fun s : (Int × (List (T_message_name × Bool)) × (List (T_message_number × Bool))) => schema_Check_b1 rv sv s.1 s.2.1 s.2.2) h
theorem schema_Check_l1_inr {rv : (List Int)} {sv : (List T_Name_Fields)} {v2 : Int} {f : (List (T_message_name × Bool))} {f2 : (List (T_message_number × Bool))} {oo_ : (Unit ⊕ (Int × Int × Int))} (h : schema_Check_b1 rv sv v2 f f2 = some (.inr oo_)) : schema_Check_l1 rv sv v2 f f2 = some oo_ := whileO_inr (body := fun s : (Int × (List (T_message_name × Bool)) × (List (T_message_number × Bool))) => schema_Check_b1 rv sv s.1 s.2.1 s.2.2) h
def schema_Right (sv : (List T_Name_Fields)) : Option Bool :=
 schema_Check sv >>= fun rv =>
 some (rv.2 == 0)
def darninglaw07_alive  : Option Bool :=
 (
  schema_Right ([(⟨[97], []⟩ : T_Name_Fields)] : (List T_Name_Fields)) >>= fun rv =>
  if rv then (
   schema_Right ([] : (List T_Name_Fields)) >>= fun rv2 =>
   some (!rv2)
  ) else (
   some false
  )
 ) >>= fun g =>
 some g
def schema_Message_1 (m : T_Name_Fields) (v : Str) : Option Bool :=
 some (m.Name == v)
def slices_IndexFunc_api_Schema_api_Message___schema_Message_1_b1 (sv : (List T_Name_Fields)) (v : Str) (v2 : Int) : Option (Int ⊕ (Unit ⊕ Int)) :=
 if (decide (v2 < (sv.length : Int))) then (
  idx sv v2 >>= fun x =>
  schema_Message_1 x v >>= fun rv =>
  if rv then (
   some (.inr (.inr v2))
  ) else (
   some (.inl (IntKind.i64.wrap (v2 + 1)))
  )
 ) else (
  some (.inr (.inl ()))
 )
def slices_IndexFunc_api_Schema_api_Message___schema_Message_1_l1 (sv : (List T_Name_Fields)) (v : Str) (v2 : Int) : Option (Unit ⊕ Int) := whileO (fun s : Int => slices_IndexFunc_api_Schema_api_Message___schema_Message_1_b1 sv v s) v2
def slices_IndexFunc_api_Schema_api_Message___schema_Message_1 (sv : (List T_Name_Fields)) (v : Str) : Option Int :=
 slices_IndexFunc_api_Schema_api_Message___schema_Message_1_l1 sv v 0 >>= fun q =>
 match q with
 | .inl u => (
  some (-1)
 )
 | .inr u2 => (
  some u2
 )
theorem slices_IndexFunc_api_Schema_api_Message___schema_Message_1_l1_inl {sv : (List T_Name_Fields)} {v : Str} {v2 : Int} {v2' : Int} (h : slices_IndexFunc_api_Schema_api_Message___schema_Message_1_b1 sv v v2 = some (.inl v2')) : slices_IndexFunc_api_Schema_api_Message___schema_Message_1_l1 sv v v2 = slices_IndexFunc_api_Schema_api_Message___schema_Message_1_l1 sv v v2' := whileO_inl (body := fun s : Int => slices_IndexFunc_api_Schema_api_Message___schema_Message_1_b1 sv v s) h
theorem slices_IndexFunc_api_Schema_api_Message___schema_Message_1_l1_inr {sv : (List T_Name_Fields)} {v : Str} {v2 : Int} {oo_ : (Unit ⊕ Int)} (h : slices_IndexFunc_api_Schema_api_Message___schema_Message_1_b1 sv v v2 = some (.inr oo_)) : slices_IndexFunc_api_Schema_api_Message___schema_Message_1_l1 sv v v2 = some oo_ := whileO_inr (body := fun s : Int => slices_IndexFunc_api_Schema_api_Message___schema_Message_1_b1 sv v s) h
def schema_Message (sv : (List T_Name_Fields)) (name : Str) : Option (Int × Int) :=
 slices_IndexFunc_api_Schema_api_Message___schema_Message_1 sv name >>= fun rv =>
 if (decide (rv < 0)) then (
  some (0, 11)
 ) else (
  some (rv, 0)
 )
def schema_ByNumber_1 (f : T_Name_Number_Kind_Repeated_Packed_Of) (v : Int) : Option Bool :=
 some (f.Number == v)
def slices_IndexFunc___api_Field_api_Field___schema_ByNumber_1_b1 (sv : (List T_Name_Number_Kind_Repeated_Packed_Of)) (v : Int) (v2 : Int) : Option (Int ⊕ (Unit ⊕ Int)) :=
 if (decide (v2 < (sv.length : Int))) then (
  idx sv v2 >>= fun x =>
  schema_ByNumber_1 x v >>= fun rv =>
  if rv then (
   some (.inr (.inr v2))
  ) else (
   some (.inl (IntKind.i64.wrap (v2 + 1)))
  )
 ) else (
  some (.inr (.inl ()))
 )
def slices_IndexFunc___api_Field_api_Field___schema_ByNumber_1_l1 (sv : (List T_Name_Number_Kind_Repeated_Packed_Of)) (v : Int) (v2 : Int) : Option (Unit ⊕ Int) := whileO (fun s : Int => slices_IndexFunc___api_Field_api_Field___schema_ByNumber_1_b1 sv v s) v2
def slices_IndexFunc___api_Field_api_Field___schema_ByNumber_1 (sv : (List T_Name_Number_Kind_Repeated_Packed_Of)) (v : Int) : Option Int :=
 slices_IndexFunc___api_Field_api_Field___schema_ByNumber_1_l1 sv v 0 >>= fun q =>
 match q with
 | .inl u => (
  some (-1)
 )
 | .inr u2 => (
  some u2
 )
theorem slices_IndexFunc___api_Field_api_Field___schema_ByNumber_1_l1_inl {sv : (List T_Name_Number_Kind_Repeated_Packed_Of)} {v : Int} {v2 : Int} {v2' : Int} (h : slices_IndexFunc___api_Field_api_Field___schema_ByNumber_1_b1 sv v v2 = some (.inl v2')) : slices_IndexFunc___api_Field_api_Field___schema_ByNumber_1_l1 sv v v2 = slices_IndexFunc___api_Field_api_Field___schema_ByNumber_1_l1 sv v v2' := whileO_inl (body := fun s : Int => slices_IndexFunc___api_Field_api_Field___schema_ByNumber_1_b1 sv v s) h
theorem slices_IndexFunc___api_Field_api_Field___schema_ByNumber_1_l1_inr {sv : (List T_Name_Number_Kind_Repeated_Packed_Of)} {v : Int} {v2 : Int} {oo_ : (Unit ⊕ Int)} (h : slices_IndexFunc___api_Field_api_Field___schema_ByNumber_1_b1 sv v v2 = some (.inr oo_)) : slices_IndexFunc___api_Field_api_Field___schema_ByNumber_1_l1 sv v v2 = some oo_ := whileO_inr (body := fun s : Int => slices_IndexFunc___api_Field_api_Field___schema_ByNumber_1_b1 sv v s) h
def schema_first__schema_ByNumber_1 (m : T_Name_Fields) (v : Int) : Option (Int × Bool) :=
 slices_IndexFunc___api_Field_api_Field___schema_ByNumber_1 m.Fields v >>= fun rv =>
 some ((if rv < 0 then 0 else rv), (decide (rv ≥ 0)))
def schema_ByNumber (m : T_Name_Fields) (number : Int) : Option (Int × Bool) :=
 schema_first__schema_ByNumber_1 m number >>= fun rv =>
 some (rv.1, rv.2)
def schema_ByName_1 (f : T_Name_Number_Kind_Repeated_Packed_Of) (v : Str) : Option Bool :=
 some (f.Name == v)
def slices_IndexFunc___api_Field_api_Field___schema_ByName_1_b1 (sv : (List T_Name_Number_Kind_Repeated_Packed_Of)) (v : Str) (v2 : Int) : Option (Int ⊕ (Unit ⊕ Int)) :=
 if (decide (v2 < (sv.length : Int))) then (
  idx sv v2 >>= fun x =>
  schema_ByName_1 x v >>= fun rv =>
  if rv then (
   some (.inr (.inr v2))
  ) else (
   some (.inl (IntKind.i64.wrap (v2 + 1)))
  )
 ) else (
  some (.inr (.inl ()))
 )
def slices_IndexFunc___api_Field_api_Field___schema_ByName_1_l1 (sv : (List T_Name_Number_Kind_Repeated_Packed_Of)) (v : Str) (v2 : Int) : Option (Unit ⊕ Int) := whileO (fun s : Int => slices_IndexFunc___api_Field_api_Field___schema_ByName_1_b1 sv v s) v2
def slices_IndexFunc___api_Field_api_Field___schema_ByName_1 (sv : (List T_Name_Number_Kind_Repeated_Packed_Of)) (v : Str) : Option Int :=
 slices_IndexFunc___api_Field_api_Field___schema_ByName_1_l1 sv v 0 >>= fun q =>
 match q with
 | .inl u => (
  some (-1)
 )
 | .inr u2 => (
  some u2
 )
theorem slices_IndexFunc___api_Field_api_Field___schema_ByName_1_l1_inl {sv : (List T_Name_Number_Kind_Repeated_Packed_Of)} {v : Str} {v2 : Int} {v2' : Int} (h : slices_IndexFunc___api_Field_api_Field___schema_ByName_1_b1 sv v v2 = some (.inl v2')) : slices_IndexFunc___api_Field_api_Field___schema_ByName_1_l1 sv v v2 = slices_IndexFunc___api_Field_api_Field___schema_ByName_1_l1 sv v v2' := whileO_inl (body := fun s : Int => slices_IndexFunc___api_Field_api_Field___schema_ByName_1_b1 sv v s) h
theorem slices_IndexFunc___api_Field_api_Field___schema_ByName_1_l1_inr {sv : (List T_Name_Number_Kind_Repeated_Packed_Of)} {v : Str} {v2 : Int} {oo_ : (Unit ⊕ Int)} (h : slices_IndexFunc___api_Field_api_Field___schema_ByName_1_b1 sv v v2 = some (.inr oo_)) : slices_IndexFunc___api_Field_api_Field___schema_ByName_1_l1 sv v v2 = some oo_ := whileO_inr (body := fun s : Int => slices_IndexFunc___api_Field_api_Field___schema_ByName_1_b1 sv v s) h
def schema_first__schema_ByName_1 (m : T_Name_Fields) (v : Str) : Option (Int × Bool) :=
 slices_IndexFunc___api_Field_api_Field___schema_ByName_1 m.Fields v >>= fun rv =>
 some ((if rv < 0 then 0 else rv), (decide (rv ≥ 0)))
def schema_ByName (m : T_Name_Fields) (name : Str) : Option (Int × Bool) :=
 schema_first__schema_ByName_1 m name >>= fun rv =>
 some (rv.1, rv.2)
def darningref07_Field_b1 (m : T_Name_Fields) (number : Int) (i : Int) : Option (Int ⊕ (Unit ⊕ Int)) :=
 if (decide (i < (m.Fields.length : Int))) then (
  idx m.Fields i >>= fun x =>
  if (x.Number == number) then (
   some (.inr (.inr i))
  ) else (
   some (.inl (IntKind.i64.wrap (i + 1)))
  )
 ) else (
  some (.inr (.inl ()))
 )
def darningref07_Field_l1 (m : T_Name_Fields) (number : Int) (i : Int) : Option (Unit ⊕ Int) := whileO (fun s : Int => darningref07_Field_b1 m number s) i
def darningref07_Field (m : T_Name_Fields) (number : Int) : Option Int :=
 darningref07_Field_l1 m number 0 >>= fun q =>
 match q with
 | .inl u => (
  some (-1)
 )
 | .inr u2 => (
  some u2
 )
theorem darningref07_Field_l1_inl {m : T_Name_Fields} {number : Int} {i : Int} {i' : Int} (h : darningref07_Field_b1 m number i = some (.inl i')) : darningref07_Field_l1 m number i = darningref07_Field_l1 m number i' := whileO_inl (body := fun s : Int => darningref07_Field_b1 m number s) h
theorem darningref07_Field_l1_inr {m : T_Name_Fields} {number : Int} {i : Int} {oo_ : (Unit ⊕ Int)} (h : darningref07_Field_b1 m number i = some (.inr oo_)) : darningref07_Field_l1 m number i = some oo_ := whileO_inr (body := fun s : Int => darningref07_Field_b1 m number s) h
def darningref07_Named_b1 (m : T_Name_Fields) (name : Str) (i : Int) : Option (Int ⊕ (Unit ⊕ Int)) :=
 if (decide (i < (m.Fields.length : Int))) then (
  idx m.Fields i >>= fun x =>
  if (x.Name == name) then (
   some (.inr (.inr i))
  ) else (
   some (.inl (IntKind.i64.wrap (i + 1)))
  )
 ) else (
  some (.inr (.inl ()))
 )
def darningref07_Named_l1 (m : T_Name_Fields) (name : Str) (i : Int) : Option (Unit ⊕ Int) := whileO (fun s : Int => darningref07_Named_b1 m name s) i
def darningref07_Named (m : T_Name_Fields) (name : Str) : Option Int :=
 darningref07_Named_l1 m name 0 >>= fun q =>
 match q with
 | .inl u => (
  some (-1)
 )
 | .inr u2 => (
  some u2
 )
theorem darningref07_Named_l1_inl {m : T_Name_Fields} {name : Str} {i : Int} {i' : Int} (h : darningref07_Named_b1 m name i = some (.inl i')) : darningref07_Named_l1 m name i = darningref07_Named_l1 m name i' := whileO_inl (body := fun s : Int => darningref07_Named_b1 m name s) h
theorem darningref07_Named_l1_inr {m : T_Name_Fields} {name : Str} {i : Int} {oo_ : (Unit ⊕ Int)} (h : darningref07_Named_b1 m name i = some (.inr oo_)) : darningref07_Named_l1 m name i = some oo_ := whileO_inr (body := fun s : Int => darningref07_Named_b1 m name s) h
def schema_Sorted_1 (i : Int) (j : Int) (v : T_Name_Fields) : Option Int :=
 idx v.Fields i >>= fun x =>
 idx v.Fields j >>= fun x2 =>
 cmp_Compare_int_ x.Number x2.Number >>= fun rv =>
 some rv
def slices_insertionSortCmpFunc_int___schema_Sorted_1_b2 (av : Int) (v : T_Name_Fields) (data4 : (List Int)) (j : Int) : Option (((List Int) × Int) ⊕ (List Int)) :=
 (
  if (decide (j > av)) then (
   idx data4 j >>= fun x =>
   idx data4 (IntKind.i64.wrap (j - 1)) >>= fun x2 =>
   schema_Sorted_1 x x2 v >>= fun rv =>
   some (decide (rv < 0))
  ) else (
   some false
  )
 ) >>= fun g =>
 if g then (
  idx data4 (IntKind.i64.wrap (j - 1)) >>= fun x3 =>
  idx data4 j >>= fun x4 =>
  idx data4 j >>= fun x5 =>
  idx data4 (IntKind.i64.wrap (j - 1)) >>= fun x6 =>
  idx (data4.set (Int.toNat j) x3) (IntKind.i64.wrap (j - 1)) >>= fun x7 =>
  some (.inl (((data4.set (Int.toNat j) x3).set (Int.toNat (IntKind.i64.wrap (j - 1))) x4), (IntKind.i64.wrap (j - 1))))
 ) else (
  some (.inr data4)
 )
def slices_insertionSortCmpFunc_int___schema_Sorted_1_l2 (av : Int) (v : T_Name_Fields) (data4 : (List Int)) (j : Int) : Option (List Int) := whileO (fun s : ((List Int) × Int) => slices_insertionSortCmpFunc_int___schema_Sorted_1_b2 av v s.1 s.2) (data4, j)
def slices_insertionSortCmpFunc_int___schema_Sorted_1_b1 (av : Int) (b : Int) (v : T_Name_Fields) (data2 : (List Int)) (i : Int) : Option (((List Int) × Int) ⊕ (List Int)) :=
 if (decide (i < b)) then (
  slices_insertionSortCmpFunc_int___schema_Sorted_1_l2 av v data2 i >>= fun q =>
  some (.inl (q, (IntKind.i64.wrap (i + 1))))
 ) else (
  some (.inr data2)
 )
def slices_insertionSortCmpFunc_int___schema_Sorted_1_l1 (av : Int) (b : Int) (v : T_Name_Fields) (data2 : (List Int)) (i : Int) : Option (List Int) := whileO (fun s : ((List Int) × Int) => slices_insertionSortCmpFunc_int___schema_Sorted_1_b1 av b v s.1 s.2) (data2, i)
def slices_insertionSortCmpFunc_int___schema_Sorted_1 (data : (List Int)) (av : Int) (b : Int) (v : T_Name_Fields) : Option (List Int) :=
 slices_insertionSortCmpFunc_int___schema_Sorted_1_l1 av b v data (IntKind.i64.wrap (av + 1)) >>= fun q2 =>
 some q2
theorem slices_insertionSortCmpFunc_int___schema_Sorted_1_l2_inl {av : Int} {v : T_Name_Fields} {data4 : (List Int)} {j : Int} {data4' : (List Int)} {j' : Int} (h : slices_insertionSortCmpFunc_int___schema_Sorted_1_b2 av v data4 j = some (.inl (data4', j'))) : slices_insertionSortCmpFunc_int___schema_Sorted_1_l2 av v data4 j = slices_insertionSortCmpFunc_int___schema_Sorted_1_l2 av v data4' j' := whileO_inl (body := fun s : ((List Int) × Int) => slices_insertionSortCmpFunc_int___schema_Sorted_1_b2 av v s.1 s.2) h
theorem slices_insertionSortCmpFunc_int___schema_Sorted_1_l2_inr {av : Int} {v : T_Name_Fields} {data4 : (List Int)} {j : Int} {oo_ : (List Int)} (h : slices_insertionSortCmpFunc_int___schema_Sorted_1_b2 av v data4 j = some (.inr oo_)) : slices_insertionSortCmpFunc_int___schema_Sorted_1_l2 av v data4 j = some oo_ := whileO_inr (body := fun s : ((List Int) × Int) => slices_insertionSortCmpFunc_int___schema_Sorted_1_b2 av v s.1 s.2) h
theorem slices_insertionSortCmpFunc_int___schema_Sorted_1_l1_inl {av : Int} {b : Int} {v : T_Name_Fields} {data2 : (List Int)} {i : Int} {data2' : (List Int)} {i' : Int} (h : slices_insertionSortCmpFunc_int___schema_Sorted_1_b1 av b v data2 i = some (.inl (data2', i'))) : slices_insertionSortCmpFunc_int___schema_Sorted_1_l1 av b v data2 i = slices_insertionSortCmpFunc_int___schema_Sorted_1_l1 av b v data2' i' := whileO_inl (body := fun s : ((List Int) × Int) => slices_insertionSortCmpFunc_int___schema_Sorted_1_b1 av b v s.1 s.2) h
theorem slices_insertionSortCmpFunc_int___schema_Sorted_1_l1_inr {av : Int} {b : Int} {v : T_Name_Fields} {data2 : (List Int)} {i : Int} {oo_ : (List Int)} (h : slices_insertionSortCmpFunc_int___schema_Sorted_1_b1 av b v data2 i = some (.inr oo_)) : slices_insertionSortCmpFunc_int___schema_Sorted_1_l1 av b v data2 i = some oo_ := whileO_inr (body := fun s : ((List Int) × Int) => slices_insertionSortCmpFunc_int___schema_Sorted_1_b1 av b v s.1 s.2) h
def slices_swapRangeCmpFunc_int___schema_Sorted_1_b1 (av : Int) (b : Int) (n : Int) (data2 : (List Int)) (i : Int) : Option (((List Int) × Int) ⊕ (List Int)) :=
 if (decide (i < n)) then (
  idx data2 (IntKind.i64.wrap (b + i)) >>= fun x =>
  idx data2 (IntKind.i64.wrap (av + i)) >>= fun x2 =>
  idx data2 (IntKind.i64.wrap (av + i)) >>= fun x3 =>
  idx data2 (IntKind.i64.wrap (b + i)) >>= fun x4 =>
  idx (data2.set (Int.toNat (IntKind.i64.wrap (av + i))) x) (IntKind.i64.wrap (b + i)) >>= fun x5 =>
  some (.inl (((data2.set (Int.toNat (IntKind.i64.wrap (av + i))) x).set (Int.toNat (IntKind.i64.wrap (b + i))) x2), (IntKind.i64.wrap (i + 1))))
 ) else (
  some (.inr data2)
 )
def slices_swapRangeCmpFunc_int___schema_Sorted_1_l1 (av : Int) (b : Int) (n : Int) (data2 : (List Int)) (i : Int) : Option (List Int) := whileO (fun s : ((List Int) × Int) => slices_swapRangeCmpFunc_int___schema_Sorted_1_b1 av b n s.1 s.2) (data2, i)
def slices_swapRangeCmpFunc_int___schema_Sorted_1 (data : (List Int)) (av : Int) (b : Int) (n : Int) (v : T_Name_Fields) : Option (List Int) :=
 slices_swapRangeCmpFunc_int___schema_Sorted_1_l1 av b n data 0 >>= fun q =>
 some q
theorem slices_swapRangeCmpFunc_int___schema_Sorted_1_l1_inl {av : Int} {b : Int} {n : Int} {data2 : (List Int)} {i : Int} {data2' : (List Int)} {i' : Int} (h : slices_swapRangeCmpFunc_int___schema_Sorted_1_b1 av b n data2 i = some (.inl (data2', i'))) : slices_swapRangeCmpFunc_int___schema_Sorted_1_l1 av b n data2 i = slices_swapRangeCmpFunc_int___schema_Sorted_1_l1 av b n data2' i' := whileO_inl (body := fun s : ((List Int) × Int) => slices_swapRangeCmpFunc_int___schema_Sorted_1_b1 av b n s.1 s.2) h
theorem slices_swapRangeCmpFunc_int___schema_Sorted_1_l1_inr {av : Int} {b : Int} {n : Int} {data2 : (List Int)} {i : Int} {oo_ : (List Int)} (h : slices_swapRangeCmpFunc_int___schema_Sorted_1_b1 av b n data2 i = some (.inr oo_)) : slices_swapRangeCmpFunc_int___schema_Sorted_1_l1 av b n data2 i = some oo_ := whileO_inr (body := fun s : ((List Int) × Int) => slices_swapRangeCmpFunc_int___schema_Sorted_1_b1 av b n s.1 s.2) h
def slices_rotateCmpFunc_int___schema_Sorted_1_b1 (m : Int) (v : T_Name_Fields) (data2 : (List Int)) (i : Int) (j : Int) : Option (((List Int) × Int × Int) ⊕ ((List Int) × Int)) :=
 if (i != j) then (
  if (decide (i > j)) then (
   slices_swapRangeCmpFunc_int___schema_Sorted_1 data2 (IntKind.i64.wrap (m - i)) m j v >>= fun rv2 =>
   some (.inl (rv2, (IntKind.i64.wrap (i - j)), j))
  ) else (
   slices_swapRangeCmpFunc_int___schema_Sorted_1 data2 (IntKind.i64.wrap (m - i)) (IntKind.i64.wrap ((IntKind.i64.wrap (m + j)) - i)) i v >>= fun rv4 =>
   some (.inl (rv4, i, (IntKind.i64.wrap (j - i))))
  )
 ) else (
  some (.inr (data2, i))
 )
def slices_rotateCmpFunc_int___schema_Sorted_1_l1 (m : Int) (v : T_Name_Fields) (data2 : (List Int)) (i : Int) (j : Int) : Option ((List Int) × Int) := whileO (fun s : ((List Int) × Int × Int) => slices_rotateCmpFunc_int___schema_Sorted_1_b1 m v s.1 s.2.1 s.2.2) (data2, i, j)
def slices_rotateCmpFunc_int___schema_Sorted_1 (data : (List Int)) (av : Int) (m : Int) (b : Int) (v : T_Name_Fields) : Option (List Int) :=
 slices_rotateCmpFunc_int___schema_Sorted_1_l1 m v data (IntKind.i64.wrap (m - av)) (IntKind.i64.wrap (b - m)) >>= fun q =>
 slices_swapRangeCmpFunc_int___schema_Sorted_1 q.1 (IntKind.i64.wrap (m - q.2)) m q.2 v >>= fun rv6 =>
 some rv6
theorem slices_rotateCmpFunc_int___schema_Sorted_1_l1_inl {m : Int} {v : T_Name_Fields} {data2 : (List Int)} {i : Int} {j : Int} {data2' : (List Int)} {i' : Int} {j' : Int} (h : slices_rotateCmpFunc_int___schema_Sorted_1_b1 m v data2 i j = some (.inl (data2', i', j'))) : slices_rotateCmpFunc_int___schema_Sorted_1_l1 m v data2 i j = slices_rotateCmpFunc_int___schema_Sorted_1_l1 m v data2' i' j' := whileO_inl (body := fun s : ((List Int) × Int × Int) => slices_rotateCmpFunc_int___schema_Sorted_1_b1 m v s.1 s.2.1 s.2.2) h
theorem slices_rotateCmpFunc_int___schema_Sorted_1_l1_inr {m : Int} {v : T_Name_Fields} {data2 : (List Int)} {i : Int} {j : Int} {oo_ : ((List Int) × Int)} (h : slices_rotateCmpFunc_int___schema_Sorted_1_b1 m v data2 i j = some (.inr oo_)) : slices_rotateCmpFunc_int___schema_Sorted_1_l1 m v data2 i j = some oo_ := whileO_inr (body := fun s : ((List Int) × Int × Int) => slices_rotateCmpFunc_int___schema_Sorted_1_b1 m v s.1 s.2.1 s.2.2) h
def slices_symMergeCmpFunc_int___schema_Sorted_1_b1 (av : Int) (data : (List Int)) (v : T_Name_Fields) (i : Int) (j : Int) : Option ((Int × Int) ⊕ Int) :=
 if (decide (i < j)) then (
  idx data (IntKind.i64.wrap (shrI .u64 (IntKind.u64.wrap (IntKind.i64.wrap (i + j))) 1)) >>= fun x =>
  idx data av >>= fun x2 =>
  schema_Sorted_1 x x2 v >>= fun rv =>
  if (decide (rv < 0)) then (
   some (.inl ((IntKind.i64.wrap ((IntKind.i64.wrap (shrI .u64 (IntKind.u64.wrap (IntKind.i64.wrap (i + j))) 1)) + 1)), j))
  ) else (
   some (.inl (i, (IntKind.i64.wrap (shrI .u64 (IntKind.u64.wrap (IntKind.i64.wrap (i + j))) 1))))
  )
 ) else (
  some (.inr i)
 )
def slices_symMergeCmpFunc_int___schema_Sorted_1_l1 (av : Int) (data : (List Int)) (v : T_Name_Fields) (i : Int) (j : Int) : Option Int := whileO (fun s : (Int × Int) => slices_symMergeCmpFunc_int___schema_Sorted_1_b1 av data v s.1 s.2) (i, j)
def slices_symMergeCmpFunc_int___schema_Sorted_1_b2 (q : Int) (data2 : (List Int)) (k : Int) : Option (((List Int) × Int) ⊕ (List Int)) :=
 if (decide (k < (IntKind.i64.wrap (q - 1)))) then (
  idx data2 (IntKind.i64.wrap (k + 1)) >>= fun x3 =>
  idx data2 k >>= fun x4 =>
  idx data2 k >>= fun x5 =>
  idx data2 (IntKind.i64.wrap (k + 1)) >>= fun x6 =>
  idx (data2.set (Int.toNat k) x3) (IntKind.i64.wrap (k + 1)) >>= fun x7 =>
  some (.inl (((data2.set (Int.toNat k) x3).set (Int.toNat (IntKind.i64.wrap (k + 1))) x4), (IntKind.i64.wrap (k + 1))))
 ) else (
  some (.inr data2)
 )
def slices_symMergeCmpFunc_int___schema_Sorted_1_l2 (q : Int) (data2 : (List Int)) (k : Int) : Option (List Int) := whileO (fun s : ((List Int) × Int) => slices_symMergeCmpFunc_int___schema_Sorted_1_b2 q s.1 s.2) (data2, k)
def slices_symMergeCmpFunc_int___schema_Sorted_1_b3 (data : (List Int)) (m : Int) (v : T_Name_Fields) (i3 : Int) (j2 : Int) : Option ((Int × Int) ⊕ Int) :=
 if (decide (i3 < j2)) then (
  idx data m >>= fun x8 =>
  idx data (IntKind.i64.wrap (shrI .u64 (IntKind.u64.wrap (IntKind.i64.wrap (i3 + j2))) 1)) >>= fun x9 =>
  schema_Sorted_1 x8 x9 v >>= fun rv2 =>
  if (!(decide (rv2 < 0))) then (
   some (.inl ((IntKind.i64.wrap ((IntKind.i64.wrap (shrI .u64 (IntKind.u64.wrap (IntKind.i64.wrap (i3 + j2))) 1)) + 1)), j2))
  ) else (
   some (.inl (i3, (IntKind.i64.wrap (shrI .u64 (IntKind.u64.wrap (IntKind.i64.wrap (i3 + j2))) 1))))
  )
 ) else (
  some (.inr i3)
 )
def slices_symMergeCmpFunc_int___schema_Sorted_1_l3 (data : (List Int)) (m : Int) (v : T_Name_Fields) (i3 : Int) (j2 : Int) : Option Int := whileO (fun s : (Int × Int) => slices_symMergeCmpFunc_int___schema_Sorted_1_b3 data m v s.1 s.2) (i3, j2)
def slices_symMergeCmpFunc_int___schema_Sorted_1_b4 (q3 : Int) (data4 : (List Int)) (k2 : Int) : Option (((List Int) × Int) ⊕ (List Int)) :=
 if (decide (k2 > q3)) then (
  idx data4 (IntKind.i64.wrap (k2 - 1)) >>= fun x10 =>
  idx data4 k2 >>= fun x11 =>
  idx data4 k2 >>= fun x12 =>
  idx data4 (IntKind.i64.wrap (k2 - 1)) >>= fun x13 =>
  idx (data4.set (Int.toNat k2) x10) (IntKind.i64.wrap (k2 - 1)) >>= fun x14 =>
  some (.inl (((data4.set (Int.toNat k2) x10).set (Int.toNat (IntKind.i64.wrap (k2 - 1))) x11), (IntKind.i64.wrap (k2 - 1))))
 ) else (
  some (.inr data4)
 )
def slices_symMergeCmpFunc_int___schema_Sorted_1_l4 (q3 : Int) (data4 : (List Int)) (k2 : Int) : Option (List Int) := whileO (fun s : ((List Int) × Int) => slices_symMergeCmpFunc_int___schema_Sorted_1_b4 q3 s.1 s.2) (data4, k2)
def slices_symMergeCmpFunc_int___schema_Sorted_1_b5 (av : Int) (b : Int) (data : (List Int)) (m : Int) (v : T_Name_Fields) (start2 : Int) (rv4 : Int) : Option ((Int × Int) ⊕ Int) :=
 if (decide (start2 < rv4)) then (
  idx data (IntKind.i64.wrap ((IntKind.i64.wrap ((IntKind.i64.wrap ((IntKind.i64.wrap (shrI .u64 (IntKind.u64.wrap (IntKind.i64.wrap (av + b))) 1)) + m)) - 1)) - (IntKind.i64.wrap (shrI .u64 (IntKind.u64.wrap (IntKind.i64.wrap (start2 + rv4))) 1)))) >>= fun x15 =>
  idx data (IntKind.i64.wrap (shrI .u64 (IntKind.u64.wrap (IntKind.i64.wrap (start2 + rv4))) 1)) >>= fun x16 =>
  schema_Sorted_1 x15 x16 v >>= fun rv5 =>
  if (!(decide (rv5 < 0))) then (
   some (.inl ((IntKind.i64.wrap ((IntKind.i64.wrap (shrI .u64 (IntKind.u64.wrap (IntKind.i64.wrap (start2 + rv4))) 1)) + 1)), rv4))
  ) else (
   some (.inl (start2, (IntKind.i64.wrap (shrI .u64 (IntKind.u64.wrap (IntKind.i64.wrap (start2 + rv4))) 1))))
  )
 ) else (
  some (.inr start2)
 )
def slices_symMergeCmpFunc_int___schema_Sorted_1_l5 (av : Int) (b : Int) (data : (List Int)) (m : Int) (v : T_Name_Fields) (start2 : Int) (rv4 : Int) : Option Int := whileO (fun s : (Int × Int) => slices_symMergeCmpFunc_int___schema_Sorted_1_b5 av b data m v s.1 s.2) (start2, rv4)
def slices_symMergeCmpFunc_int___schema_Sorted_1_f (rec_slices_symMergeCmpFunc_int___schema_Sorted_1 : (List Int) → Int → Int → Int → T_Name_Fields → Option (List Int)) (data : (List Int)) (av : Int) (m : Int) (b : Int) (v : T_Name_Fields) : Option (List Int) :=
 if ((IntKind.i64.wrap (m - av)) == 1) then (
  slices_symMergeCmpFunc_int___schema_Sorted_1_l1 av data v m b >>= fun q =>
  slices_symMergeCmpFunc_int___schema_Sorted_1_l2 q data av >>= fun q2 =>
  some q2
 ) else (
  if ((IntKind.i64.wrap (b - m)) == 1) then (
   slices_symMergeCmpFunc_int___schema_Sorted_1_l3 data m v av m >>= fun q3 =>
   slices_symMergeCmpFunc_int___schema_Sorted_1_l4 q3 data m >>= fun q4 =>
   some q4
  ) else (
   ((
    if (decide (m > (IntKind.i64.wrap (shrI .u64 (IntKind.u64.wrap (IntKind.i64.wrap (av + b))) 1)))) then (
     some ((IntKind.i64.wrap ((IntKind.i64.wrap ((IntKind.i64.wrap (shrI .u64 (IntKind.u64.wrap (IntKind.i64.wrap (av + b))) 1)) + m)) - b)), (IntKind.i64.wrap (shrI .u64 (IntKind.u64.wrap (IntKind.i64.wrap (av + b))) 1)))
    ) else (
     some (av, m)
    )
    : Option (Int × Int))) >>= fun p =>
   slices_symMergeCmpFunc_int___schema_Sorted_1_l5 av b data m v p.1 p.2 >>= fun q5 =>
   ((
    if ((decide (q5 < m)) && (decide (m < (IntKind.i64.wrap ((IntKind.i64.wrap ((IntKind.i64.wrap (shrI .u64 (IntKind.u64.wrap (IntKind.i64.wrap (av + b))) 1)) + m)) - q5))))) then (
     slices_rotateCmpFunc_int___schema_Sorted_1 data q5 m (IntKind.i64.wrap ((IntKind.i64.wrap ((IntKind.i64.wrap (shrI .u64 (IntKind.u64.wrap (IntKind.i64.wrap (av + b))) 1)) + m)) - q5)) v >>= fun rv7 =>
     some rv7
    ) else (
     some data
    )
    : Option (List Int))) >>= fun p2 =>
   ((
    if ((decide (av < q5)) && (decide (q5 < (IntKind.i64.wrap (shrI .u64 (IntKind.u64.wrap (IntKind.i64.wrap (av + b))) 1))))) then (
     rec_slices_symMergeCmpFunc_int___schema_Sorted_1 p2 av q5 (IntKind.i64.wrap (shrI .u64 (IntKind.u64.wrap (IntKind.i64.wrap (av + b))) 1)) v >>= fun rv9 =>
     some rv9
    ) else (
     some p2
    )
    : Option (List Int))) >>= fun p3 =>
   if ((decide ((IntKind.i64.wrap (shrI .u64 (IntKind.u64.wrap (IntKind.i64.wrap (av + b))) 1)) < (IntKind.i64.wrap ((IntKind.i64.wrap ((IntKind.i64.wrap (shrI .u64 (IntKind.u64.wrap (IntKind.i64.wrap (av + b))) 1)) + m)) - q5)))) && (decide ((IntKind.i64.wrap ((IntKind.i64.wrap ((IntKind.i64.wrap (shrI .u64 (IntKind.u64.wrap (IntKind.i64.wrap (av + b))) 1)) + m)) - q5)) < b))) then (
    rec_slices_symMergeCmpFunc_int___schema_Sorted_1 p3 (IntKind.i64.wrap (shrI .u64 (IntKind.u64.wrap (IntKind.i64.wrap (av + b))) 1)) (IntKind.i64.wrap ((IntKind.i64.wrap ((IntKind.i64.wrap (shrI .u64 (IntKind.u64.wrap (IntKind.i64.wrap (av + b))) 1)) + m)) - q5)) b v >>= fun rv11 =>
    some rv11
   ) else (
    some p3
   )
  )
 )
def slices_symMergeCmpFunc_int___schema_Sorted_1 : Nat → (List Int) → Int → Int → Int → T_Name_Fields → Option (List Int)
  | 0, _, _, _, _, _ => none
  | fuel + 1, data, av, m, b, v => slices_symMergeCmpFunc_int___schema_Sorted_1_f (slices_symMergeCmpFunc_int___schema_Sorted_1 fuel) data av m b v
theorem slices_symMergeCmpFunc_int___schema_Sorted_1_l1_inl {av : Int} {data : (List Int)} {v : T_Name_Fields} {i : Int} {j : Int} {i' : Int} {j' : Int} (h : slices_symMergeCmpFunc_int___schema_Sorted_1_b1 av data v i j = some (.inl (i', j'))) : slices_symMergeCmpFunc_int___schema_Sorted_1_l1 av data v i j = slices_symMergeCmpFunc_int___schema_Sorted_1_l1 av data v i' j' := whileO_inl (body := fun s : (Int × Int) => slices_symMergeCmpFunc_int___schema_Sorted_1_b1 av data v s.1 s.2) h
theorem slices_symMergeCmpFunc_int___schema_Sorted_1_l1_inr {av : Int} {data : (List Int)} {v : T_Name_Fields} {i : Int} {j : Int} {oo_ : Int} (h : slices_symMergeCmpFunc_int___schema_Sorted_1_b1 av data v i j = some (.inr oo_)) : slices_symMergeCmpFunc_int___schema_Sorted_1_l1 av data v i j = some oo_ := whileO_inr (body := fun s : (Int × Int) => slices_symMergeCmpFunc_int___schema_Sorted_1_b1 av data v s.1 s.2) h
theorem slices_symMergeCmpFunc_int___schema_Sorted_1_l2_inl {q : Int} {data2 : (List Int)} {k : Int} {data2' : (List Int)} {k' : Int} (h : slices_symMergeCmpFunc_int___schema_Sorted_1_b2 q data2 k = some (.inl (data2', k'))) : slices_symMergeCmpFunc_int___schema_Sorted_1_l2 q data2 k = slices_symMergeCmpFunc_int___schema_Sorted_1_l2 q data2' k' := whileO_inl (body := fun s : ((List Int) × Int) => slices_symMergeCmpFunc_int___schema_Sorted_1_b2 q s.1 s.2) h
theorem slices_symMergeCmpFunc_int___schema_Sorted_1_l2_inr {q : Int} {data2 : (List Int)} {k : Int} {oo_ : (List Int)} (h : slices_symMergeCmpFunc_int___schema_Sorted_1_b2 q data2 k = some (.inr oo_)) : slices_symMergeCmpFunc_int___schema_Sorted_1_l2 q data2 k = some oo_ := whileO_inr (body := fun s : ((List Int) × Int) => slices_symMergeCmpFunc_int___schema_Sorted_1_b2 q s.1 s.2) h
theorem slices_symMergeCmpFunc_int___schema_Sorted_1_l3_inl {data : (List Int)} {m : Int} {v : T_Name_Fields} {i3 : Int} {j2 : Int} {i3' : Int} {j2' : Int} (h : slices_symMergeCmpFunc_int___schema_Sorted_1_b3 data m v i3 j2 = some (.inl (i3', j2'))) : slices_symMergeCmpFunc_int___schema_Sorted_1_l3 data m v i3 j2 = slices_symMergeCmpFunc_int___schema_Sorted_1_l3 data m v i3' j2' := whileO_inl (body := fun s : (Int × Int) => slices_symMergeCmpFunc_int___schema_Sorted_1_b3 data m v s.1 s.2) h
theorem slices_symMergeCmpFunc_int___schema_Sorted_1_l3_inr {data : (List Int)} {m : Int} {v : T_Name_Fields} {i3 : Int} {j2 : Int} {oo_ : Int} (h : slices_symMergeCmpFunc_int___schema_Sorted_1_b3 data m v i3 j2 = some (.inr oo_)) : slices_symMergeCmpFunc_int___schema_Sorted_1_l3 data m v i3 j2 = some oo_ := whileO_inr (body := fun s : (Int × Int) => slices_symMergeCmpFunc_int___schema_Sorted_1_b3 data m v s.1 s.2) h
theorem slices_symMergeCmpFunc_int___schema_Sorted_1_l4_inl {q3 : Int} {data4 : (List Int)} {k2 : Int} {data4' : (List Int)} {k2' : Int} (h : slices_symMergeCmpFunc_int___schema_Sorted_1_b4 q3 data4 k2 = some (.inl (data4', k2'))) : slices_symMergeCmpFunc_int___schema_Sorted_1_l4 q3 data4 k2 = slices_symMergeCmpFunc_int___schema_Sorted_1_l4 q3 data4' k2' := whileO_inl (body := fun s : ((List Int) × Int) => slices_symMergeCmpFunc_int___schema_Sorted_1_b4 q3 s.1 s.2) h
theorem slices_symMergeCmpFunc_int___schema_Sorted_1_l4_inr {q3 : Int} {data4 : (List Int)} {k2 : Int} {oo_ : (List Int)} (h : slices_symMergeCmpFunc_int___schema_Sorted_1_b4 q3 data4 k2 = some (.inr oo_)) : slices_symMergeCmpFunc_int___schema_Sorted_1_l4 q3 data4 k2 = some oo_ := whileO_inr (body := fun s : ((List Int) × Int) => slices_symMergeCmpFunc_int___schema_Sorted_1_b4 q3 s.1 s.2) h
theorem slices_symMergeCmpFunc_int___schema_Sorted_1_l5_inl {av : Int} {b : Int} {data : (List Int)} {m : Int} {v : T_Name_Fields} {start2 : Int} {rv4 : Int} {start2' : Int} {rv4' : Int} (h : slices_symMergeCmpFunc_int___schema_Sorted_1_b5 av b data m v start2 rv4 = some (.inl (start2', rv4'))) : slices_symMergeCmpFunc_int___schema_Sorted_1_l5 av b data m v start2 rv4 = slices_symMergeCmpFunc_int___schema_Sorted_1_l5 av b data m v start2' rv4' := whileO_inl (body := fun s : (Int × Int) => slices_symMergeCmpFunc_int___schema_Sorted_1_b5 av b data m v s.1 s.2) h
theorem slices_symMergeCmpFunc_int___schema_Sorted_1_l5_inr {av : Int} {b : Int} {data : (List Int)} {m : Int} {v : T_Name_Fields} {start2 : Int} {rv4 : Int} {oo_ : Int} (h : slices_symMergeCmpFunc_int___schema_Sorted_1_b5 av b data m v start2 rv4 = some (.inr oo_)) : slices_symMergeCmpFunc_int___schema_Sorted_1_l5 av b data m v start2 rv4 = some oo_ := whileO_inr (body := fun s : (Int × Int) => slices_symMergeCmpFunc_int___schema_Sorted_1_b5 av b data m v s.1 s.2) h
def slices_stableCmpFunc_int___schema_Sorted_1_b1 (n : Int) (v : T_Name_Fields) (data2 : (List Int)) (av : Int) (b : Int) : Option (((List Int) × Int × Int) ⊕ ((List Int) × Int)) :=
 if (decide (b ≤ n)) then (
  slices_insertionSortCmpFunc_int___schema_Sorted_1 data2 av b v >>= fun rv2 =>
  some (.inl (rv2, b, (IntKind.i64.wrap (b + 20))))
 ) else (
  some (.inr (data2, av))
 )
def slices_stableCmpFunc_int___schema_Sorted_1_l1 (n : Int) (v : T_Name_Fields) (data2 : (List Int)) (av : Int) (b : Int) : Option ((List Int) × Int) := whileO (fun s : ((List Int) × Int × Int) => slices_stableCmpFunc_int___schema_Sorted_1_b1 n v s.1 s.2.1 s.2.2) (data2, av, b)
def slices_stableCmpFunc_int___schema_Sorted_1_b3 (fuel : Nat) (blockSize : Int) (n : Int) (v : T_Name_Fields) (data6 : (List Int)) (av3 : Int) (b2 : Int) : Option (((List Int) × Int × Int) ⊕ ((List Int) × Int)) :=
 if (decide (b2 ≤ n)) then (
  slices_symMergeCmpFunc_int___schema_Sorted_1 fuel data6 av3 (IntKind.i64.wrap (av3 + blockSize)) b2 v >>= fun rv6 =>
  some (.inl (rv6, b2, (IntKind.i64.wrap (b2 + (IntKind.i64.wrap (2 * blockSize))))))
 ) else (
  some (.inr (data6, av3))
 )
def slices_stableCmpFunc_int___schema_Sorted_1_l3 (fuel : Nat) (blockSize : Int) (n : Int) (v : T_Name_Fields) (data6 : (List Int)) (av3 : Int) (b2 : Int) : Option ((List Int) × Int) := whileO (fun s : ((List Int) × Int × Int) => slices_stableCmpFunc_int___schema_Sorted_1_b3 fuel blockSize n v s.1 s.2.1 s.2.2) (data6, av3, b2)
def slices_stableCmpFunc_int___schema_Sorted_1_b2 (fuel : Nat) (n : Int) (v : T_Name_Fields) (data4 : (List Int)) (blockSize : Int) : Option (((List Int) × Int) ⊕ (List Int)) :=
 if (decide (blockSize < n)) then (
  slices_stableCmpFunc_int___schema_Sorted_1_l3 fuel blockSize n v data4 0 (IntKind.i64.wrap (2 * blockSize)) >>= fun q2 =>
  if (decide ((IntKind.i64.wrap (q2.2 + blockSize)) < n)) then (
   slices_symMergeCmpFunc_int___schema_Sorted_1 fuel q2.1 q2.2 (IntKind.i64.wrap (q2.2 + blockSize)) n v >>= fun rv8 =>
   some (.inl (rv8, (IntKind.i64.wrap (blockSize * 2))))
  ) else (
   some (.inl (q2.1, (IntKind.i64.wrap (blockSize * 2))))
  )
 ) else (
  some (.inr data4)
 )
def slices_stableCmpFunc_int___schema_Sorted_1_l2 (fuel : Nat) (n : Int) (v : T_Name_Fields) (data4 : (List Int)) (blockSize : Int) : Option (List Int) := whileO (fun s : ((List Int) × Int) => slices_stableCmpFunc_int___schema_Sorted_1_b2 fuel n v s.1 s.2) (data4, blockSize)
def slices_stableCmpFunc_int___schema_Sorted_1 (fuel : Nat) (data : (List Int)) (n : Int) (v : T_Name_Fields) : Option (List Int) :=
 slices_stableCmpFunc_int___schema_Sorted_1_l1 n v data 0 20 >>= fun q =>
 slices_insertionSortCmpFunc_int___schema_Sorted_1 q.1 q.2 n v >>= fun rv4 =>
 slices_stableCmpFunc_int___schema_Sorted_1_l2 fuel n v rv4 20 >>= fun q3 =>
 some q3
theorem slices_stableCmpFunc_int___schema_Sorted_1_l1_inl {n : Int} {v : T_Name_Fields} {data2 : (List Int)} {av : Int} {b : Int} {data2' : (List Int)} {av' : Int} {b' : Int} (h : slices_stableCmpFunc_int___schema_Sorted_1_b1 n v data2 av b = some (.inl (data2', av', b'))) : slices_stableCmpFunc_int___schema_Sorted_1_l1 n v data2 av b = slices_stableCmpFunc_int___schema_Sorted_1_l1 n v data2' av' b' := whileO_inl (body := fun s : ((List Int) × Int × Int) => slices_stableCmpFunc_int___schema_Sorted_1_b1 n v s.1 s.2.1 s.2.2) h
theorem slices_stableCmpFunc_int___schema_Sorted_1_l1_inr {n : Int} {v : T_Name_Fields} {data2 : (List Int)} {av : Int} {b : Int} {oo_ : ((List Int) × Int)} (h : slices_stableCmpFunc_int___schema_Sorted_1_b1 n v data2 av b = some (.inr oo_)) : slices_stableCmpFunc_int___schema_Sorted_1_l1 n v data2 av b = some oo_ := whileO_inr (body := fun s : ((List Int) × Int × Int) => slices_stableCmpFunc_int___schema_Sorted_1_b1 n v s.1 s.2.1 s.2.2) h
theorem slices_stableCmpFunc_int___schema_Sorted_1_l3_inl {fuel : Nat} {blockSize : Int} {n : Int} {v : T_Name_Fields} {data6 : (List Int)} {av3 : Int} {b2 : Int} {data6' : (List Int)} {av3' : Int} {b2' : Int} (h : slices_stableCmpFunc_int___schema_Sorted_1_b3 fuel blockSize n v data6 av3 b2 = some (.inl (data6', av3', b2'))) : slices_stableCmpFunc_int___schema_Sorted_1_l3 fuel blockSize n v data6 av3 b2 = slices_stableCmpFunc_int___schema_Sorted_1_l3 fuel blockSize n v data6' av3' b2' := whileO_inl (body := fun s : ((List Int) × Int × Int) => slices_stableCmpFunc_int___schema_Sorted_1_b3 fuel blockSize n v s.1 s.2.1 s.2.2) h
theorem slices_stableCmpFunc_int___schema_Sorted_1_l3_inr {fuel : Nat} {blockSize : Int} {n : Int} {v : T_Name_Fields} {data6 : (List Int)} {av3 : Int} {b2 : Int} {oo_ : ((List Int) × Int)} (h : slices_stableCmpFunc_int___schema_Sorted_1_b3 fuel blockSize n v data6 av3 b2 = some (.inr oo_)) : slices_stableCmpFunc_int___schema_Sorted_1_l3 fuel blockSize n v data6 av3 b2 = some oo_ := whileO_inr (body := fun s : ((List Int) × Int × Int) => slices_stableCmpFunc_int___schema_Sorted_1_b3 fuel blockSize n v s.1 s.2.1 s.2.2) h
theorem slices_stableCmpFunc_int___schema_Sorted_1_l2_inl {fuel : Nat} {n : Int} {v : T_Name_Fields} {data4 : (List Int)} {blockSize : Int} {data4' : (List Int)} {blockSize' : Int} (h : slices_stableCmpFunc_int___schema_Sorted_1_b2 fuel n v data4 blockSize = some (.inl (data4', blockSize'))) : slices_stableCmpFunc_int___schema_Sorted_1_l2 fuel n v data4 blockSize = slices_stableCmpFunc_int___schema_Sorted_1_l2 fuel n v data4' blockSize' := whileO_inl (body := fun s : ((List Int) × Int) => slices_stableCmpFunc_int___schema_Sorted_1_b2 fuel n v s.1 s.2) h
theorem slices_stableCmpFunc_int___schema_Sorted_1_l2_inr {fuel : Nat} {n : Int} {v : T_Name_Fields} {data4 : (List Int)} {blockSize : Int} {oo_ : (List Int)} (h : slices_stableCmpFunc_int___schema_Sorted_1_b2 fuel n v data4 blockSize = some (.inr oo_)) : slices_stableCmpFunc_int___schema_Sorted_1_l2 fuel n v data4 blockSize = some oo_ := whileO_inr (body := fun s : ((List Int) × Int) => slices_stableCmpFunc_int___schema_Sorted_1_b2 fuel n v s.1 s.2) h
def slices_SortStableFunc___int_int___schema_Sorted_1 (fuel : Nat) (x : (List Int)) (v : T_Name_Fields) : Option (List Int) :=
 slices_stableCmpFunc_int___schema_Sorted_1 fuel x (x.length : Int) v >>= fun rv2 =>
 some rv2
def schema_Sorted_b1 (v : (List Int)) (l : (List Int)) (v2 : Int) : Option (((List Int) × Int) ⊕ (List Int)) :=
 if (decide (v2 < (v.length : Int))) then (
  idx l v2 >>= fun x =>
  some (.inl ((l.set (Int.toNat v2) v2), (IntKind.i64.wrap (v2 + 1))))
 ) else (
  some (.inr l)
 )
def schema_Sorted_l1 (v : (List Int)) (l : (List Int)) (v2 : Int) : Option (List Int) := whileO (fun s : ((List Int) × Int) => schema_Sorted_b1 v s.1 s.2) (l, v2)
def schema_Sorted (fuel : Nat) (m : T_Name_Fields) : Option (List Int) :=
 mkO 8 (0 : Int) (m.Fields.length : Int) (m.Fields.length : Int) >>= fun v =>
 schema_Sorted_l1 v v 0 >>= fun q =>
 slices_SortStableFunc___int_int___schema_Sorted_1 fuel q m >>= fun rv2 =>
 some rv2
theorem schema_Sorted_l1_inl {v : (List Int)} {l : (List Int)} {v2 : Int} {l' : (List Int)} {v2' : Int} (h : schema_Sorted_b1 v l v2 = some (.inl (l', v2'))) : schema_Sorted_l1 v l v2 = schema_Sorted_l1 v l' v2' := whileO_inl (body := fun s : ((List Int) × Int) => schema_Sorted_b1 v s.1 s.2) h
theorem schema_Sorted_l1_inr {v : (List Int)} {l : (List Int)} {v2 : Int} {oo_ : (List Int)} (h : schema_Sorted_b1 v l v2 = some (.inr oo_)) : schema_Sorted_l1 v l v2 = some oo_ := whileO_inr (body := fun s : ((List Int) × Int) => schema_Sorted_b1 v s.1 s.2) h
def darningref07_Sorted_b2 (i : Int) (m : T_Name_Fields) (out : (List Int)) (k : Int) : Option (Int ⊕ Int) :=
 (
  if (decide (k < (out.length : Int))) then (
   idx out k >>= fun x =>
   idx m.Fields x >>= fun x2 =>
   idx m.Fields i >>= fun x3 =>
   some (decide (x2.Number ≤ x3.Number))
  ) else (
   some false
  )
 ) >>= fun g =>
 if g then (
  some (.inl (IntKind.i64.wrap (k + 1)))
 ) else (
  some (.inr k)
 )
def darningref07_Sorted_l2 (i : Int) (m : T_Name_Fields) (out : (List Int)) (k : Int) : Option Int := whileO (fun s : Int => darningref07_Sorted_b2 i m out s) k
def darningref07_Sorted_b1 (m : T_Name_Fields) (out : (List Int)) (i : Int) : Option (((List Int) × Int) ⊕ (List Int)) :=
 if (decide (i < (m.Fields.length : Int))) then (
  darningref07_Sorted_l2 i m out 0 >>= fun q =>
  cut out 0 q >>= fun v2 =>
  app 8 ([] : (List Int)) v2 >>= fun v3 =>
  app 8 v3 ([i] : (List Int)) >>= fun v4 =>
  cut out q (out.length : Int) >>= fun v5 =>
  app 8 v4 v5 >>= fun v6 =>
  some (.inl (v6, (IntKind.i64.wrap (i + 1))))
 ) else (
  some (.inr out)
 )
def darningref07_Sorted_l1 (m : T_Name_Fields) (out : (List Int)) (i : Int) : Option (List Int) := whileO (fun s : ((List Int) × Int) => darningref07_Sorted_b1 m s.1 s.2) (out, i)
def darningref07_Sorted (m : T_Name_Fields) : Option (List Int) :=
 darningref07_Sorted_l1 m [] 0 >>= fun q2 =>
 some q2
theorem darningref07_Sorted_l2_inl {i : Int} {m : T_Name_Fields} {out : (List Int)} {k : Int} {k' : Int} (h : darningref07_Sorted_b2 i m out k = some (.inl k')) : darningref07_Sorted_l2 i m out k = darningref07_Sorted_l2 i m out k' := whileO_inl (body := fun s : Int => darningref07_Sorted_b2 i m out s) h
theorem darningref07_Sorted_l2_inr {i : Int} {m : T_Name_Fields} {out : (List Int)} {k : Int} {oo_ : Int} (h : darningref07_Sorted_b2 i m out k = some (.inr oo_)) : darningref07_Sorted_l2 i m out k = some oo_ := whileO_inr (body := fun s : Int => darningref07_Sorted_b2 i m out s) h
theorem darningref07_Sorted_l1_inl {m : T_Name_Fields} {out : (List Int)} {i : Int} {out' : (List Int)} {i' : Int} (h : darningref07_Sorted_b1 m out i = some (.inl (out', i'))) : darningref07_Sorted_l1 m out i = darningref07_Sorted_l1 m out' i' := whileO_inl (body := fun s : ((List Int) × Int) => darningref07_Sorted_b1 m s.1 s.2) h
theorem darningref07_Sorted_l1_inr {m : T_Name_Fields} {out : (List Int)} {i : Int} {oo_ : (List Int)} (h : darningref07_Sorted_b1 m out i = some (.inr oo_)) : darningref07_Sorted_l1 m out i = some oo_ := whileO_inr (body := fun s : ((List Int) × Int) => darningref07_Sorted_b1 m s.1 s.2) h
def darningref07_SameInts_b1 (av : (List Int)) (b : (List Int)) (i : Int) : Option (Int ⊕ (Unit ⊕ Unit)) :=
 if (decide (i < (av.length : Int))) then (
  idx av i >>= fun x =>
  idx b i >>= fun x2 =>
  if (x != x2) then (
   some (.inr (.inr ()))
  ) else (
   some (.inl (IntKind.i64.wrap (i + 1)))
  )
 ) else (
  some (.inr (.inl ()))
 )
def darningref07_SameInts_l1 (av : (List Int)) (b : (List Int)) (i : Int) : Option (Unit ⊕ Unit) := whileO (fun s : Int => darningref07_SameInts_b1 av b s) i
def darningref07_SameInts (av : (List Int)) (b : (List Int)) : Option Bool :=
 if ((av.length : Int) != (b.length : Int)) then (
  some false
 ) else (
  darningref07_SameInts_l1 av b 0 >>= fun q =>
  match q with
  | .inl u => (
   some true
  )
  | .inr u2 => (
   some false
  )
 )
theorem darningref07_SameInts_l1_inl {av : (List Int)} {b : (List Int)} {i : Int} {i' : Int} (h : darningref07_SameInts_b1 av b i = some (.inl i')) : darningref07_SameInts_l1 av b i = darningref07_SameInts_l1 av b i' := whileO_inl (body := fun s : Int => darningref07_SameInts_b1 av b s) h
theorem darningref07_SameInts_l1_inr {av : (List Int)} {b : (List Int)} {i : Int} {oo_ : (Unit ⊕ Unit)} (h : darningref07_SameInts_b1 av b i = some (.inr oo_)) : darningref07_SameInts_l1 av b i = some oo_ := whileO_inr (body := fun s : Int => darningref07_SameInts_b1 av b s) h
def schema_sameMessage (av : T_Name_Fields) (b : T_Name_Fields) : Option Bool :=
 (
  if (av.Name == b.Name) then (
   slices_Equal___api_Field_api_Field_ av.Fields b.Fields >>= fun rv =>
   some rv
  ) else (
   some false
  )
 ) >>= fun g =>
 some g
def slices_EqualFunc_api_Schema_api_Schema_api_Message_api_Message___schema_sameMessage_b1 (s1 : (List T_Name_Fields)) (s2 : (List T_Name_Fields)) (v : Int) : Option (Int ⊕ (Unit ⊕ Unit)) :=
 if (decide (v < (s1.length : Int))) then (
  idx s1 v >>= fun x =>
  idx s2 v >>= fun x2 =>
  schema_sameMessage x x2 >>= fun rv =>
  if (!rv) then (
   some (.inr (.inr ()))
  ) else (
   some (.inl (IntKind.i64.wrap (v + 1)))
  )
 ) else (
  some (.inr (.inl ()))
 )
def slices_EqualFunc_api_Schema_api_Schema_api_Message_api_Message___schema_sameMessage_l1 (s1 : (List T_Name_Fields)) (s2 : (List T_Name_Fields)) (v : Int) : Option (Unit ⊕ Unit) := whileO (fun s : Int => slices_EqualFunc_api_Schema_api_Schema_api_Message_api_Message___schema_sameMessage_b1 s1 s2 s) v
def slices_EqualFunc_api_Schema_api_Schema_api_Message_api_Message___schema_sameMessage (s1 : (List T_Name_Fields)) (s2 : (List T_Name_Fields)) : Option Bool :=
 if ((s1.length : Int) != (s2.length : Int)) then (
  some false
 ) else (
  slices_EqualFunc_api_Schema_api_Schema_api_Message_api_Message___schema_sameMessage_l1 s1 s2 0 >>= fun q =>
  match q with
  | .inl u => (
   some true
  )
  | .inr u2 => (
   some false
  )
 )
theorem slices_EqualFunc_api_Schema_api_Schema_api_Message_api_Message___schema_sameMessage_l1_inl {s1 : (List T_Name_Fields)} {s2 : (List T_Name_Fields)} {v : Int} {v' : Int} (h : slices_EqualFunc_api_Schema_api_Schema_api_Message_api_Message___schema_sameMessage_b1 s1 s2 v = some (.inl v')) : slices_EqualFunc_api_Schema_api_Schema_api_Message_api_Message___schema_sameMessage_l1 s1 s2 v = slices_EqualFunc_api_Schema_api_Schema_api_Message_api_Message___schema_sameMessage_l1 s1 s2 v' := whileO_inl (body := fun s : Int => slices_EqualFunc_api_Schema_api_Schema_api_Message_api_Message___schema_sameMessage_b1 s1 s2 s) h
theorem slices_EqualFunc_api_Schema_api_Schema_api_Message_api_Message___schema_sameMessage_l1_inr {s1 : (List T_Name_Fields)} {s2 : (List T_Name_Fields)} {v : Int} {oo_ : (Unit ⊕ Unit)} (h : slices_EqualFunc_api_Schema_api_Schema_api_Message_api_Message___schema_sameMessage_b1 s1 s2 v = some (.inr oo_)) : slices_EqualFunc_api_Schema_api_Schema_api_Message_api_Message___schema_sameMessage_l1 s1 s2 v = some oo_ := whileO_inr (body := fun s : Int => slices_EqualFunc_api_Schema_api_Schema_api_Message_api_Message___schema_sameMessage_b1 s1 s2 s) h
def schema_Same (av : (List T_Name_Fields)) (b : (List T_Name_Fields)) : Option Bool :=
 slices_EqualFunc_api_Schema_api_Schema_api_Message_api_Message___schema_sameMessage av b >>= fun rv =>
 some rv
def darningref07_Same_b2 (av : (List T_Name_Fields)) (b : (List T_Name_Fields)) (i : Int) (k : Int) : Option (Int ⊕ (Unit ⊕ Unit)) :=
 idx av i >>= fun x5 =>
 if (decide (k < (x5.Fields.length : Int))) then (
  idx av i >>= fun x6 =>
  idx x6.Fields k >>= fun x7 =>
  idx b i >>= fun x8 =>
  idx x8.Fields k >>= fun x9 =>
  if (!(decide (x7 = x9))) then (
   some (.inr (.inr ()))
  ) else (
   some (.inl (IntKind.i64.wrap (k + 1)))
  )
 ) else (
  some (.inr (.inl ()))
 )
def darningref07_Same_l2 (av : (List T_Name_Fields)) (b : (List T_Name_Fields)) (i : Int) (k : Int) : Option (Unit ⊕ Unit) := whileO (fun s : Int => darningref07_Same_b2 av b i s) k
def darningref07_Same_b1 (av : (List T_Name_Fields)) (b : (List T_Name_Fields)) (i : Int) : Option (Int ⊕ (Unit ⊕ Unit)) :=
 if (decide (i < (av.length : Int))) then (
  (
   idx av i >>= fun x =>
   idx b i >>= fun x2 =>
   if (!(x.Name == x2.Name)) then (
    some true
   ) else (
    idx av i >>= fun x3 =>
    idx b i >>= fun x4 =>
    some ((x3.Fields.length : Int) != (x4.Fields.length : Int))
   )
  ) >>= fun g =>
  if g then (
   some (.inr (.inr ()))
  ) else (
   darningref07_Same_l2 av b i 0 >>= fun q =>
   match q with
   | .inl u => (
    some (.inl (IntKind.i64.wrap (i + 1)))
   )
   | .inr u2 => (
    some (.inr (.inr ()))
   )
  )
 ) else (
  some (.inr (.inl ()))
 )
def darningref07_Same_l1 (av : (List T_Name_Fields)) (b : (List T_Name_Fields)) (i : Int) : Option (Unit ⊕ Unit) := whileO (fun s : Int => darningref07_Same_b1 av b s) i
def darningref07_Same (av : (List T_Name_Fields)) (b : (List T_Name_Fields)) : Option Bool :=
 if ((av.length : Int) != (b.length : Int)) then (
  some false
 ) else (
  darningref07_Same_l1 av b 0 >>= fun q2 =>
  match q2 with
  | .inl u3 => (
   some true
  )
  | .inr u4 => (
   some false
  )
 )
theorem darningref07_Same_l2_inl {av : (List T_Name_Fields)} {b : (List T_Name_Fields)} {i : Int} {k : Int} {k' : Int} (h : darningref07_Same_b2 av b i k = some (.inl k')) : darningref07_Same_l2 av b i k = darningref07_Same_l2 av b i k' := whileO_inl (body := fun s : Int => darningref07_Same_b2 av b i s) h
theorem darningref07_Same_l2_inr {av : (List T_Name_Fields)} {b : (List T_Name_Fields)} {i : Int} {k : Int} {oo_ : (Unit ⊕ Unit)} (h : darningref07_Same_b2 av b i k = some (.inr oo_)) : darningref07_Same_l2 av b i k = some oo_ := whileO_inr (body := fun s : Int => darningref07_Same_b2 av b i s) h
theorem darningref07_Same_l1_inl {av : (List T_Name_Fields)} {b : (List T_Name_Fields)} {i : Int} {i' : Int} (h : darningref07_Same_b1 av b i = some (.inl i')) : darningref07_Same_l1 av b i = darningref07_Same_l1 av b i' := whileO_inl (body := fun s : Int => darningref07_Same_b1 av b s) h
theorem darningref07_Same_l1_inr {av : (List T_Name_Fields)} {b : (List T_Name_Fields)} {i : Int} {oo_ : (Unit ⊕ Unit)} (h : darningref07_Same_b1 av b i = some (.inr oo_)) : darningref07_Same_l1 av b i = some oo_ := whileO_inr (body := fun s : Int => darningref07_Same_b1 av b s) h
def schema_Copy_b1 (rv : (List T_Name_Fields)) (c : (List T_Name_Fields)) (v : Int) : Option (((List T_Name_Fields) × Int) ⊕ (List T_Name_Fields)) :=
 if (decide (v < (rv.length : Int))) then (
  idx c v >>= fun x =>
  slices_Clone___api_Field_api_Field_ x.Fields >>= fun rv2 =>
  idx c v >>= fun x2 =>
  some (.inl ((c.set (Int.toNat v) (⟨x2.Name, rv2⟩ : T_Name_Fields)), (IntKind.i64.wrap (v + 1))))
 ) else (
  some (.inr c)
 )
def schema_Copy_l1 (rv : (List T_Name_Fields)) (c : (List T_Name_Fields)) (v : Int) : Option (List T_Name_Fields) := whileO (fun s : ((List T_Name_Fields) × Int) => schema_Copy_b1 rv s.1 s.2) (c, v)
def schema_Copy (sv : (List T_Name_Fields)) : Option (List T_Name_Fields) :=
 slices_Clone_api_Schema_api_Message_ sv >>= fun rv =>
 schema_Copy_l1 rv rv 0 >>= fun q =>
 some q
theorem schema_Copy_l1_inl {rv : (List T_Name_Fields)} {c : (List T_Name_Fields)} {v : Int} {c' : (List T_Name_Fields)} {v' : Int} (h : schema_Copy_b1 rv c v = some (.inl (c', v'))) : schema_Copy_l1 rv c v = schema_Copy_l1 rv c' v' := whileO_inl (body := fun s : ((List T_Name_Fields) × Int) => schema_Copy_b1 rv s.1 s.2) h
theorem schema_Copy_l1_inr {rv : (List T_Name_Fields)} {c : (List T_Name_Fields)} {v : Int} {oo_ : (List T_Name_Fields)} (h : schema_Copy_b1 rv c v = some (.inr oo_)) : schema_Copy_l1 rv c v = some oo_ := whileO_inr (body := fun s : ((List T_Name_Fields) × Int) => schema_Copy_b1 rv s.1 s.2) h
def darninglaw07_SchemaFinds_b1 (name : Str) (sv : (List T_Name_Fields)) (want : Int) (k : Int) : Option ((Int × Int) ⊕ Int) :=
 if (decide (k ≥ 0)) then (
  idx sv k >>= fun x =>
  if (x.Name == name) then (
   some (.inl (k, (IntKind.i64.wrap (k - 1))))
  ) else (
   some (.inl (want, (IntKind.i64.wrap (k - 1))))
  )
 ) else (
  some (.inr want)
 )
def darninglaw07_SchemaFinds_l1 (name : Str) (sv : (List T_Name_Fields)) (want : Int) (k : Int) : Option Int := whileO (fun s : (Int × Int) => darninglaw07_SchemaFinds_b1 name sv s.1 s.2) (want, k)
def darninglaw07_SchemaFinds (fuel : Nat) (sv : (List T_Name_Fields)) (t : (List T_Name_Fields)) (m : T_Name_Fields) (name : Str) (number : Int) : Option Bool :=
 darninglaw07_alive >>= fun rv =>
 if (!rv) then (
  some false
 ) else (
  (
   darninglaw07_Few sv >>= fun rv2 =>
   if (!rv2) then (
    some true
   ) else (
    darninglaw07_Few t >>= fun rv3 =>
    if (!rv3) then (
     some true
    ) else (
     if (decide ((m.Fields.length : Int) > 300)) then (
      some true
     ) else (
      some (decide ((name.length : Int) > 200))
     )
    )
   )
  ) >>= fun g =>
  if g then (
   some true
  ) else (
   schema_Message sv name >>= fun rv4 =>
   darninglaw07_SchemaFinds_l1 name sv (-1) (IntKind.i64.wrap ((sv.length : Int) - 1)) >>= fun q =>
   if ((rv4.1 != (if q < 0 then 0 else q)) || ((!(((IntKind.i64.wrap rv4.2) == 0) == (decide (q ≥ 0)))) || (((IntKind.i64.wrap rv4.2) != 0) && ((IntKind.i64.wrap rv4.2) != 11)))) then (
    some false
   ) else (
    schema_ByNumber m number >>= fun rv5 =>
    schema_ByName m name >>= fun rv6 =>
    darningref07_Field m number >>= fun rv7 =>
    darningref07_Named m name >>= fun rv8 =>
    (
     if (rv5.1 == (if rv7 < 0 then 0 else rv7)) then (
      if (rv5.2 == (decide (rv7 ≥ 0))) then (
       if (rv6.1 == (if rv8 < 0 then 0 else rv8)) then (
        if (rv6.2 == (decide (rv8 ≥ 0))) then (
         schema_Sorted fuel m >>= fun rv9 =>
         darningref07_Sorted m >>= fun rv10 =>
         darningref07_SameInts rv9 rv10 >>= fun rv11 =>
         if rv11 then (
          schema_Same sv t >>= fun rv12 =>
          darningref07_Same sv t >>= fun rv13 =>
          if (rv12 == rv13) then (
           schema_Copy sv >>= fun rv14 =>
           darningref07_Same rv14 sv >>= fun rv15 =>
           some rv15
          ) else (
           some false
          )
         ) else (
          some false
         )
        ) else (
         some false
        )
       ) else (
        some false
       )
      ) else (
       some false
      )
     ) else (
      some false
     )
    ) >>= fun g2 =>
    some g2
   )
  )
 )
theorem darninglaw07_SchemaFinds_l1_inl {name : Str} {sv : (List T_Name_Fields)} {want : Int} {k : Int} {want' : Int} {k' : Int} (h : darninglaw07_SchemaFinds_b1 name sv want k = some (.inl (want', k'))) : darninglaw07_SchemaFinds_l1 name sv want k = darninglaw07_SchemaFinds_l1 name sv want' k' := whileO_inl (body := fun s : (Int × Int) => darninglaw07_SchemaFinds_b1 name sv s.1 s.2) h
theorem darninglaw07_SchemaFinds_l1_inr {name : Str} {sv : (List T_Name_Fields)} {want : Int} {k : Int} {oo_ : Int} (h : darninglaw07_SchemaFinds_b1 name sv want k = some (.inr oo_)) : darninglaw07_SchemaFinds_l1 name sv want k = some oo_ := whileO_inr (body := fun s : (Int × Int) => darninglaw07_SchemaFinds_b1 name sv s.1 s.2) h
end
end Go.Proofs.Ytnchbppkppbflaa
