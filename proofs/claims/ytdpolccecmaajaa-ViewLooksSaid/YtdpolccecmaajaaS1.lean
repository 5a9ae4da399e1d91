/-
  What the Go functions do, as plain functions. No condition.
-/
import Derived.Test.YtdpolccecmaajaaK2
namespace Go.Proofs.Ytdpolccecmaajaa
open Go
set_option linter.unusedVariables false
abbrev Str := List UInt8
structure T_arr15 where
  a0 : Str
  a1 : Str
  a2 : Str
  a3 : Str
  a4 : Str
  a5 : Str
  a6 : Str
  a7 : Str
  a8 : Str
  a9 : Str
  a10 : Str
  a11 : Str
  a12 : Str
  a13 : Str
  a14 : Str deriving DecidableEq
structure T_name_wire where
  name : Str
  wire : Int deriving DecidableEq
def R_name_wire : Rp T_name_wire := ⟨2, true, fun x => [.str x.name, .int .i64 x.wire], fun _ => rfl, by decide⟩
structure T_Name_Number_Kind_Repeated_Packed_Of where
  Name : Str
  Number : Int
  Kind : Int
  Repeated : Bool
  Packed : Bool
  Of : Int deriving DecidableEq
def R_Name_Number_Kind_Repeated_Packed_Of : Rp T_Name_Number_Kind_Repeated_Packed_Of := ⟨6, true, fun x => [.str x.Name, .int .i64 x.Number, .int .i64 x.Kind, .bool x.Repeated, .bool x.Packed, .int .i64 x.Of], fun _ => rfl, by decide⟩
structure T_Name_Fields where
  Name : Str
  Fields : (List T_Name_Number_Kind_Repeated_Packed_Of) deriving DecidableEq
def R_Name_Fields : Rp T_Name_Fields := ⟨2, true, fun x => [.str x.Name, .sl x.Fields.length R_Name_Number_Kind_Repeated_Packed_Of.size (x.Fields.flatMap R_Name_Number_Kind_Repeated_Packed_Of.lv)], fun _ => rfl, by decide⟩
structure T_Number_Wire where
  Number : Int
  Wire : Int deriving DecidableEq
def R_Number_Wire : Rp T_Number_Wire := ⟨2, true, fun x => [.int .i64 x.Number, .int .i64 x.Wire], fun _ => rfl, by decide⟩
structure T_Number_Wire_From_At_To where
  Number : Int
  Wire : Int
  From : Int
  At : Int
  To : Int deriving DecidableEq
def R_Number_Wire_From_At_To : Rp T_Number_Wire_From_At_To := ⟨5, true, fun x => [.int .i64 x.Number, .int .i64 x.Wire, .int .i64 x.From, .int .i64 x.At, .int .i64 x.To], fun _ => rfl, by decide⟩
structure T_message_name where
  message : Int
  name : Str deriving DecidableEq
structure T_message_number where
  message : Int
  number : Int deriving DecidableEq
structure T_size_kinds_names_numbers where
  size : Int
  kinds : (List Int)
  names : (List (T_message_name × Bool))
  numbers : (List (T_message_number × Bool))
structure T_Message_Field_What where
  Message : Int
  Field : Int
  What : Int deriving DecidableEq
structure T_number_wire where
  number : Int
  wire : Int deriving DecidableEq
def R_number_wire : Rp T_number_wire := ⟨2, true, fun x => [.int .i64 x.number, .int .i64 x.wire], fun _ => rfl, by decide⟩
structure T_field_run_e where
  field : Int
  run : Bool
  e : Int deriving DecidableEq
def R_field_run_e : Rp T_field_run_e := ⟨3, true, fun x => [.int .i64 x.field, .bool x.run, .int .u8 x.e], fun _ => rfl, by decide⟩
structure T_Record_Field_Run where
  Record : T_Number_Wire_From_At_To
  Field : Int
  Run : Bool deriving DecidableEq
def R_Record_Field_Run : Rp T_Record_Field_Run := ⟨7, true, fun x => [.int .i64 x.Record.Number, .int .i64 x.Record.Wire, .int .i64 x.Record.From, .int .i64 x.Record.At, .int .i64 x.Record.To, .int .i64 x.Field, .bool x.Run], fun _ => rfl, by decide⟩
structure T_R_Field_Run where
  R : T_Number_Wire_From_At_To
  Field : Int
  Run : Bool deriving DecidableEq
def R_R_Field_Run : Rp T_R_Field_Run := ⟨7, true, fun x => [.int .i64 x.R.Number, .int .i64 x.R.Wire, .int .i64 x.R.From, .int .i64 x.R.At, .int .i64 x.R.To, .int .i64 x.Field, .bool x.Run], fun _ => rfl, by decide⟩
end Go.Proofs.Ytdpolccecmaajaa
namespace Go.Proofs.Ytdpolccecmaajaa
open Go
set_option linter.unusedVariables false
noncomputable section
def slices_Grow___byte_byte_ (n : Int) : Option (List UInt8) :=
 if (decide (n < 0)) then (
  none
 ) else (
  if (decide ((IntKind.i64.wrap (n - (IntKind.i64.wrap (0 - 0)))) > 0)) then (
   mkO 1 (0 : UInt8) (IntKind.i64.wrap (n - (IntKind.i64.wrap (0 - 0)))) (IntKind.i64.wrap (n - (IntKind.i64.wrap (0 - 0)))) >>= fun v =>
   cut v 0 0 >>= fun v2 =>
   some v2
  ) else (
   some []
  )
 )
def slices_Concat___byte_byte__b1 (slices : (List (List UInt8))) (size : Int) (v : Int) : Option ((Int × Int) ⊕ Int) :=
 if (decide (v < (slices.length : Int))) then (
  idx slices v >>= fun x =>
  if (decide ((IntKind.i64.wrap (size + (x.length : Int))) < 0)) then (
   none
  ) else (
   some (.inl ((IntKind.i64.wrap (size + (x.length : Int))), (IntKind.i64.wrap (v + 1))))
  )
 ) else (
  some (.inr size)
 )
def slices_Concat___byte_byte__l1 (slices : (List (List UInt8))) (size : Int) (v : Int) : Option Int := whileO (fun s : (Int × Int) => slices_Concat___byte_byte__b1 slices s.1 s.2) (size, v)
def slices_Concat___byte_byte__b2 (slices : (List (List UInt8))) (newslice : (List UInt8)) (v2 : Int) : Option (((List UInt8) × Int) ⊕ (List UInt8)) :=
 if (decide (v2 < (slices.length : Int))) then (
  idx slices v2 >>= fun x2 =>
  app 1 newslice x2 >>= fun v3 =>
  some (.inl (v3, (IntKind.i64.wrap (v2 + 1))))
 ) else (
  some (.inr newslice)
 )
def slices_Concat___byte_byte__l2 (slices : (List (List UInt8))) (newslice : (List UInt8)) (v2 : Int) : Option (List UInt8) := whileO (fun s : ((List UInt8) × Int) => slices_Concat___byte_byte__b2 slices s.1 s.2) (newslice, v2)
def slices_Concat___byte_byte_ (slices : (List (List UInt8))) : Option (List UInt8) :=
 slices_Concat___byte_byte__l1 slices 0 0 >>= fun q =>
 slices_Grow___byte_byte_ q >>= fun rv =>
 slices_Concat___byte_byte__l2 slices rv 0 >>= fun q2 =>
 some q2
theorem slices_Concat___byte_byte__l1_inl {slices : (List (List UInt8))} {size : Int} {v : Int} {size' : Int} {v' : Int} (h : slices_Concat___byte_byte__b1 slices size v = some (.inl (size', v'))) : slices_Concat___byte_byte__l1 slices size v = slices_Concat___byte_byte__l1 slices size' v' := whileO_inl (body := fun s : (Int × Int) => slices_Concat___byte_byte__b1 slices s.1 s.2) h
theorem slices_Concat___byte_byte__l1_inr {slices : (List (List UInt8))} {size : Int} {v : Int} {oo_ : Int} (h : slices_Concat___byte_byte__b1 slices size v = some (.inr oo_)) : slices_Concat___byte_byte__l1 slices size v = some oo_ := whileO_inr (body := fun s : (Int × Int) => slices_Concat___byte_byte__b1 slices s.1 s.2) h
theorem slices_Concat___byte_byte__l2_inl {slices : (List (List UInt8))} {newslice : (List UInt8)} {v2 : Int} {newslice' : (List UInt8)} {v2' : Int} (h : slices_Concat___byte_byte__b2 slices newslice v2 = some (.inl (newslice', v2'))) : slices_Concat___byte_byte__l2 slices newslice v2 = slices_Concat___byte_byte__l2 slices newslice' v2' := whileO_inl (body := fun s : ((List UInt8) × Int) => slices_Concat___byte_byte__b2 slices s.1 s.2) h
theorem slices_Concat___byte_byte__l2_inr {slices : (List (List UInt8))} {newslice : (List UInt8)} {v2 : Int} {oo_ : (List UInt8)} (h : slices_Concat___byte_byte__b2 slices newslice v2 = some (.inr oo_)) : slices_Concat___byte_byte__l2 slices newslice v2 = some oo_ := whileO_inr (body := fun s : ((List UInt8) × Int) => slices_Concat___byte_byte__b2 slices s.1 s.2) h
end
end Go.Proofs.Ytdpolccecmaajaa
namespace Go.Proofs.Ytdpolccecmaajaa
open Go
set_option linter.unusedVariables false
noncomputable section
def darningref01_Same (av : (List UInt8)) (b : (List UInt8)) : Option Bool :=
 some (av == b)
end
end Go.Proofs.Ytdpolccecmaajaa
namespace Go.Proofs.Ytdpolccecmaajaa
open Go
set_option linter.unusedVariables false
noncomputable section
def varint_Read_b1 (v : (List UInt8)) (wv : Int) (v2 : Int) : Option ((Int × Int) ⊕ (Unit ⊕ (Int × Int × Int))) :=
 if (decide (v2 < (v.length : Int))) then (
  idx v v2 >>= fun x =>
  if ((v2 == 9) && (decide ((x.toNat : Int) > 1))) then (
   some (.inr (.inr (0, 0, 4)))
  ) else (
   shlO .u64 (IntKind.u64.wrap (andI .u8 (x.toNat : Int) 127)) (IntKind.i64.wrap (7 * v2)) >>= fun v4 =>
   if (decide ((x.toNat : Int) < 128)) then (
    some (.inr (.inr ((orI .u64 wv v4), (IntKind.i64.wrap (v2 + 1)), 0)))
   ) else (
    some (.inl ((orI .u64 wv v4), (IntKind.i64.wrap (v2 + 1))))
   )
  )
 ) else (
  some (.inr (.inl ()))
 )
def varint_Read_l1 (v : (List UInt8)) (wv : Int) (v2 : Int) : Option (Unit ⊕ (Int × Int × Int)) := whileO (fun s : (Int × Int) => varint_Read_b1 v s.1 s.2) (wv, v2)
def varint_Read (b : (List UInt8)) : Option (Int × Int × Int) :=
 cut b 0 (if (10 : Int) < (b.length : Int) then 10 else (b.length : Int)) >>= fun v =>
 varint_Read_l1 v 0 0 >>= fun q =>
 match q with
 | .inl u => (
  some (0, 0, 3)
 )
 | .inr u2 => (
  some (u2.1, u2.2.1, u2.2.2)
 )
theorem varint_Read_l1_inl {v : (List UInt8)} {wv : Int} {v2 : Int} {wv' : Int} {v2' : Int} (h : varint_Read_b1 v wv v2 = some (.inl (wv', v2'))) : varint_Read_l1 v wv v2 = varint_Read_l1 v wv' v2' := whileO_inl (body := fun s : (Int × Int) => varint_Read_b1 v s.1 s.2) h
theorem varint_Read_l1_inr {v : (List UInt8)} {wv : Int} {v2 : Int} {oo_ : (Unit ⊕ (Int × Int × Int))} (h : varint_Read_b1 v wv v2 = some (.inr oo_)) : varint_Read_l1 v wv v2 = some oo_ := whileO_inr (body := fun s : (Int × Int) => varint_Read_b1 v s.1 s.2) h
def darningref02_Read_b1 (atv : Int) (b : (List UInt8)) (n : Int) : Option (Int ⊕ Int) :=
 (
  if (decide ((IntKind.i64.wrap (atv + n)) < (b.length : Int))) then (
   if (decide (n < 10)) then (
    idx b (IntKind.i64.wrap (atv + n)) >>= fun x =>
    some (decide ((x.toNat : Int) ≥ 128))
   ) else (
    some false
   )
  ) else (
   some false
  )
 ) >>= fun g =>
 if g then (
  some (.inl (IntKind.i64.wrap (n + 1)))
 ) else (
  some (.inr n)
 )
def darningref02_Read_l1 (atv : Int) (b : (List UInt8)) (n : Int) : Option Int := whileO (fun s : Int => darningref02_Read_b1 atv b s) n
def darningref02_Read_b2 (atv : Int) (b : (List UInt8)) (wv : Int) (i : Int) : Option ((Int × Int) ⊕ Int) :=
 if (decide (i ≥ 0)) then (
  idx b (IntKind.i64.wrap (atv + i)) >>= fun x3 =>
  some (.inl ((IntKind.u64.wrap ((IntKind.u64.wrap (128 * wv)) + (IntKind.u64.wrap (Int.tmod (x3.toNat : Int) 128)))), (IntKind.i64.wrap (i - 1))))
 ) else (
  some (.inr wv)
 )
def darningref02_Read_l2 (atv : Int) (b : (List UInt8)) (wv : Int) (i : Int) : Option Int := whileO (fun s : (Int × Int) => darningref02_Read_b2 atv b s.1 s.2) (wv, i)
def darningref02_Read (b : (List UInt8)) (atv : Int) : Option (Int × Int × Int) :=
 darningref02_Read_l1 atv b 0 >>= fun q =>
 if (q == 10) then (
  some (0, 0, 4)
 ) else (
  if ((IntKind.i64.wrap (atv + q)) == (b.length : Int)) then (
   some (0, 0, 3)
  ) else (
   (
    if (q == 9) then (
     idx b (IntKind.i64.wrap (atv + q)) >>= fun x2 =>
     some (decide ((x2.toNat : Int) > 1))
    ) else (
     some false
    )
   ) >>= fun g2 =>
   if g2 then (
    some (0, 0, 4)
   ) else (
    darningref02_Read_l2 atv b 0 q >>= fun q2 =>
    some (q2, (IntKind.i64.wrap (q + 1)), 0)
   )
  )
 )
theorem darningref02_Read_l1_inl {atv : Int} {b : (List UInt8)} {n : Int} {n' : Int} (h : darningref02_Read_b1 atv b n = some (.inl n')) : darningref02_Read_l1 atv b n = darningref02_Read_l1 atv b n' := whileO_inl (body := fun s : Int => darningref02_Read_b1 atv b s) h
theorem darningref02_Read_l1_inr {atv : Int} {b : (List UInt8)} {n : Int} {oo_ : Int} (h : darningref02_Read_b1 atv b n = some (.inr oo_)) : darningref02_Read_l1 atv b n = some oo_ := whileO_inr (body := fun s : Int => darningref02_Read_b1 atv b s) h
theorem darningref02_Read_l2_inl {atv : Int} {b : (List UInt8)} {wv : Int} {i : Int} {wv' : Int} {i' : Int} (h : darningref02_Read_b2 atv b wv i = some (.inl (wv', i'))) : darningref02_Read_l2 atv b wv i = darningref02_Read_l2 atv b wv' i' := whileO_inl (body := fun s : (Int × Int) => darningref02_Read_b2 atv b s.1 s.2) h
theorem darningref02_Read_l2_inr {atv : Int} {b : (List UInt8)} {wv : Int} {i : Int} {oo_ : Int} (h : darningref02_Read_b2 atv b wv i = some (.inr oo_)) : darningref02_Read_l2 atv b wv i = some oo_ := whileO_inr (body := fun s : (Int × Int) => darningref02_Read_b2 atv b s.1 s.2) h
def varint_Skip (b : (List UInt8)) : Option (Int × Int) :=
 varint_Read b >>= fun rv =>
 some (rv.2.1, rv.2.2)
end
end Go.Proofs.Ytdpolccecmaajaa
namespace Go.Proofs.Ytdpolccecmaajaa
open Go
set_option linter.unusedVariables false
noncomputable section
def tag_rightWire (wire : Int) : Option Bool :=
 if (wire == 0) then (
  if (wire == 0) then (
   some true
  ) else (
   some false
  )
 ) else (
  if (wire == 1) then (
   if (wire == 1) then (
    some true
   ) else (
    some false
   )
  ) else (
   if (wire == 2) then (
    if (wire == 2) then (
     some true
    ) else (
     some false
    )
   ) else (
    if (wire == 5) then (
     some true
    ) else (
     some false
    )
   )
  )
 )
def tag_Right (t : T_Number_Wire) : Option Bool :=
 (
  if (decide (t.Number ≥ 1)) then (
   if (decide (t.Number ≤ 536870911)) then (
    tag_rightWire t.Wire >>= fun rv =>
    some rv
   ) else (
    some false
   )
  ) else (
   some false
  )
 ) >>= fun g =>
 some g
def tag_Read (b : (List UInt8)) : Option (T_Number_Wire × Int × Int) :=
 varint_Read b >>= fun rv =>
 if (rv.2.2 != 0) then (
  some ((⟨0, 0⟩ : T_Number_Wire), 0, rv.2.2)
 ) else (
  tag_Right (⟨(IntKind.i64.wrap (if (536870912 : Int) < (shrI .u64 rv.1 3) then 536870912 else (shrI .u64 rv.1 3))), (IntKind.i64.wrap (andI .u64 rv.1 7))⟩ : T_Number_Wire) >>= fun rv2 =>
  if (!rv2) then (
   some ((⟨0, 0⟩ : T_Number_Wire), 0, 5)
  ) else (
   some ((⟨(IntKind.i64.wrap (if (536870912 : Int) < (shrI .u64 rv.1 3) then 536870912 else (shrI .u64 rv.1 3))), (IntKind.i64.wrap (andI .u64 rv.1 7))⟩ : T_Number_Wire), rv.2.1, 0)
  )
 )
def darningref03_Right (number : Int) (wire : Int) : Option Bool :=
 some ((decide (number ≥ 1)) && ((decide (number ≤ 536870911)) && ((wire == 0) || ((wire == 1) || ((wire == 2) || (wire == 5))))))
def darningref03_Read (b : (List UInt8)) (atv : Int) : Option (Int × Int × Int × Int) :=
 darningref02_Read b atv >>= fun rv =>
 if (rv.2.2 != 0) then (
  some (0, 0, 0, rv.2.2)
 ) else (
  (
   if (decide (rv.1 > 4294967295)) then (
    some true
   ) else (
    darningref03_Right (IntKind.i64.wrap (IntKind.u64.wrap (Int.tdiv rv.1 8))) (IntKind.i64.wrap (Int.tmod rv.1 8)) >>= fun rv2 =>
    some (!rv2)
   )
  ) >>= fun g =>
  if g then (
   some (0, 0, 0, 5)
  ) else (
   some ((IntKind.i64.wrap (IntKind.u64.wrap (Int.tdiv rv.1 8))), (IntKind.i64.wrap (Int.tmod rv.1 8)), rv.2.1, 0)
  )
 )
end
end Go.Proofs.Ytdpolccecmaajaa
namespace Go.Proofs.Ytdpolccecmaajaa
open Go
set_option linter.unusedVariables false
noncomputable section
def record_span (wire : Int) (b : (List UInt8)) : Option (Int × Int × Int) :=
 if (wire == 0) then (
  varint_Skip b >>= fun rv =>
  some (0, rv.1, rv.2)
 ) else (
  ((
   if (wire == 1) then (
    some (0, 0, 8)
   ) else (
    if (wire == 5) then (
     some (0, 0, 4)
    ) else (
     if (wire == 2) then (
      varint_Read b >>= fun rv2 =>
      some (rv2.2.1, rv2.2.2, rv2.1)
     ) else (
      some (0, 0, 0)
     )
    )
   )
   : Option (Int × Int × Int))) >>= fun p =>
  if (p.2.1 != 0) then (
   some (0, 0, p.2.1)
  ) else (
   if (decide (p.2.2 > (IntKind.u64.wrap (IntKind.i64.wrap ((b.length : Int) - p.1))))) then (
    some (0, 0, 3)
   ) else (
    some (p.1, (IntKind.i64.wrap (p.1 + (IntKind.i64.wrap p.2.2))), 0)
   )
  )
 )
def record_Next (b : (List UInt8)) (fromv : Int) : Option (T_Number_Wire_From_At_To × Int) :=
 if ((decide (fromv < 0)) || (decide (fromv ≥ (b.length : Int)))) then (
  some ((⟨0, 0, 0, 0, 0⟩ : T_Number_Wire_From_At_To), 2)
 ) else (
  cut b fromv (b.length : Int) >>= fun v2 =>
  tag_Read v2 >>= fun rv =>
  if (rv.2.2 != 0) then (
   some ((⟨0, 0, 0, 0, 0⟩ : T_Number_Wire_From_At_To), rv.2.2)
  ) else (
   cut b (IntKind.i64.wrap (fromv + rv.2.1)) (b.length : Int) >>= fun v3 =>
   record_span rv.1.Wire v3 >>= fun rv2 =>
   if (rv2.2.2 != 0) then (
    some ((⟨0, 0, 0, 0, 0⟩ : T_Number_Wire_From_At_To), rv2.2.2)
   ) else (
    some ((⟨rv.1.Number, rv.1.Wire, fromv, (IntKind.i64.wrap ((IntKind.i64.wrap (fromv + rv.2.1)) + rv2.1)), (IntKind.i64.wrap ((IntKind.i64.wrap (fromv + rv.2.1)) + rv2.2.1))⟩ : T_Number_Wire_From_At_To), 0)
   )
  )
 )
def darningref05_Next (b : (List UInt8)) (fromv : Int) : Option (T_Number_Wire_From_At_To × Int) :=
 if ((decide (fromv < 0)) || (decide (fromv ≥ (b.length : Int)))) then (
  some ((⟨0, 0, 0, 0, 0⟩ : T_Number_Wire_From_At_To), 2)
 ) else (
  darningref03_Read b fromv >>= fun rv =>
  if (rv.2.2.2 != 0) then (
   some ((⟨0, 0, 0, 0, 0⟩ : T_Number_Wire_From_At_To), rv.2.2.2)
  ) else (
   ((
    if (rv.2.1 == 5) then (
     some 4
    ) else (
     some 8
    )
    : Option Int)) >>= fun p =>
   ((
    if (rv.2.1 == 0) then (
     darningref02_Read b (IntKind.i64.wrap (fromv + rv.2.2.1)) >>= fun rv2 =>
     if (rv2.2.2 != 0) then (
      some (.inr rv2.2.2)
     ) else (
      some (.inl rv2.2.1)
     )
    ) else (
     some (.inl p)
    )
    : Option (Int ⊕ Int))) >>= fun p2 =>
   match p2 with
   | .inl u => (
    ((
     if (rv.2.1 == 2) then (
      darningref02_Read b (IntKind.i64.wrap (fromv + rv.2.2.1)) >>= fun rv3 =>
      if (rv3.2.2 != 0) then (
       some (.inr rv3.2.2)
      ) else (
       if (decide (rv3.1 > (IntKind.u64.wrap (IntKind.i64.wrap ((IntKind.i64.wrap ((b.length : Int) - (IntKind.i64.wrap (fromv + rv.2.2.1)))) - rv3.2.1))))) then (
        some (.inr 3)
       ) else (
        some (.inl ((IntKind.i64.wrap ((IntKind.i64.wrap ((b.length : Int) - (IntKind.i64.wrap (fromv + rv.2.2.1)))) - rv3.2.1)), (IntKind.i64.wrap rv3.1), (IntKind.i64.wrap ((IntKind.i64.wrap (fromv + rv.2.2.1)) + rv3.2.1))))
       )
      )
     ) else (
      some (.inl ((IntKind.i64.wrap ((b.length : Int) - (IntKind.i64.wrap (fromv + rv.2.2.1)))), u, (IntKind.i64.wrap (fromv + rv.2.2.1))))
     )
     : Option ((Int × Int × Int) ⊕ Int))) >>= fun p3 =>
    match p3 with
    | .inl u2 => (
     if (decide (u2.2.1 > u2.1)) then (
      some ((⟨0, 0, 0, 0, 0⟩ : T_Number_Wire_From_At_To), 3)
     ) else (
      some ((⟨rv.1, rv.2.1, fromv, u2.2.2, (IntKind.i64.wrap (u2.2.2 + u2.2.1))⟩ : T_Number_Wire_From_At_To), 0)
     )
    )
    | .inr u3 => (
     some ((⟨0, 0, 0, 0, 0⟩ : T_Number_Wire_From_At_To), u3)
    )
   )
   | .inr u4 => (
    some ((⟨0, 0, 0, 0, 0⟩ : T_Number_Wire_From_At_To), u4)
   )
  )
 )
def record_piece (b : (List UInt8)) (fromv : Int) (tov : Int) : Option (List UInt8) :=
 if ((decide (fromv < 0)) || ((decide (fromv > tov)) || (decide (tov > (b.length : Int))))) then (
  some []
 ) else (
  cut b fromv tov >>= fun v2 =>
  slices_Concat___byte_byte_ ([v2] : (List (List UInt8))) >>= fun rv =>
  some rv
 )
def record_Whole (b : (List UInt8)) (rv : T_Number_Wire_From_At_To) : Option (List UInt8) :=
 record_piece b rv.From rv.To >>= fun rv2 =>
 some rv2
end
end Go.Proofs.Ytdpolccecmaajaa
namespace Go.Proofs.Ytdpolccecmaajaa
open Go
set_option linter.unusedVariables false
noncomputable section
def kind_kinds  : Option (List (Int × T_name_wire)) :=
 some (mput (mput (mput (mput (mput (mput (mput (mput (mput (mput (mput (mput (mput (mput (mput (mput (mput ([] : (List (Int × T_name_wire))) 1 (⟨[105, 110, 116, 51, 50], 0⟩ : T_name_wire)) 2 (⟨[105, 110, 116, 54, 52], 0⟩ : T_name_wire)) 3 (⟨[117, 105, 110, 116, 51, 50], 0⟩ : T_name_wire)) 4 (⟨[117, 105, 110, 116, 54, 52], 0⟩ : T_name_wire)) 5 (⟨[115, 105, 110, 116, 51, 50], 0⟩ : T_name_wire)) 6 (⟨[115, 105, 110, 116, 54, 52], 0⟩ : T_name_wire)) 7 (⟨[98, 111, 111, 108], 0⟩ : T_name_wire)) 8 (⟨[101, 110, 117, 109], 0⟩ : T_name_wire)) 9 (⟨[102, 105, 120, 101, 100, 51, 50], 5⟩ : T_name_wire)) 10 (⟨[115, 102, 105, 120, 101, 100, 51, 50], 5⟩ : T_name_wire)) 11 (⟨[102, 108, 111, 97, 116], 5⟩ : T_name_wire)) 12 (⟨[102, 105, 120, 101, 100, 54, 52], 1⟩ : T_name_wire)) 13 (⟨[115, 102, 105, 120, 101, 100, 54, 52], 1⟩ : T_name_wire)) 14 (⟨[100, 111, 117, 98, 108, 101], 1⟩ : T_name_wire)) 15 (⟨[115, 116, 114, 105, 110, 103], 2⟩ : T_name_wire)) 16 (⟨[98, 121, 116, 101, 115], 2⟩ : T_name_wire)) 17 (⟨[109, 101, 115, 115, 97, 103, 101], 2⟩ : T_name_wire))
def kind_Wire (k : Int) : Option (Int × Int) :=
 kind_kinds >>= fun rv =>
 if (!(mget rv k).isSome) then (
  some (0, 2)
 ) else (
  some (((mget rv k).getD (⟨[], 0⟩ : T_name_wire)).wire, 0)
 )
def darningref06_Right (k : Int) : Option Bool :=
 some ((decide (k ≥ 1)) && (decide (k ≤ 17)))
def kind_Number (k : Int) : Option Bool :=
 kind_Wire k >>= fun rv =>
 some ((rv.2 == 0) && (rv.1 != 2))
def darningref06_Wire (k : Int) : Option Int :=
 if (decide (k ≥ 15)) then (
  some 2
 ) else (
  if (decide (k ≥ 12)) then (
   some 1
  ) else (
   if (decide (k ≥ 9)) then (
    some 5
   ) else (
    some 0
   )
  )
 )
def darningref06_Number (k : Int) : Option Bool :=
 some ((decide (k ≥ 1)) && (decide (k ≤ 14)))
end
end Go.Proofs.Ytdpolccecmaajaa
namespace Go.Proofs.Ytdpolccecmaajaa
open Go
set_option linter.unusedVariables false
noncomputable section
def darningref07_Field_b1 (m : T_Name_Fields) (number : Int) (i : Int) : Option (Int ⊕ (Unit ⊕ Int)) :=
 if (decide (i < (m.Fields.length : Int))) then (
  idx m.Fields i >>= fun x =>
  if (x.Number == number) then (
   some (.inr (.inr i))
  ) else (
   some (.inl (IntKind.i64.wrap (i + 1)))
  )
 ) else (
  some (.inr (.inl ()))
 )
def darningref07_Field_l1 (m : T_Name_Fields) (number : Int) (i : Int) : Option (Unit ⊕ Int) := whileO (fun s : Int => darningref07_Field_b1 m number s) i
def darningref07_Field (m : T_Name_Fields) (number : Int) : Option Int :=
 darningref07_Field_l1 m number 0 >>= fun q =>
 match q with
 | .inl u => (
  some (-1)
 )
 | .inr u2 => (
  some u2
 )
theorem darningref07_Field_l1_inl {m : T_Name_Fields} {number : Int} {i : Int} {i' : Int} (h : darningref07_Field_b1 m number i = some (.inl i')) : darningref07_Field_l1 m number i = darningref07_Field_l1 m number i' := whileO_inl (body := fun s : Int => darningref07_Field_b1 m number s) h
theorem darningref07_Field_l1_inr {m : T_Name_Fields} {number : Int} {i : Int} {oo_ : (Unit ⊕ Int)} (h : darningref07_Field_b1 m number i = some (.inr oo_)) : darningref07_Field_l1 m number i = some oo_ := whileO_inr (body := fun s : Int => darningref07_Field_b1 m number s) h
end
end Go.Proofs.Ytdpolccecmaajaa
namespace Go.Proofs.Ytdpolccecmaajaa
open Go
set_option linter.unusedVariables false
noncomputable section
def view_first_1 (f : T_Name_Number_Kind_Repeated_Packed_Of) (v : Int) : Option Bool :=
 some (f.Number == v)
def slices_IndexFunc___api_Field_api_Field___view_first_1_b1 (sv : (List T_Name_Number_Kind_Repeated_Packed_Of)) (v : Int) (v2 : Int) : Option (Int ⊕ (Unit ⊕ Int)) :=
 if (decide (v2 < (sv.length : Int))) then (
  idx sv v2 >>= fun x =>
  view_first_1 x v >>= fun rv =>
  if rv then (
   some (.inr (.inr v2))
  ) else (
   some (.inl (IntKind.i64.wrap (v2 + 1)))
  )
 ) else (
  some (.inr (.inl ()))
 )
def slices_IndexFunc___api_Field_api_Field___view_first_1_l1 (sv : (List T_Name_Number_Kind_Repeated_Packed_Of)) (v : Int) (v2 : Int) : Option (Unit ⊕ Int) := whileO (fun s : Int => slices_IndexFunc___api_Field_api_Field___view_first_1_b1 sv v s) v2
def slices_IndexFunc___api_Field_api_Field___view_first_1 (sv : (List T_Name_Number_Kind_Repeated_Packed_Of)) (v : Int) : Option Int :=
 slices_IndexFunc___api_Field_api_Field___view_first_1_l1 sv v 0 >>= fun q =>
 match q with
 | .inl u => (
  some (-1)
 )
 | .inr u2 => (
  some u2
 )
theorem slices_IndexFunc___api_Field_api_Field___view_first_1_l1_inl {sv : (List T_Name_Number_Kind_Repeated_Packed_Of)} {v : Int} {v2 : Int} {v2' : Int} (h : slices_IndexFunc___api_Field_api_Field___view_first_1_b1 sv v v2 = some (.inl v2')) : slices_IndexFunc___api_Field_api_Field___view_first_1_l1 sv v v2 = slices_IndexFunc___api_Field_api_Field___view_first_1_l1 sv v v2' := whileO_inl (body := fun s : Int => slices_IndexFunc___api_Field_api_Field___view_first_1_b1 sv v s) h
theorem slices_IndexFunc___api_Field_api_Field___view_first_1_l1_inr {sv : (List T_Name_Number_Kind_Repeated_Packed_Of)} {v : Int} {v2 : Int} {oo_ : (Unit ⊕ Int)} (h : slices_IndexFunc___api_Field_api_Field___view_first_1_b1 sv v v2 = some (.inr oo_)) : slices_IndexFunc___api_Field_api_Field___view_first_1_l1 sv v v2 = some oo_ := whileO_inr (body := fun s : Int => slices_IndexFunc___api_Field_api_Field___view_first_1_b1 sv v s) h
def view_first (m : T_Name_Fields) (number : Int) : Option Int :=
 slices_IndexFunc___api_Field_api_Field___view_first_1 m.Fields number >>= fun rv =>
 some rv
def view_isRun (f : T_Name_Number_Kind_Repeated_Packed_Of) (wire : Int) : Option Bool :=
 (
  if f.Repeated then (
   if (wire == 2) then (
    kind_Number f.Kind >>= fun rv =>
    some rv
   ) else (
    some false
   )
  ) else (
   some false
  )
 ) >>= fun g =>
 some g
def view_fits (k : Int) (wire : Int) : Option Bool :=
 kind_Wire k >>= fun rv =>
 some ((rv.2 == 0) && (rv.1 == wire))
def view_assign (m : T_Name_Fields) (hv : T_number_wire) : Option T_field_run_e :=
 view_first m hv.number >>= fun rv =>
 if (rv == (-1)) then (
  some (⟨(-1), false, 0⟩ : T_field_run_e)
 ) else (
  idx m.Fields rv >>= fun x =>
  view_isRun x hv.wire >>= fun rv2 =>
  (
   if (!rv2) then (
    view_fits x.Kind hv.wire >>= fun rv3 =>
    some (!rv3)
   ) else (
    some false
   )
  ) >>= fun g =>
  if g then (
   some (⟨0, false, 6⟩ : T_field_run_e)
  ) else (
   some (⟨rv, rv2, 0⟩ : T_field_run_e)
  )
 )
def view_look (m : T_Name_Fields) (b : (List UInt8)) (fromv : Int) (met : (List (T_number_wire × T_field_run_e))) : Option (T_Record_Field_Run × Int × (List (T_number_wire × T_field_run_e))) :=
 record_Next b fromv >>= fun rv =>
 if (rv.2 != 0) then (
  some ((⟨(⟨0, 0, 0, 0, 0⟩ : T_Number_Wire_From_At_To), 0, false⟩ : T_Record_Field_Run), rv.2, met)
 ) else (
  ((
   if (!(mget met (⟨rv.1.Number, rv.1.Wire⟩ : T_number_wire)).isSome) then (
    view_assign m (⟨rv.1.Number, rv.1.Wire⟩ : T_number_wire) >>= fun rv2 =>
    some ((mput met (⟨rv.1.Number, rv.1.Wire⟩ : T_number_wire) rv2), rv2.field, rv2.run, rv2.e)
   ) else (
    some (met, ((mget met (⟨rv.1.Number, rv.1.Wire⟩ : T_number_wire)).getD (⟨0, false, 0⟩ : T_field_run_e)).field, ((mget met (⟨rv.1.Number, rv.1.Wire⟩ : T_number_wire)).getD (⟨0, false, 0⟩ : T_field_run_e)).run, ((mget met (⟨rv.1.Number, rv.1.Wire⟩ : T_number_wire)).getD (⟨0, false, 0⟩ : T_field_run_e)).e)
   )
   : Option ((List (T_number_wire × T_field_run_e)) × Int × Bool × Int))) >>= fun p =>
  if (p.2.2.2 != 0) then (
   some ((⟨(⟨0, 0, 0, 0, 0⟩ : T_Number_Wire_From_At_To), 0, false⟩ : T_Record_Field_Run), p.2.2.2, p.1)
  ) else (
   some ((⟨rv.1, p.2.1, p.2.2.1⟩ : T_Record_Field_Run), 0, p.1)
  )
 )
def view_All_b1 (b : (List UInt8)) (m : T_Name_Fields) (l : (List T_Record_Field_Run)) (met : (List (T_number_wire × T_field_run_e))) (fromv : Int) : Option (((List T_Record_Field_Run) × (List (T_number_wire × T_field_run_e)) × Int) ⊕ ((List T_Record_Field_Run) ⊕ (Int × Int))) :=
 if (decide (fromv < (b.length : Int))) then (
  view_look m b fromv met >>= fun rv2 =>
  if (rv2.2.1 != 0) then (
   some (.inr (.inr (fromv, rv2.2.1)))
  ) else (
   app 56 l ([rv2.1] : (List T_Record_Field_Run)) >>= fun v =>
   some (.inl (v, rv2.2.2, rv2.1.Record.To))
  )
 ) else (
  some (.inr (.inl l))
 )
def view_All_l1 (b : (List UInt8)) (m : T_Name_Fields) (l : (List T_Record_Field_Run)) (met : (List (T_number_wire × T_field_run_e))) (fromv : Int) : Option ((List T_Record_Field_Run) ⊕ (Int × Int)) := whileO (fun s : ((List T_Record_Field_Run) × (List (T_number_wire × T_field_run_e)) × Int) => view_All_b1 b m s.1 s.2.1 s.2.2) (l, met, fromv)
def view_All (m : T_Name_Fields) (b : (List UInt8)) : Option ((List T_Record_Field_Run) × Int × Int) :=
 view_All_l1 b m [] ([] : (List (T_number_wire × T_field_run_e))) 0 >>= fun q =>
 match q with
 | .inl u => (
  some (u, 0, 0)
 )
 | .inr u2 => (
  some ([], u2.1, u2.2)
 )
theorem view_All_l1_inl {b : (List UInt8)} {m : T_Name_Fields} {l : (List T_Record_Field_Run)} {met : (List (T_number_wire × T_field_run_e))} {fromv : Int} {l' : (List T_Record_Field_Run)} {met' : (List (T_number_wire × T_field_run_e))} {fromv' : Int} (h : view_All_b1 b m l met fromv = some (.inl (l', met', fromv'))) : view_All_l1 b m l met fromv = view_All_l1 b m l' met' fromv' := whileO_inl (body := fun s : ((List T_Record_Field_Run) × (List (T_number_wire × T_field_run_e)) × Int) => view_All_b1 b m s.1 s.2.1 s.2.2) h
theorem view_All_l1_inr {b : (List UInt8)} {m : T_Name_Fields} {l : (List T_Record_Field_Run)} {met : (List (T_number_wire × T_field_run_e))} {fromv : Int} {oo_ : ((List T_Record_Field_Run) ⊕ (Int × Int))} (h : view_All_b1 b m l met fromv = some (.inr oo_)) : view_All_l1 b m l met fromv = some oo_ := whileO_inr (body := fun s : ((List T_Record_Field_Run) × (List (T_number_wire × T_field_run_e)) × Int) => view_All_b1 b m s.1 s.2.1 s.2.2) h
def darninglaw10_alive  : Option Bool :=
 view_All (⟨[], ([(⟨[], 1, 1, true, false, 0⟩ : T_Name_Number_Kind_Repeated_Packed_Of)] : (List T_Name_Number_Kind_Repeated_Packed_Of))⟩ : T_Name_Fields) ([(8 : UInt8), (1 : UInt8), (10 : UInt8), (1 : UInt8), (1 : UInt8), (16 : UInt8), (1 : UInt8)] : List UInt8) >>= fun rv =>
 (
  if ((IntKind.i64.wrap rv.2.2) == 0) then (
   if ((rv.1.length : Int) == 3) then (
    idx rv.1 0 >>= fun x =>
    if (x.Field == 0) then (
     idx rv.1 0 >>= fun x2 =>
     if (!x2.Run) then (
      idx rv.1 1 >>= fun x3 =>
      if x3.Run then (
       idx rv.1 2 >>= fun x4 =>
       some (x4.Field == (-1))
      ) else (
       some false
      )
     ) else (
      some false
     )
    ) else (
     some false
    )
   ) else (
    some false
   )
  ) else (
   some false
  )
 ) >>= fun g =>
 some g
def darninglaw10_Wide (m : T_Name_Fields) : Option Bool :=
 some (decide ((m.Fields.length : Int) > 300))
def view_Look (m : T_Name_Fields) (b : (List UInt8)) (fromv : Int) : Option (T_Record_Field_Run × Int) :=
 view_look m b fromv ([] : (List (T_number_wire × T_field_run_e))) >>= fun rv2 =>
 some (rv2.1, rv2.2.1)
def darningref10_Look (m : T_Name_Fields) (b : (List UInt8)) (fromv : Int) : Option (T_R_Field_Run × Int) :=
 darningref05_Next b fromv >>= fun rv =>
 if (rv.2 != 0) then (
  some ((⟨(⟨0, 0, 0, 0, 0⟩ : T_Number_Wire_From_At_To), 0, false⟩ : T_R_Field_Run), rv.2)
 ) else (
  darningref07_Field m rv.1.Number >>= fun rv2 =>
  if (decide (rv2 < 0)) then (
   some ((⟨rv.1, (-1), false⟩ : T_R_Field_Run), 0)
  ) else (
   idx m.Fields rv2 >>= fun x =>
   (
    if x.Repeated then (
     darningref06_Number x.Kind >>= fun rv3 =>
     if rv3 then (
      some (rv.1.Wire == 2)
     ) else (
      some false
     )
    ) else (
     some false
    )
   ) >>= fun g =>
   if g then (
    some ((⟨rv.1, rv2, true⟩ : T_R_Field_Run), 0)
   ) else (
    (
     darningref06_Right x.Kind >>= fun rv4 =>
     if (!rv4) then (
      some true
     ) else (
      darningref06_Wire x.Kind >>= fun rv5 =>
      some (rv5 != rv.1.Wire)
     )
    ) >>= fun g2 =>
    if g2 then (
     some ((⟨(⟨0, 0, 0, 0, 0⟩ : T_Number_Wire_From_At_To), 0, false⟩ : T_R_Field_Run), 6)
    ) else (
     some ((⟨rv.1, rv2, false⟩ : T_R_Field_Run), 0)
    )
   )
  )
 )
def darningref10_All_b1 (b : (List UInt8)) (m : T_Name_Fields) (out : (List T_R_Field_Run)) (atv : Int) : Option (((List T_R_Field_Run) × Int) ⊕ ((List T_R_Field_Run) ⊕ (Int × Int))) :=
 if (decide (atv < (b.length : Int))) then (
  darningref10_Look m b atv >>= fun rv =>
  if (rv.2 != 0) then (
   some (.inr (.inr (atv, rv.2)))
  ) else (
   app 56 out ([rv.1] : (List T_R_Field_Run)) >>= fun v3 =>
   some (.inl (v3, rv.1.R.To))
  )
 ) else (
  some (.inr (.inl out))
 )
def darningref10_All_l1 (b : (List UInt8)) (m : T_Name_Fields) (out : (List T_R_Field_Run)) (atv : Int) : Option ((List T_R_Field_Run) ⊕ (Int × Int)) := whileO (fun s : ((List T_R_Field_Run) × Int) => darningref10_All_b1 b m s.1 s.2) (out, atv)
def darningref10_All (m : T_Name_Fields) (b : (List UInt8)) : Option ((List T_R_Field_Run) × Int × Int) :=
 darningref10_All_l1 b m [] 0 >>= fun q =>
 match q with
 | .inl u => (
  some (u, 0, 0)
 )
 | .inr u2 => (
  some ([], u2.1, u2.2)
 )
theorem darningref10_All_l1_inl {b : (List UInt8)} {m : T_Name_Fields} {out : (List T_R_Field_Run)} {atv : Int} {out' : (List T_R_Field_Run)} {atv' : Int} (h : darningref10_All_b1 b m out atv = some (.inl (out', atv'))) : darningref10_All_l1 b m out atv = darningref10_All_l1 b m out' atv' := whileO_inl (body := fun s : ((List T_R_Field_Run) × Int) => darningref10_All_b1 b m s.1 s.2) h
theorem darningref10_All_l1_inr {b : (List UInt8)} {m : T_Name_Fields} {out : (List T_R_Field_Run)} {atv : Int} {oo_ : ((List T_R_Field_Run) ⊕ (Int × Int))} (h : darningref10_All_b1 b m out atv = some (.inr oo_)) : darningref10_All_l1 b m out atv = some oo_ := whileO_inr (body := fun s : ((List T_R_Field_Run) × Int) => darningref10_All_b1 b m s.1 s.2) h
def darninglaw10_same (av : T_Record_Field_Run) (b : T_R_Field_Run) : Option Bool :=
 some ((decide (av.Record = b.R)) && ((av.Field == b.Field) && (av.Run == b.Run)))
def darninglaw10_ViewLooks_b1 (rv5 : ((List T_Record_Field_Run) × Int × Int)) (rv6 : ((List T_R_Field_Run) × Int × Int)) (i : Int) : Option (Int ⊕ (Unit ⊕ Unit)) :=
 if (decide (i < (rv5.1.length : Int))) then (
  idx rv5.1 i >>= fun x =>
  idx rv6.1 i >>= fun x2 =>
  darninglaw10_same x x2 >>= fun rv8 =>
  if (!rv8) then (
   some (.inr (.inr ()))
  ) else (
   some (.inl (IntKind.i64.wrap (i + 1)))
  )
 ) else (
  some (.inr (.inl ()))
 )
def darninglaw10_ViewLooks_l1 (rv5 : ((List T_Record_Field_Run) × Int × Int)) (rv6 : ((List T_R_Field_Run) × Int × Int)) (i : Int) : Option (Unit ⊕ Unit) := whileO (fun s : Int => darninglaw10_ViewLooks_b1 rv5 rv6 s) i
def darninglaw10_ViewLooks (m : T_Name_Fields) (b : (List UInt8)) (fromv : Int) : Option Bool :=
 darninglaw10_alive >>= fun rv =>
 if (!rv) then (
  some false
 ) else (
  darninglaw10_Wide m >>= fun rv2 =>
  if (rv2 || (decide ((b.length : Int) > 2000))) then (
   some true
  ) else (
   view_Look m b fromv >>= fun rv3 =>
   darningref10_Look m b fromv >>= fun rv4 =>
   view_All m b >>= fun rv5 =>
   darningref10_All m b >>= fun rv6 =>
   (
    if ((IntKind.i64.wrap rv3.2) != rv4.2) then (
     some true
    ) else (
     if ((IntKind.i64.wrap rv5.2.2) != rv6.2.2) then (
      some true
     ) else (
      if (rv5.2.1 != rv6.2.1) then (
       some true
      ) else (
       if ((rv5.1.length : Int) != (rv6.1.length : Int)) then (
        some true
       ) else (
        darninglaw10_same rv3.1 rv4.1 >>= fun rv7 =>
        some (!rv7)
       )
      )
     )
    )
   ) >>= fun g =>
   if g then (
    some false
   ) else (
    darninglaw10_ViewLooks_l1 rv5 rv6 0 >>= fun q =>
    match q with
    | .inl u => (
     some true
    )
    | .inr u2 => (
     some false
    )
   )
  )
 )
theorem darninglaw10_ViewLooks_l1_inl {rv5 : ((List T_Record_Field_Run) × Int × Int)} {rv6 : ((List T_R_Field_Run) × Int × Int)} {i : Int} {i' : Int} (h : darninglaw10_ViewLooks_b1 rv5 rv6 i = some (.inl i')) : darninglaw10_ViewLooks_l1 rv5 rv6 i = darninglaw10_ViewLooks_l1 rv5 rv6 i' := whileO_inl (body := fun s : Int => darninglaw10_ViewLooks_b1 rv5 rv6 s) h
theorem darninglaw10_ViewLooks_l1_inr {rv5 : ((List T_Record_Field_Run) × Int × Int)} {rv6 : ((List T_R_Field_Run) × Int × Int)} {i : Int} {oo_ : (Unit ⊕ Unit)} (h : darninglaw10_ViewLooks_b1 rv5 rv6 i = some (.inr oo_)) : darninglaw10_ViewLooks_l1 rv5 rv6 i = some oo_ := whileO_inr (body := fun s : Int => darninglaw10_ViewLooks_b1 rv5 rv6 s) h
def view_Of_b1 (number : Int) (rv : ((List T_Record_Field_Run) × Int × Int)) (l : (List T_Record_Field_Run)) (v : Int) : Option (((List T_Record_Field_Run) × Int) ⊕ (List T_Record_Field_Run)) :=
 if (decide (v < (rv.1.length : Int))) then (
  idx rv.1 v >>= fun x =>
  if (x.Record.Number == number) then (
   app 56 l ([x] : (List T_Record_Field_Run)) >>= fun v2 =>
   some (.inl (v2, (IntKind.i64.wrap (v + 1))))
  ) else (
   some (.inl (l, (IntKind.i64.wrap (v + 1))))
  )
 ) else (
  some (.inr l)
 )
def view_Of_l1 (number : Int) (rv : ((List T_Record_Field_Run) × Int × Int)) (l : (List T_Record_Field_Run)) (v : Int) : Option (List T_Record_Field_Run) := whileO (fun s : ((List T_Record_Field_Run) × Int) => view_Of_b1 number rv s.1 s.2) (l, v)
def view_Of (m : T_Name_Fields) (b : (List UInt8)) (number : Int) : Option (List T_Record_Field_Run) :=
 view_All m b >>= fun rv =>
 view_Of_l1 number rv [] 0 >>= fun q =>
 some q
theorem view_Of_l1_inl {number : Int} {rv : ((List T_Record_Field_Run) × Int × Int)} {l : (List T_Record_Field_Run)} {v : Int} {l' : (List T_Record_Field_Run)} {v' : Int} (h : view_Of_b1 number rv l v = some (.inl (l', v'))) : view_Of_l1 number rv l v = view_Of_l1 number rv l' v' := whileO_inl (body := fun s : ((List T_Record_Field_Run) × Int) => view_Of_b1 number rv s.1 s.2) h
theorem view_Of_l1_inr {number : Int} {rv : ((List T_Record_Field_Run) × Int × Int)} {l : (List T_Record_Field_Run)} {v : Int} {oo_ : (List T_Record_Field_Run)} (h : view_Of_b1 number rv l v = some (.inr oo_)) : view_Of_l1 number rv l v = some oo_ := whileO_inr (body := fun s : ((List T_Record_Field_Run) × Int) => view_Of_b1 number rv s.1 s.2) h
def view_Unknown_b1 (b : (List UInt8)) (rv : ((List T_Record_Field_Run) × Int × Int)) (l : (List (List UInt8))) (v : Int) : Option (((List (List UInt8)) × Int) ⊕ (List (List UInt8))) :=
 if (decide (v < (rv.1.length : Int))) then (
  idx rv.1 v >>= fun x =>
  if (x.Field == (-1)) then (
   record_Whole b x.Record >>= fun rv2 =>
   app 24 l ([rv2] : (List (List UInt8))) >>= fun v2 =>
   some (.inl (v2, (IntKind.i64.wrap (v + 1))))
  ) else (
   some (.inl (l, (IntKind.i64.wrap (v + 1))))
  )
 ) else (
  some (.inr l)
 )
def view_Unknown_l1 (b : (List UInt8)) (rv : ((List T_Record_Field_Run) × Int × Int)) (l : (List (List UInt8))) (v : Int) : Option (List (List UInt8)) := whileO (fun s : ((List (List UInt8)) × Int) => view_Unknown_b1 b rv s.1 s.2) (l, v)
def view_Unknown (m : T_Name_Fields) (b : (List UInt8)) : Option (List (List UInt8)) :=
 view_All m b >>= fun rv =>
 view_Unknown_l1 b rv [] 0 >>= fun q =>
 some q
theorem view_Unknown_l1_inl {b : (List UInt8)} {rv : ((List T_Record_Field_Run) × Int × Int)} {l : (List (List UInt8))} {v : Int} {l' : (List (List UInt8))} {v' : Int} (h : view_Unknown_b1 b rv l v = some (.inl (l', v'))) : view_Unknown_l1 b rv l v = view_Unknown_l1 b rv l' v' := whileO_inl (body := fun s : ((List (List UInt8)) × Int) => view_Unknown_b1 b rv s.1 s.2) h
theorem view_Unknown_l1_inr {b : (List UInt8)} {rv : ((List T_Record_Field_Run) × Int × Int)} {l : (List (List UInt8))} {v : Int} {oo_ : (List (List UInt8))} (h : view_Unknown_b1 b rv l v = some (.inr oo_)) : view_Unknown_l1 b rv l v = some oo_ := whileO_inr (body := fun s : ((List (List UInt8)) × Int) => view_Unknown_b1 b rv s.1 s.2) h
def view_Drop_b1 (b : (List UInt8)) (rv : ((List T_Record_Field_Run) × Int × Int)) (c : (List UInt8)) (v : Int) : Option (((List UInt8) × Int) ⊕ (List UInt8)) :=
 if (decide (v < (rv.1.length : Int))) then (
  idx rv.1 v >>= fun x =>
  if (x.Field != (-1)) then (
   cut b x.Record.From x.Record.To >>= fun v2 =>
   app 1 c v2 >>= fun v3 =>
   some (.inl (v3, (IntKind.i64.wrap (v + 1))))
  ) else (
   some (.inl (c, (IntKind.i64.wrap (v + 1))))
  )
 ) else (
  some (.inr c)
 )
def view_Drop_l1 (b : (List UInt8)) (rv : ((List T_Record_Field_Run) × Int × Int)) (c : (List UInt8)) (v : Int) : Option (List UInt8) := whileO (fun s : ((List UInt8) × Int) => view_Drop_b1 b rv s.1 s.2) (c, v)
def view_Drop (m : T_Name_Fields) (b : (List UInt8)) : Option ((List UInt8) × Int) :=
 view_All m b >>= fun rv =>
 if (rv.2.2 != 0) then (
  some ([], rv.2.2)
 ) else (
  view_Drop_l1 b rv [] 0 >>= fun q =>
  some (q, 0)
 )
theorem view_Drop_l1_inl {b : (List UInt8)} {rv : ((List T_Record_Field_Run) × Int × Int)} {c : (List UInt8)} {v : Int} {c' : (List UInt8)} {v' : Int} (h : view_Drop_b1 b rv c v = some (.inl (c', v'))) : view_Drop_l1 b rv c v = view_Drop_l1 b rv c' v' := whileO_inl (body := fun s : ((List UInt8) × Int) => view_Drop_b1 b rv s.1 s.2) h
theorem view_Drop_l1_inr {b : (List UInt8)} {rv : ((List T_Record_Field_Run) × Int × Int)} {c : (List UInt8)} {v : Int} {oo_ : (List UInt8)} (h : view_Drop_b1 b rv c v = some (.inr oo_)) : view_Drop_l1 b rv c v = some oo_ := whileO_inr (body := fun s : ((List UInt8) × Int) => view_Drop_b1 b rv s.1 s.2) h
def view_Has (m : T_Name_Fields) (b : (List UInt8)) (number : Int) : Option Bool :=
 view_Of m b number >>= fun rv =>
 some (decide ((rv.length : Int) > 0))
def darninglaw10_ViewParts_b1 (b : (List UInt8)) (number : Int) (rv3 : ((List T_R_Field_Run) × Int × Int)) (rv4 : (List T_Record_Field_Run)) (rv5 : (List (List UInt8))) (n : Int) (k : Int) (want : (List UInt8)) (i : Int) : Option ((Int × Int × (List UInt8) × Int) ⊕ ((Int × Int × (List UInt8)) ⊕ Unit)) :=
 if (decide (i < (rv3.1.length : Int))) then (
  idx rv3.1 i >>= fun x =>
  ((
   if (x.R.Number == number) then (
    (
     if (decide (n ≥ (rv4.length : Int))) then (
      some true
     ) else (
      idx rv4 n >>= fun x2 =>
      idx rv3.1 i >>= fun x3 =>
      darninglaw10_same x2 x3 >>= fun rv7 =>
      some (!rv7)
     )
    ) >>= fun g =>
    if g then (
     some (.inr ())
    ) else (
     some (.inl (IntKind.i64.wrap (n + 1)))
    )
   ) else (
    some (.inl n)
   )
   : Option (Int ⊕ Unit))) >>= fun p =>
  match p with
  | .inl u => (
   idx rv3.1 i >>= fun x4 =>
   if (decide (x4.Field ≥ 0)) then (
    cut b x.R.From x.R.To >>= fun v3 =>
    app 1 want v3 >>= fun v4 =>
    some (.inl (u, k, v4, (IntKind.i64.wrap (i + 1))))
   ) else (
    (
     if (decide (k ≥ (rv5.length : Int))) then (
      some true
     ) else (
      idx rv5 k >>= fun x5 =>
      cut b x.R.From x.R.To >>= fun v5 =>
      darningref01_Same x5 v5 >>= fun rv8 =>
      some (!rv8)
     )
    ) >>= fun g2 =>
    if g2 then (
     some (.inr (.inr ()))
    ) else (
     some (.inl (u, (IntKind.i64.wrap (k + 1)), want, (IntKind.i64.wrap (i + 1))))
    )
   )
  )
  | .inr u2 => (
   some (.inr (.inr ()))
  )
 ) else (
  some (.inr (.inl (n, k, want)))
 )
def darninglaw10_ViewParts_l1 (b : (List UInt8)) (number : Int) (rv3 : ((List T_R_Field_Run) × Int × Int)) (rv4 : (List T_Record_Field_Run)) (rv5 : (List (List UInt8))) (n : Int) (k : Int) (want : (List UInt8)) (i : Int) : Option ((Int × Int × (List UInt8)) ⊕ Unit) := whileO (fun s : (Int × Int × (List UInt8) × Int) => darninglaw10_ViewParts_b1 b number rv3 rv4 rv5 s.1 s.2.1 s.2.2.1 s.2.2.2) (n, k, want, i)
def darninglaw10_ViewParts (m : T_Name_Fields) (b : (List UInt8)) (number : Int) : Option Bool :=
 darninglaw10_alive >>= fun rv =>
 if (!rv) then (
  some false
 ) else (
  darninglaw10_Wide m >>= fun rv2 =>
  if (rv2 || (decide ((b.length : Int) > 2000))) then (
   some true
  ) else (
   darningref10_All m b >>= fun rv3 =>
   view_Of m b number >>= fun rv4 =>
   view_Unknown m b >>= fun rv5 =>
   view_Drop m b >>= fun rv6 =>
   darninglaw10_ViewParts_l1 b number rv3 rv4 rv5 0 0 [] 0 >>= fun q =>
   match q with
   | .inl u3 => (
    (
     if (u3.1 == (rv4.length : Int)) then (
      if (u3.2.1 == (rv5.length : Int)) then (
       view_Has m b number >>= fun rv9 =>
       if (rv9 == (decide (u3.1 > 0))) then (
        if ((IntKind.i64.wrap rv6.2) == rv3.2.2) then (
         darningref01_Same rv6.1 u3.2.2 >>= fun rv10 =>
         some rv10
        ) else (
         some false
        )
       ) else (
        some false
       )
      ) else (
       some false
      )
     ) else (
      some false
     )
    ) >>= fun g3 =>
    some g3
   )
   | .inr u4 => (
    some false
   )
  )
 )
theorem darninglaw10_ViewParts_l1_inl {b : (List UInt8)} {number : Int} {rv3 : ((List T_R_Field_Run) × Int × Int)} {rv4 : (List T_Record_Field_Run)} {rv5 : (List (List UInt8))} {n : Int} {k : Int} {want : (List UInt8)} {i : Int} {n' : Int} {k' : Int} {want' : (List UInt8)} {i' : Int} (h : darninglaw10_ViewParts_b1 b number rv3 rv4 rv5 n k want i = some (.inl (n', k', want', i'))) : darninglaw10_ViewParts_l1 b number rv3 rv4 rv5 n k want i = darninglaw10_ViewParts_l1 b number rv3 rv4 rv5 n' k' want' i' := whileO_inl (body := fun s : (Int × Int × (List UInt8) × Int) => darninglaw10_ViewParts_b1 b number rv3 rv4 rv5 s.1 s.2.1 s.2.2.1 s.2.2.2) h
theorem darninglaw10_ViewParts_l1_inr {b : (List UInt8)} {number : Int} {rv3 : ((List T_R_Field_Run) × Int × Int)} {rv4 : (List T_Record_Field_Run)} {rv5 : (List (List UInt8))} {n : Int} {k : Int} {want : (List UInt8)} {i : Int} {oo_ : ((Int × Int × (List UInt8)) ⊕ Unit)} (h : darninglaw10_ViewParts_b1 b number rv3 rv4 rv5 n k want i = some (.inr oo_)) : darninglaw10_ViewParts_l1 b number rv3 rv4 rv5 n k want i = some oo_ := whileO_inr (body := fun s : (Int × Int × (List UInt8) × Int) => darninglaw10_ViewParts_b1 b number rv3 rv4 rv5 s.1 s.2.1 s.2.2.1 s.2.2.2) h
def darninglaw10_ViewSplit_b1 (rv5 : (List (List UInt8))) (n : Int) (i : Int) : Option ((Int × Int) ⊕ Int) :=
 if (decide (i < (rv5.length : Int))) then (
  idx rv5 i >>= fun x =>
  some (.inl ((IntKind.i64.wrap (n + (x.length : Int))), (IntKind.i64.wrap (i + 1))))
 ) else (
  some (.inr n)
 )
def darninglaw10_ViewSplit_l1 (rv5 : (List (List UInt8))) (n : Int) (i : Int) : Option Int := whileO (fun s : (Int × Int) => darninglaw10_ViewSplit_b1 rv5 s.1 s.2) (n, i)
def darninglaw10_ViewSplit (m : T_Name_Fields) (b : (List UInt8)) (atv : Int) : Option Bool :=
 darninglaw10_alive >>= fun rv =>
 if (!rv) then (
  some false
 ) else (
  darninglaw10_Wide m >>= fun rv2 =>
  if (rv2 || (decide ((b.length : Int) > 2000))) then (
   some true
  ) else (
   view_All m b >>= fun rv3 =>
   if ((IntKind.i64.wrap rv3.2.2) != 0) then (
    some ((rv3.1.length : Int) == 0)
   ) else (
    view_Drop m b >>= fun rv4 =>
    view_Unknown m b >>= fun rv5 =>
    darninglaw10_ViewSplit_l1 rv5 (rv4.1.length : Int) 0 >>= fun q =>
    (
     if ((IntKind.i64.wrap rv4.2) != 0) then (
      some true
     ) else (
      if (q != (b.length : Int)) then (
       some true
      ) else (
       view_Unknown m rv4.1 >>= fun rv6 =>
       some ((rv6.length : Int) != 0)
      )
     )
    ) >>= fun g =>
    if g then (
     some false
    ) else (
     if ((decide (atv < 0)) || (decide (atv ≥ (m.Fields.length : Int)))) then (
      some true
     ) else (
      cut m.Fields 0 atv >>= fun v4 =>
      app 48 ([] : (List T_Name_Number_Kind_Repeated_Packed_Of)) v4 >>= fun v5 =>
      cut m.Fields (IntKind.i64.wrap (atv + 1)) (m.Fields.length : Int) >>= fun v6 =>
      app 48 v5 v6 >>= fun v7 =>
      idx m.Fields atv >>= fun x2 =>
      darningref07_Field (⟨m.Name, v7⟩ : T_Name_Fields) x2.Number >>= fun rv7 =>
      if (decide (rv7 ≥ 0)) then (
       some true
      ) else (
       view_All (⟨m.Name, v7⟩ : T_Name_Fields) b >>= fun rv8 =>
       (
        if ((IntKind.i64.wrap rv8.2.2) == 0) then (
         if ((rv8.1.length : Int) == (rv3.1.length : Int)) then (
          view_Of (⟨m.Name, v7⟩ : T_Name_Fields) b x2.Number >>= fun rv9 =>
          view_Of m b x2.Number >>= fun rv10 =>
          if ((rv9.length : Int) == (rv10.length : Int)) then (
           view_Unknown (⟨m.Name, v7⟩ : T_Name_Fields) b >>= fun rv11 =>
           view_Of m b x2.Number >>= fun rv12 =>
           some ((rv11.length : Int) == (IntKind.i64.wrap ((rv5.length : Int) + (rv12.length : Int))))
          ) else (
           some false
          )
         ) else (
          some false
         )
        ) else (
         some false
        )
       ) >>= fun g2 =>
       some g2
      )
     )
    )
   )
  )
 )
theorem darninglaw10_ViewSplit_l1_inl {rv5 : (List (List UInt8))} {n : Int} {i : Int} {n' : Int} {i' : Int} (h : darninglaw10_ViewSplit_b1 rv5 n i = some (.inl (n', i'))) : darninglaw10_ViewSplit_l1 rv5 n i = darninglaw10_ViewSplit_l1 rv5 n' i' := whileO_inl (body := fun s : (Int × Int) => darninglaw10_ViewSplit_b1 rv5 s.1 s.2) h
theorem darninglaw10_ViewSplit_l1_inr {rv5 : (List (List UInt8))} {n : Int} {i : Int} {oo_ : Int} (h : darninglaw10_ViewSplit_b1 rv5 n i = some (.inr oo_)) : darninglaw10_ViewSplit_l1 rv5 n i = some oo_ := whileO_inr (body := fun s : (Int × Int) => darninglaw10_ViewSplit_b1 rv5 s.1 s.2) h
end
end Go.Proofs.Ytdpolccecmaajaa
