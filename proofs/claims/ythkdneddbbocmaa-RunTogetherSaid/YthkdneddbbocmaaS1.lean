/-
  What the Go functions do, as plain functions. No condition.
-/
import Derived.Test.YthkdneddbbocmaaK1
namespace Go.Proofs.Ythkdneddbbocmaa
open Go
set_option linter.unusedVariables false
abbrev Str := List UInt8
structure T_name_wire where
  name : Str
  wire : Int deriving DecidableEq
structure T_Name_Number_Kind_Repeated_Packed_Of where
  Name : Str
  Number : Int
  Kind : Int
  Repeated : Bool
  Packed : Bool
  Of : Int deriving DecidableEq
structure T_Name_Fields where
  Name : Str
  Fields : (List T_Name_Number_Kind_Repeated_Packed_Of) deriving DecidableEq
structure T_Number_Wire where
  Number : Int
  Wire : Int deriving DecidableEq
structure T_Number_Wire_From_At_To where
  Number : Int
  Wire : Int
  From : Int
  At : Int
  To : Int deriving DecidableEq
structure T_message_name where
  message : Int
  name : Str deriving DecidableEq
structure T_message_number where
  message : Int
  number : Int deriving DecidableEq
structure T_size_kinds_names_numbers where
  size : Int
  kinds : (List Int)
  names : (List (T_message_name × Bool))
  numbers : (List (T_message_number × Bool))
structure T_Message_Field_What where
  Message : Int
  Field : Int
  What : Int deriving DecidableEq
end Go.Proofs.Ythkdneddbbocmaa
namespace Go.Proofs.Ythkdneddbbocmaa
open Go
set_option linter.unusedVariables false
noncomputable section
def slices_Grow___byte_byte_ (n : Int) : Option (List UInt8) :=
 if (decide (n < 0)) then (
  none
 ) else (
  if (decide ((IntKind.i64.wrap (n - (IntKind.i64.wrap (0 - 0)))) > 0)) then (
   mkO 1 (0 : UInt8) (IntKind.i64.wrap (n - (IntKind.i64.wrap (0 - 0)))) (IntKind.i64.wrap (n - (IntKind.i64.wrap (0 - 0)))) >>= fun v =>
   cut v 0 0 >>= fun v2 =>
   some v2
  ) else (
   some []
  )
 )
def slices_Concat___byte_byte__b1 (slices : (List (List UInt8))) (size : Int) (v : Int) : Option ((Int × Int) ⊕ Int) :=
 if (decide (v < (slices.length : Int))) then (
  idx slices v >>= fun x =>
  if (decide ((IntKind.i64.wrap (size + (x.length : Int))) < 0)) then (
   none
  ) else (
   some (.inl ((IntKind.i64.wrap (size + (x.length : Int))), (IntKind.i64.wrap (v + 1))))
  )
 ) else (
  some (.inr size)
 )
def slices_Concat___byte_byte__l1 (slices : (List (List UInt8))) (size : Int) (v : Int) : Option Int := whileO (fun s : (Int × Int) => slices_Concat___byte_byte__b1 slices s.1 s.2) (size, v)
def slices_Concat___byte_byte__b2 (slices : (List (List UInt8))) (newslice : (List UInt8)) (v2 : Int) : Option (((List UInt8) × Int) ⊕ (List UInt8)) :=
 if (decide (v2 < (slices.length : Int))) then (
  idx slices v2 >>= fun x2 =>
  app 1 newslice x2 >>= fun v3 =>
  some (.inl (v3, (IntKind.i64.wrap (v2 + 1))))
 ) else (
  some (.inr newslice)
 )
def slices_Concat___byte_byte__l2 (slices : (List (List UInt8))) (newslice : (List UInt8)) (v2 : Int) : Option (List UInt8) := whileO (fun s : ((List UInt8) × Int) => slices_Concat___byte_byte__b2 slices s.1 s.2) (newslice, v2)
def slices_Concat___byte_byte_ (slices : (List (List UInt8))) : Option (List UInt8) :=
 slices_Concat___byte_byte__l1 slices 0 0 >>= fun q =>
 slices_Grow___byte_byte_ q >>= fun rv =>
 slices_Concat___byte_byte__l2 slices rv 0 >>= fun q2 =>
 some q2
theorem slices_Concat___byte_byte__l1_inl {slices : (List (List UInt8))} {size : Int} {v : Int} {size' : Int} {v' : Int} (h : slices_Concat___byte_byte__b1 slices size v = some (.inl (size', v'))) : slices_Concat___byte_byte__l1 slices size v = slices_Concat___byte_byte__l1 slices size' v' := whileO_inl (body := fun s : (Int × Int) => slices_Concat___byte_byte__b1 slices s.1 s.2) h
theorem slices_Concat___byte_byte__l1_inr {slices : (List (List UInt8))} {size : Int} {v : Int} {oo_ : Int} (h : slices_Concat___byte_byte__b1 slices size v = some (.inr oo_)) : slices_Concat___byte_byte__l1 slices size v = some oo_ := whileO_inr (body := fun s : (Int × Int) => slices_Concat___byte_byte__b1 slices s.1 s.2) h
theorem slices_Concat___byte_byte__l2_inl {slices : (List (List UInt8))} {newslice : (List UInt8)} {v2 : Int} {newslice' : (List UInt8)} {v2' : Int} (h : slices_Concat___byte_byte__b2 slices newslice v2 = some (.inl (newslice', v2'))) : slices_Concat___byte_byte__l2 slices newslice v2 = slices_Concat___byte_byte__l2 slices newslice' v2' := whileO_inl (body := fun s : ((List UInt8) × Int) => slices_Concat___byte_byte__b2 slices s.1 s.2) h
theorem slices_Concat___byte_byte__l2_inr {slices : (List (List UInt8))} {newslice : (List UInt8)} {v2 : Int} {oo_ : (List UInt8)} (h : slices_Concat___byte_byte__b2 slices newslice v2 = some (.inr oo_)) : slices_Concat___byte_byte__l2 slices newslice v2 = some oo_ := whileO_inr (body := fun s : ((List UInt8) × Int) => slices_Concat___byte_byte__b2 slices s.1 s.2) h
end
end Go.Proofs.Ythkdneddbbocmaa
namespace Go.Proofs.Ythkdneddbbocmaa
open Go
set_option linter.unusedVariables false
noncomputable section
def bits_Len_b1  (wv2 : Int) (n : Int) : Option ((Int × Int) ⊕ Int) :=
 if (wv2 != 0) then (
  some (.inl ((shrI .u64 wv2 7), (IntKind.i64.wrap (n + 1))))
 ) else (
  some (.inr n)
 )
def bits_Len_l1  (wv2 : Int) (n : Int) : Option Int := whileO (fun s : (Int × Int) => bits_Len_b1 s.1 s.2) (wv2, n)
def bits_Len (wv : Int) : Option Int :=
 bits_Len_l1 (shrI .u64 wv 7) 1 >>= fun q =>
 some q
theorem bits_Len_l1_inl  {wv2 : Int} {n : Int} {wv2' : Int} {n' : Int} (h : bits_Len_b1 wv2 n = some (.inl (wv2', n'))) : bits_Len_l1 wv2 n = bits_Len_l1 wv2' n' := whileO_inl (body := fun s : (Int × Int) => bits_Len_b1 s.1 s.2) h
theorem bits_Len_l1_inr  {wv2 : Int} {n : Int} {oo_ : Int} (h : bits_Len_b1 wv2 n = some (.inr oo_)) : bits_Len_l1 wv2 n = some oo_ := whileO_inr (body := fun s : (Int × Int) => bits_Len_b1 s.1 s.2) h
def bits_Little_b1 (v : (List UInt8)) (wv : Int) (b : (List UInt8)) (v2 : Int) : Option (((List UInt8) × Int) ⊕ (List UInt8)) :=
 if (decide (v2 < (v.length : Int))) then (
  shrO .u64 wv (IntKind.i64.wrap (8 * v2)) >>= fun v3 =>
  idx b v2 >>= fun x =>
  byteO (IntKind.u8.wrap v3) >>= fun y2 =>
  some (.inl ((b.set (Int.toNat v2) y2), (IntKind.i64.wrap (v2 + 1))))
 ) else (
  some (.inr b)
 )
def bits_Little_l1 (v : (List UInt8)) (wv : Int) (b : (List UInt8)) (v2 : Int) : Option (List UInt8) := whileO (fun s : ((List UInt8) × Int) => bits_Little_b1 v wv s.1 s.2) (b, v2)
def bits_Little (wv : Int) (n : Int) : Option (List UInt8) :=
 mkO 1 (0 : UInt8) (if (8 : Int) < (if n < 0 then 0 else n) then 8 else (if n < 0 then 0 else n)) (if (8 : Int) < (if n < 0 then 0 else n) then 8 else (if n < 0 then 0 else n)) >>= fun v =>
 bits_Little_l1 v wv v 0 >>= fun q =>
 some q
theorem bits_Little_l1_inl {v : (List UInt8)} {wv : Int} {b : (List UInt8)} {v2 : Int} {b' : (List UInt8)} {v2' : Int} (h : bits_Little_b1 v wv b v2 = some (.inl (b', v2'))) : bits_Little_l1 v wv b v2 = bits_Little_l1 v wv b' v2' := whileO_inl (body := fun s : ((List UInt8) × Int) => bits_Little_b1 v wv s.1 s.2) h
theorem bits_Little_l1_inr {v : (List UInt8)} {wv : Int} {b : (List UInt8)} {v2 : Int} {oo_ : (List UInt8)} (h : bits_Little_b1 v wv b v2 = some (.inr oo_)) : bits_Little_l1 v wv b v2 = some oo_ := whileO_inr (body := fun s : ((List UInt8) × Int) => bits_Little_b1 v wv s.1 s.2) h
def bits_Low32 (wv : Int) : Option Int :=
 some (IntKind.u32.wrap wv)
def bits_Sign32 (wv : Int) : Option Int :=
 bits_Low32 wv >>= fun rv =>
 some (IntKind.i32.wrap rv)
def bits_Wide32 (n : Int) : Option Int :=
 some (IntKind.u64.wrap (IntKind.i64.wrap n))
def bits_Word_b1 (v : (List UInt8)) (wv : Int) (v2 : Int) : Option ((Int × Int) ⊕ Int) :=
 if (decide (v2 < (v.length : Int))) then (
  idx v v2 >>= fun x =>
  shlO .u64 (IntKind.u64.wrap (x.toNat : Int)) (IntKind.i64.wrap (8 * v2)) >>= fun v3 =>
  some (.inl ((orI .u64 wv v3), (IntKind.i64.wrap (v2 + 1))))
 ) else (
  some (.inr wv)
 )
def bits_Word_l1 (v : (List UInt8)) (wv : Int) (v2 : Int) : Option Int := whileO (fun s : (Int × Int) => bits_Word_b1 v s.1 s.2) (wv, v2)
def bits_Word (b : (List UInt8)) : Option Int :=
 cut b 0 (if (8 : Int) < (b.length : Int) then 8 else (b.length : Int)) >>= fun v =>
 bits_Word_l1 v 0 0 >>= fun q =>
 some q
theorem bits_Word_l1_inl {v : (List UInt8)} {wv : Int} {v2 : Int} {wv' : Int} {v2' : Int} (h : bits_Word_b1 v wv v2 = some (.inl (wv', v2'))) : bits_Word_l1 v wv v2 = bits_Word_l1 v wv' v2' := whileO_inl (body := fun s : (Int × Int) => bits_Word_b1 v s.1 s.2) h
theorem bits_Word_l1_inr {v : (List UInt8)} {wv : Int} {v2 : Int} {oo_ : Int} (h : bits_Word_b1 v wv v2 = some (.inr oo_)) : bits_Word_l1 v wv v2 = some oo_ := whileO_inr (body := fun s : (Int × Int) => bits_Word_b1 v s.1 s.2) h
def darningref01_Little_b1 (n : Int) (wv2 : Int) (out : (List UInt8)) (i : Int) : Option ((Int × (List UInt8) × Int) ⊕ (List UInt8)) :=
 if ((decide (i < n)) && (decide (i < 8))) then (
  byteO (IntKind.u8.wrap (Int.tmod wv2 256)) >>= fun y =>
  app 1 out ([y] : List UInt8) >>= fun v2 =>
  some (.inl ((IntKind.u64.wrap (Int.tdiv wv2 256)), v2, (IntKind.i64.wrap (i + 1))))
 ) else (
  some (.inr out)
 )
def darningref01_Little_l1 (n : Int) (wv2 : Int) (out : (List UInt8)) (i : Int) : Option (List UInt8) := whileO (fun s : (Int × (List UInt8) × Int) => darningref01_Little_b1 n s.1 s.2.1 s.2.2) (wv2, out, i)
def darningref01_Little (wv : Int) (n : Int) : Option (List UInt8) :=
 darningref01_Little_l1 n wv [] 0 >>= fun q =>
 some q
theorem darningref01_Little_l1_inl {n : Int} {wv2 : Int} {out : (List UInt8)} {i : Int} {wv2' : Int} {out' : (List UInt8)} {i' : Int} (h : darningref01_Little_b1 n wv2 out i = some (.inl (wv2', out', i'))) : darningref01_Little_l1 n wv2 out i = darningref01_Little_l1 n wv2' out' i' := whileO_inl (body := fun s : (Int × (List UInt8) × Int) => darningref01_Little_b1 n s.1 s.2.1 s.2.2) h
theorem darningref01_Little_l1_inr {n : Int} {wv2 : Int} {out : (List UInt8)} {i : Int} {oo_ : (List UInt8)} (h : darningref01_Little_b1 n wv2 out i = some (.inr oo_)) : darningref01_Little_l1 n wv2 out i = some oo_ := whileO_inr (body := fun s : (Int × (List UInt8) × Int) => darningref01_Little_b1 n s.1 s.2.1 s.2.2) h
def darningref01_Same (av : (List UInt8)) (b : (List UInt8)) : Option Bool :=
 some (av == b)
def darningref01_Word_b1 (b : (List UInt8)) (wv : Int) (place : Int) (i : Int) : Option ((Int × Int × Int) ⊕ Int) :=
 if ((decide (i < (b.length : Int))) && (decide (i < 8))) then (
  idx b i >>= fun x =>
  some (.inl ((IntKind.u64.wrap (wv + (IntKind.u64.wrap ((IntKind.u64.wrap (x.toNat : Int)) * place)))), (IntKind.u64.wrap (place * 256)), (IntKind.i64.wrap (i + 1))))
 ) else (
  some (.inr wv)
 )
def darningref01_Word_l1 (b : (List UInt8)) (wv : Int) (place : Int) (i : Int) : Option Int := whileO (fun s : (Int × Int × Int) => darningref01_Word_b1 b s.1 s.2.1 s.2.2) (wv, place, i)
def darningref01_Word (b : (List UInt8)) : Option Int :=
 darningref01_Word_l1 b 0 1 0 >>= fun q =>
 some q
theorem darningref01_Word_l1_inl {b : (List UInt8)} {wv : Int} {place : Int} {i : Int} {wv' : Int} {place' : Int} {i' : Int} (h : darningref01_Word_b1 b wv place i = some (.inl (wv', place', i'))) : darningref01_Word_l1 b wv place i = darningref01_Word_l1 b wv' place' i' := whileO_inl (body := fun s : (Int × Int × Int) => darningref01_Word_b1 b s.1 s.2.1 s.2.2) h
theorem darningref01_Word_l1_inr {b : (List UInt8)} {wv : Int} {place : Int} {i : Int} {oo_ : Int} (h : darningref01_Word_b1 b wv place i = some (.inr oo_)) : darningref01_Word_l1 b wv place i = some oo_ := whileO_inr (body := fun s : (Int × Int × Int) => darningref01_Word_b1 b s.1 s.2.1 s.2.2) h
def darningref01_Sign32 (wv : Int) : Option Int :=
 if (decide ((IntKind.i64.wrap (Int.tmod wv 4294967296)) ≥ 2147483648)) then (
  some (IntKind.i64.wrap ((IntKind.i64.wrap (Int.tmod wv 4294967296)) - 4294967296))
 ) else (
  some (IntKind.i64.wrap (Int.tmod wv 4294967296))
 )
def darningref01_Wide (n : Int) : Option Int :=
 if (decide (n ≥ 0)) then (
  some (IntKind.u64.wrap n)
 ) else (
  some (IntKind.u64.wrap (18446744073709551615 - (IntKind.u64.wrap (IntKind.i64.wrap (0 - (IntKind.i64.wrap (n + 1)))))))
 )
end
end Go.Proofs.Ythkdneddbbocmaa
namespace Go.Proofs.Ythkdneddbbocmaa
open Go
set_option linter.unusedVariables false
noncomputable section
def varint_Read_b1 (v : (List UInt8)) (wv : Int) (v2 : Int) : Option ((Int × Int) ⊕ (Unit ⊕ (Int × Int × Int))) :=
 if (decide (v2 < (v.length : Int))) then (
  idx v v2 >>= fun x =>
  if ((v2 == 9) && (decide ((x.toNat : Int) > 1))) then (
   some (.inr (.inr (0, 0, 4)))
  ) else (
   shlO .u64 (IntKind.u64.wrap (andI .u8 (x.toNat : Int) 127)) (IntKind.i64.wrap (7 * v2)) >>= fun v4 =>
   if (decide ((x.toNat : Int) < 128)) then (
    some (.inr (.inr ((orI .u64 wv v4), (IntKind.i64.wrap (v2 + 1)), 0)))
   ) else (
    some (.inl ((orI .u64 wv v4), (IntKind.i64.wrap (v2 + 1))))
   )
  )
 ) else (
  some (.inr (.inl ()))
 )
def varint_Read_l1 (v : (List UInt8)) (wv : Int) (v2 : Int) : Option (Unit ⊕ (Int × Int × Int)) := whileO (fun s : (Int × Int) => varint_Read_b1 v s.1 s.2) (wv, v2)
def varint_Read (b : (List UInt8)) : Option (Int × Int × Int) :=
 cut b 0 (if (10 : Int) < (b.length : Int) then 10 else (b.length : Int)) >>= fun v =>
 varint_Read_l1 v 0 0 >>= fun q =>
 match q with
 | .inl u => (
  some (0, 0, 3)
 )
 | .inr u2 => (
  some (u2.1, u2.2.1, u2.2.2)
 )
theorem varint_Read_l1_inl {v : (List UInt8)} {wv : Int} {v2 : Int} {wv' : Int} {v2' : Int} (h : varint_Read_b1 v wv v2 = some (.inl (wv', v2'))) : varint_Read_l1 v wv v2 = varint_Read_l1 v wv' v2' := whileO_inl (body := fun s : (Int × Int) => varint_Read_b1 v s.1 s.2) h
theorem varint_Read_l1_inr {v : (List UInt8)} {wv : Int} {v2 : Int} {oo_ : (Unit ⊕ (Int × Int × Int))} (h : varint_Read_b1 v wv v2 = some (.inr oo_)) : varint_Read_l1 v wv v2 = some oo_ := whileO_inr (body := fun s : (Int × Int) => varint_Read_b1 v s.1 s.2) h
def varint_Put_b1  (wv2 : Int) (l : (List UInt8)) : Option ((Int × (List UInt8)) ⊕ (Int × (List UInt8))) :=
 if (decide (wv2 ≥ 128)) then (
  byteO (orI .u8 (IntKind.u8.wrap wv2) 128) >>= fun y =>
  app 1 l ([y] : List UInt8) >>= fun v3 =>
  some (.inl ((shrI .u64 wv2 7), v3))
 ) else (
  some (.inr (wv2, l))
 )
def varint_Put_l1  (wv2 : Int) (l : (List UInt8)) : Option (Int × (List UInt8)) := whileO (fun s : (Int × (List UInt8)) => varint_Put_b1 s.1 s.2) (wv2, l)
def varint_Put (b : (List UInt8)) (wv : Int) : Option (List UInt8) :=
 bits_Len wv >>= fun rv =>
 mkO 1 (0 : UInt8) 0 (IntKind.i64.wrap ((b.length : Int) + rv)) >>= fun v =>
 app 1 v b >>= fun v2 =>
 varint_Put_l1 wv v2 >>= fun q =>
 byteO (IntKind.u8.wrap q.1) >>= fun y2 =>
 app 1 q.2 ([y2] : List UInt8) >>= fun v4 =>
 some v4
theorem varint_Put_l1_inl  {wv2 : Int} {l : (List UInt8)} {wv2' : Int} {l' : (List UInt8)} (h : varint_Put_b1 wv2 l = some (.inl (wv2', l'))) : varint_Put_l1 wv2 l = varint_Put_l1 wv2' l' := whileO_inl (body := fun s : (Int × (List UInt8)) => varint_Put_b1 s.1 s.2) h
theorem varint_Put_l1_inr  {wv2 : Int} {l : (List UInt8)} {oo_ : (Int × (List UInt8))} (h : varint_Put_b1 wv2 l = some (.inr oo_)) : varint_Put_l1 wv2 l = some oo_ := whileO_inr (body := fun s : (Int × (List UInt8)) => varint_Put_b1 s.1 s.2) h
def darningref02_Same_b1 (av : (List Int)) (b : (List Int)) (i : Int) : Option (Int ⊕ (Unit ⊕ Unit)) :=
 if (decide (i < (av.length : Int))) then (
  idx av i >>= fun x =>
  idx b i >>= fun x2 =>
  if (x != x2) then (
   some (.inr (.inr ()))
  ) else (
   some (.inl (IntKind.i64.wrap (i + 1)))
  )
 ) else (
  some (.inr (.inl ()))
 )
def darningref02_Same_l1 (av : (List Int)) (b : (List Int)) (i : Int) : Option (Unit ⊕ Unit) := whileO (fun s : Int => darningref02_Same_b1 av b s) i
def darningref02_Same (av : (List Int)) (b : (List Int)) : Option Bool :=
 if ((av.length : Int) != (b.length : Int)) then (
  some false
 ) else (
  darningref02_Same_l1 av b 0 >>= fun q =>
  match q with
  | .inl u => (
   some true
  )
  | .inr u2 => (
   some false
  )
 )
theorem darningref02_Same_l1_inl {av : (List Int)} {b : (List Int)} {i : Int} {i' : Int} (h : darningref02_Same_b1 av b i = some (.inl i')) : darningref02_Same_l1 av b i = darningref02_Same_l1 av b i' := whileO_inl (body := fun s : Int => darningref02_Same_b1 av b s) h
theorem darningref02_Same_l1_inr {av : (List Int)} {b : (List Int)} {i : Int} {oo_ : (Unit ⊕ Unit)} (h : darningref02_Same_b1 av b i = some (.inr oo_)) : darningref02_Same_l1 av b i = some oo_ := whileO_inr (body := fun s : Int => darningref02_Same_b1 av b s) h
def darningref02_Put_f (rec_darningref02_Put : Int → Option (List UInt8)) (wv : Int) : Option (List UInt8) :=
 if (decide (wv < 128)) then (
  byteO (IntKind.u8.wrap wv) >>= fun y =>
  some ([y] : List UInt8)
 ) else (
  byteO (IntKind.u8.wrap (IntKind.u64.wrap (128 + (Int.tmod wv 128)))) >>= fun y2 =>
  rec_darningref02_Put (IntKind.u64.wrap (Int.tdiv wv 128)) >>= fun rv =>
  app 1 ([y2] : List UInt8) rv >>= fun v =>
  some v
 )
def darningref02_Put : Nat → Int → Option (List UInt8)
  | 0, _ => none
  | fuel + 1, wv => darningref02_Put_f (darningref02_Put fuel) wv
def darningref02_Read_b1 (atv : Int) (b : (List UInt8)) (n : Int) : Option (Int ⊕ Int) :=
 (
  if (decide ((IntKind.i64.wrap (atv + n)) < (b.length : Int))) then (
   if (decide (n < 10)) then (
    idx b (IntKind.i64.wrap (atv + n)) >>= fun x =>
    some (decide ((x.toNat : Int) ≥ 128))
   ) else (
    some false
   )
  ) else (
   some false
  )
 ) >>= fun g =>
 if g then (
  some (.inl (IntKind.i64.wrap (n + 1)))
 ) else (
  some (.inr n)
 )
def darningref02_Read_l1 (atv : Int) (b : (List UInt8)) (n : Int) : Option Int := whileO (fun s : Int => darningref02_Read_b1 atv b s) n
def darningref02_Read_b2 (atv : Int) (b : (List UInt8)) (wv : Int) (i : Int) : Option ((Int × Int) ⊕ Int) :=
 if (decide (i ≥ 0)) then (
  idx b (IntKind.i64.wrap (atv + i)) >>= fun x3 =>
  some (.inl ((IntKind.u64.wrap ((IntKind.u64.wrap (128 * wv)) + (IntKind.u64.wrap (Int.tmod (x3.toNat : Int) 128)))), (IntKind.i64.wrap (i - 1))))
 ) else (
  some (.inr wv)
 )
def darningref02_Read_l2 (atv : Int) (b : (List UInt8)) (wv : Int) (i : Int) : Option Int := whileO (fun s : (Int × Int) => darningref02_Read_b2 atv b s.1 s.2) (wv, i)
def darningref02_Read (b : (List UInt8)) (atv : Int) : Option (Int × Int × Int) :=
 darningref02_Read_l1 atv b 0 >>= fun q =>
 if (q == 10) then (
  some (0, 0, 4)
 ) else (
  if ((IntKind.i64.wrap (atv + q)) == (b.length : Int)) then (
   some (0, 0, 3)
  ) else (
   (
    if (q == 9) then (
     idx b (IntKind.i64.wrap (atv + q)) >>= fun x2 =>
     some (decide ((x2.toNat : Int) > 1))
    ) else (
     some false
    )
   ) >>= fun g2 =>
   if g2 then (
    some (0, 0, 4)
   ) else (
    darningref02_Read_l2 atv b 0 q >>= fun q2 =>
    some (q2, (IntKind.i64.wrap (q + 1)), 0)
   )
  )
 )
theorem darningref02_Read_l1_inl {atv : Int} {b : (List UInt8)} {n : Int} {n' : Int} (h : darningref02_Read_b1 atv b n = some (.inl n')) : darningref02_Read_l1 atv b n = darningref02_Read_l1 atv b n' := whileO_inl (body := fun s : Int => darningref02_Read_b1 atv b s) h
theorem darningref02_Read_l1_inr {atv : Int} {b : (List UInt8)} {n : Int} {oo_ : Int} (h : darningref02_Read_b1 atv b n = some (.inr oo_)) : darningref02_Read_l1 atv b n = some oo_ := whileO_inr (body := fun s : Int => darningref02_Read_b1 atv b s) h
theorem darningref02_Read_l2_inl {atv : Int} {b : (List UInt8)} {wv : Int} {i : Int} {wv' : Int} {i' : Int} (h : darningref02_Read_b2 atv b wv i = some (.inl (wv', i'))) : darningref02_Read_l2 atv b wv i = darningref02_Read_l2 atv b wv' i' := whileO_inl (body := fun s : (Int × Int) => darningref02_Read_b2 atv b s.1 s.2) h
theorem darningref02_Read_l2_inr {atv : Int} {b : (List UInt8)} {wv : Int} {i : Int} {oo_ : Int} (h : darningref02_Read_b2 atv b wv i = some (.inr oo_)) : darningref02_Read_l2 atv b wv i = some oo_ := whileO_inr (body := fun s : (Int × Int) => darningref02_Read_b2 atv b s.1 s.2) h
def varint_Skip (b : (List UInt8)) : Option (Int × Int) :=
 varint_Read b >>= fun rv =>
 some (rv.2.1, rv.2.2)
end
end Go.Proofs.Ythkdneddbbocmaa
namespace Go.Proofs.Ythkdneddbbocmaa
open Go
set_option linter.unusedVariables false
noncomputable section
def darningref05_Fits (wire : Int) (value : (List UInt8)) : Option Bool :=
 if (wire == 0) then (
  darningref02_Read value 0 >>= fun rv =>
  some ((rv.2.2 == 0) && (rv.2.1 == (value.length : Int)))
 ) else (
  some ((wire == 2) || (if (wire == 1) then (((value.length : Int) == 8) || ((wire == 5) && ((value.length : Int) == 4))) else ((wire == 5) && ((value.length : Int) == 4))))
 )
end
end Go.Proofs.Ythkdneddbbocmaa
namespace Go.Proofs.Ythkdneddbbocmaa
open Go
set_option linter.unusedVariables false
noncomputable section
def kind_truth (wv : Int) : Option Int :=
 some (if (1 : Int) < wv then 1 else wv)
def kind_Canon (k : Int) (wv : Int) : Option (Int × Int) :=
 ((
  if (k == 1) then (
   some (k == 1)
  ) else (
   some (k == 8)
  )
  : Option Bool)) >>= fun p =>
 if p then (
  bits_Sign32 wv >>= fun rv =>
  bits_Wide32 rv >>= fun rv2 =>
  some (rv2, 0)
 ) else (
  ((
   if (k == 3) then (
    some (k == 3)
   ) else (
    if (k == 5) then (
     some (k == 5)
    ) else (
     if (k == 9) then (
      some (k == 9)
     ) else (
      if (k == 10) then (
       some (k == 10)
      ) else (
       some (k == 11)
      )
     )
    )
   )
   : Option Bool)) >>= fun p2 =>
  if p2 then (
   bits_Low32 wv >>= fun rv3 =>
   some ((IntKind.u64.wrap rv3), 0)
  ) else (
   if (k == 7) then (
    kind_truth wv >>= fun rv4 =>
    some (rv4, 0)
   ) else (
    ((
     if (k == 2) then (
      some (k == 2)
     ) else (
      if (k == 4) then (
       some (k == 4)
      ) else (
       if (k == 6) then (
        some (k == 6)
       ) else (
        if (k == 12) then (
         some (k == 12)
        ) else (
         if (k == 13) then (
          some (k == 13)
         ) else (
          some (k == 14)
         )
        )
       )
      )
     )
     : Option Bool)) >>= fun p3 =>
    if p3 then (
     some (wv, 0)
    ) else (
     some (0, 2)
    )
   )
  )
 )
def darningref06_Wire (k : Int) : Option Int :=
 if (decide (k ≥ 15)) then (
  some 2
 ) else (
  if (decide (k ≥ 12)) then (
   some 1
  ) else (
   if (decide (k ≥ 9)) then (
    some 5
   ) else (
    some 0
   )
  )
 )
def darningref06_Number (k : Int) : Option Bool :=
 some ((decide (k ≥ 1)) && (decide (k ≤ 14)))
def darningref06_Canon (k : Int) (wv : Int) : Option Int :=
 ((
  if (k == 1) then (
   some (k == 1)
  ) else (
   some (k == 8)
  )
  : Option Bool)) >>= fun p =>
 if p then (
  darningref01_Sign32 wv >>= fun rv =>
  darningref01_Wide rv >>= fun rv2 =>
  some rv2
 ) else (
  ((
   if (k == 3) then (
    some (k == 3)
   ) else (
    if (k == 5) then (
     some (k == 5)
    ) else (
     if (k == 9) then (
      some (k == 9)
     ) else (
      if (k == 10) then (
       some (k == 10)
      ) else (
       some (k == 11)
      )
     )
    )
   )
   : Option Bool)) >>= fun p2 =>
  if p2 then (
   some (Int.tmod wv 4294967296)
  ) else (
   if (k == 7) then (
    if (decide (wv > 0)) then (
     some 1
    ) else (
     some 0
    )
   ) else (
    some wv
   )
  )
 )
end
end Go.Proofs.Ythkdneddbbocmaa
namespace Go.Proofs.Ythkdneddbbocmaa
open Go
set_option linter.unusedVariables false
noncomputable section
def scalar_width (k : Int) : Option (Int × Int) :=
 ((
  if (k == 1) then (
   some (k == 1)
  ) else (
   if (k == 2) then (
    some (k == 2)
   ) else (
    if (k == 3) then (
     some (k == 3)
    ) else (
     if (k == 4) then (
      some (k == 4)
     ) else (
      if (k == 5) then (
       some (k == 5)
      ) else (
       if (k == 6) then (
        some (k == 6)
       ) else (
        if (k == 7) then (
         some (k == 7)
        ) else (
         some (k == 8)
        )
       )
      )
     )
    )
   )
  )
  : Option Bool)) >>= fun p =>
 if p then (
  some (0, 0)
 ) else (
  ((
   if (k == 9) then (
    some (k == 9)
   ) else (
    if (k == 10) then (
     some (k == 10)
    ) else (
     some (k == 11)
    )
   )
   : Option Bool)) >>= fun p2 =>
  if p2 then (
   some (4, 0)
  ) else (
   if (k == 12) then (
    if (k == 12) then (
     some (8, 0)
    ) else (
     some (0, 2)
    )
   ) else (
    if (k == 13) then (
     if (k == 13) then (
      some (8, 0)
     ) else (
      some (0, 2)
     )
    ) else (
     if (k == 14) then (
      some (8, 0)
     ) else (
      some (0, 2)
     )
    )
   )
  )
 )
def scalar_whole (b : (List UInt8)) : Option (Int × Int) :=
 varint_Read b >>= fun rv =>
 if ((rv.2.2 != 0) || (rv.2.1 != (b.length : Int))) then (
  some (0, 12)
 ) else (
  some (rv.1, 0)
 )
def scalar_plain (k : Int) (b : (List UInt8)) : Option (Int × Int) :=
 scalar_width k >>= fun rv =>
 if (rv.2 != 0) then (
  some (0, rv.2)
 ) else (
  if (rv.1 == 0) then (
   scalar_whole b >>= fun rv2 =>
   some (rv2.1, rv2.2)
  ) else (
   if (rv.1 != (b.length : Int)) then (
    some (0, 12)
   ) else (
    bits_Word b >>= fun rv3 =>
    some (rv3, 0)
   )
  )
 )
def scalar_Read (k : Int) (b : (List UInt8)) : Option (Int × Int) :=
 scalar_plain k b >>= fun rv =>
 if (rv.2 != 0) then (
  some (0, rv.2)
 ) else (
  kind_Canon k rv.1 >>= fun rv2 =>
  some (rv2.1, rv2.2)
 )
def scalar_Put (k : Int) (wv : Int) : Option ((List UInt8) × Int) :=
 scalar_width k >>= fun rv =>
 if (rv.2 != 0) then (
  some ([], rv.2)
 ) else (
  kind_Canon k wv >>= fun rv2 =>
  if (rv.1 == 0) then (
   varint_Put ([] : (List UInt8)) rv2.1 >>= fun rv3 =>
   some (rv3, rv2.2)
  ) else (
   bits_Little rv2.1 rv.1 >>= fun rv4 =>
   some (rv4, rv2.2)
  )
 )
def scalar_Size (k : Int) (wv : Int) : Option Int :=
 scalar_width k >>= fun rv =>
 if ((rv.2 != 0) || (rv.1 != 0)) then (
  some rv.1
 ) else (
  kind_Canon k wv >>= fun rv2 =>
  bits_Len rv2.1 >>= fun rv3 =>
  some rv3
 )
def darningref08_Put (fuel : Nat) (k : Int) (wv : Int) : Option (List UInt8) :=
 darningref06_Canon k wv >>= fun rv =>
 if (decide (k ≥ 12)) then (
  darningref01_Little rv 8 >>= fun rv2 =>
  some rv2
 ) else (
  if (decide (k ≥ 9)) then (
   darningref01_Little rv 4 >>= fun rv3 =>
   some rv3
  ) else (
   darningref02_Put fuel rv >>= fun rv4 =>
   some rv4
  )
 )
def darningref08_Read (k : Int) (b : (List UInt8)) : Option (Int × Int) :=
 darningref06_Number k >>= fun rv =>
 if (!rv) then (
  some (0, 2)
 ) else (
  darningref06_Wire k >>= fun rv2 =>
  darningref05_Fits rv2 b >>= fun rv3 =>
  if (!rv3) then (
   some (0, 12)
  ) else (
   darningref01_Word b >>= fun rv4 =>
   darningref06_Wire k >>= fun rv5 =>
   if (rv5 == 0) then (
    darningref02_Read b 0 >>= fun rv6 =>
    darningref06_Canon k rv6.1 >>= fun rv7 =>
    some (rv7, 0)
   ) else (
    darningref06_Canon k rv4 >>= fun rv8 =>
    some (rv8, 0)
   )
  )
 )
def scalar_Canonical (k : Int) (b : (List UInt8)) : Option Bool :=
 scalar_plain k b >>= fun rv =>
 if (rv.2 != 0) then (
  some false
 ) else (
  kind_Canon k rv.1 >>= fun rv2 =>
  (
   if (rv.1 == rv2.1) then (
    scalar_Size k rv.1 >>= fun rv3 =>
    some ((b.length : Int) == rv3)
   ) else (
    some false
   )
  ) >>= fun g =>
  some g
 )
end
end Go.Proofs.Ythkdneddbbocmaa
namespace Go.Proofs.Ythkdneddbbocmaa
open Go
set_option linter.unusedVariables false
noncomputable section
def run_width (k : Int) : Option Int :=
 scalar_Size k 0 >>= fun rv =>
 some rv
def run_first (wide : Int) (b : (List UInt8)) : Option (Int × Int) :=
 if (wide == 1) then (
  varint_Skip b >>= fun rv =>
  some (rv.1, rv.2)
 ) else (
  if (decide (wide > (b.length : Int))) then (
   some (0, 3)
  ) else (
   some (wide, 0)
  )
 )
def run_values_1_b1 {σ : Type} (kf : (Rnd σ ((List UInt8) × Int))) (rv : Int) (rest : (List UInt8)) (sg2 : σ) : Option (((List UInt8) × σ) ⊕ (σ ⊕ σ)) :=
 if (decide ((rest.length : Int) > 0)) then (
  run_first rv rest >>= fun rv2 =>
  cut rest 0 rv2.1 >>= fun v3 =>
  kf sg2 (v3, rv2.2) >>= fun y2 =>
  if ((!y2.1) || (rv2.2 != 0)) then (
   some (.inr (.inr y2.2))
  ) else (
   cut rest rv2.1 (rest.length : Int) >>= fun v5 =>
   some (.inl (v5, y2.2))
  )
 ) else (
  some (.inr (.inl sg2))
 )
def run_values_1_l1 {σ : Type} (kf : (Rnd σ ((List UInt8) × Int))) (rv : Int) (rest : (List UInt8)) (sg2 : σ) : Option (σ ⊕ σ) := whileO (fun s : ((List UInt8) × σ) => run_values_1_b1 kf rv s.1 s.2) (rest, sg2)
def run_values_1 {σ : Type} (v : Int) (v2 : (List UInt8)) (kf : Rnd σ ((List UInt8) × Int)) (sg : σ) : Option σ :=
 run_width v >>= fun rv =>
 if (rv == 0) then (
  kf sg (([] : (List UInt8)), 2) >>= fun y =>
  some y.2
 ) else (
  run_values_1_l1 kf rv v2 sg >>= fun q =>
  match q with
  | .inl u => (
   some u
  )
  | .inr u2 => (
   some u2
  )
 )
theorem run_values_1_l1_inl {σ : Type} {kf : (Rnd σ ((List UInt8) × Int))} {rv : Int} {rest : (List UInt8)} {sg2 : σ} {rest' : (List UInt8)} {sg2' : σ} (h : run_values_1_b1 kf rv rest sg2 = some (.inl (rest', sg2'))) : run_values_1_l1 kf rv rest sg2 = run_values_1_l1 kf rv rest' sg2' := whileO_inl (body := fun s : ((List UInt8) × σ) => run_values_1_b1 kf rv s.1 s.2) h
theorem run_values_1_l1_inr {σ : Type} {kf : (Rnd σ ((List UInt8) × Int))} {rv : Int} {rest : (List UInt8)} {sg2 : σ} {oo_ : (σ ⊕ σ)} (h : run_values_1_b1 kf rv rest sg2 = some (.inr oo_)) : run_values_1_l1 kf rv rest sg2 = some oo_ := whileO_inr (body := fun s : ((List UInt8) × σ) => run_values_1_b1 kf rv s.1 s.2) h
def run_values (k : Int) (b : (List UInt8)) : Option (Int × (List UInt8)) :=
 some (k, b)
def run_Words_r1 (k : Int) (f : (List Int)) (x : (List UInt8)) (x2 : Int) : Option ((List Int) ⊕ (Int × (List Int))) :=
 if (x2 != 0) then (
  some (.inr (x2, f))
 ) else (
  scalar_Read k x >>= fun rv2 =>
  app 8 f ([rv2.1] : (List Int)) >>= fun v =>
  some (.inl v)
 )
def run_Words (k : Int) (b : (List UInt8)) : Option ((List Int) × Int) :=
 run_values k b >>= fun rv =>
 run_values_1 rv.1 rv.2 (rnd (fun (s : (List Int)) (x : ((List UInt8) × Int)) => run_Words_r1 k s x.1 x.2)) (.inl []) >>= fun q =>
 match q with
 | .inl u => (
  some (u, 0)
 )
 | .inr j => (
  some ([], j.1)
 )
def darninglaw09_alive  : Option Bool :=
 run_Words 3 ([(1 : UInt8), (172 : UInt8), (2 : UInt8)] : List UInt8) >>= fun rv =>
 (
  if ((IntKind.i64.wrap rv.2) == 0) then (
   darningref02_Same rv.1 ([1, 300] : (List Int)) >>= fun rv2 =>
   some rv2
  ) else (
   some false
  )
 ) >>= fun g =>
 some g
def run_behind_r1 (n : Int) (f : Int) (f2 : Int) (x : (List UInt8)) (x2 : Int) : Option ((Int × Int) ⊕ (Int × Int × Int)) :=
 if (x2 != 0) then (
  some (.inr (x2, f, f2))
 ) else (
  if (decide (f2 < n)) then (
   some (.inl ((IntKind.i64.wrap (f + (x.length : Int))), (IntKind.i64.wrap (f2 + 1))))
  ) else (
   some (.inl (f, (IntKind.i64.wrap (f2 + 1))))
  )
 )
def run_behind (k : Int) (b : (List UInt8)) (n : Int) : Option (Int × Int) :=
 run_values k b >>= fun rv =>
 run_values_1 rv.1 rv.2 (rnd (fun (s : (Int × Int)) (x : ((List UInt8) × Int)) => run_behind_r1 n s.1 s.2 x.1 x.2)) (.inl (0, 0)) >>= fun q =>
 match q with
 | .inl u => (
  if ((decide (n < 0)) || (decide (n > u.2))) then (
   some (0, 11)
  ) else (
   some (u.1, 0)
  )
 )
 | .inr j => (
  some (0, j.1)
 )
def run_Cut (k : Int) (b : (List UInt8)) (n : Int) : Option ((List UInt8) × (List UInt8) × Int) :=
 run_behind k b n >>= fun rv =>
 if (rv.2 != 0) then (
  some ([], [], rv.2)
 ) else (
  cut b 0 rv.1 >>= fun v =>
  slices_Concat___byte_byte_ ([v] : (List (List UInt8))) >>= fun rv2 =>
  cut b rv.1 (b.length : Int) >>= fun v2 =>
  slices_Concat___byte_byte_ ([v2] : (List (List UInt8))) >>= fun rv3 =>
  some (rv2, rv3, 0)
 )
def darningref09_Ends_b1 (b : (List UInt8)) (k : Int) (out : (List Int)) (atv : Int) : Option (((List Int) × Int) ⊕ ((List Int) ⊕ Int)) :=
 if (decide (atv < (b.length : Int))) then (
  ((
   if (decide (k < 12)) then (
    some 4
   ) else (
    some 8
   )
   : Option Int)) >>= fun p =>
  ((
   if (decide (k < 9)) then (
    darningref02_Read b atv >>= fun rv2 =>
    if (rv2.2.2 != 0) then (
     some (.inr rv2.2.2)
    ) else (
     some (.inl rv2.2.1)
    )
   ) else (
    some (.inl p)
   )
   : Option (Int ⊕ Int))) >>= fun p2 =>
  match p2 with
  | .inl u => (
   if (decide ((IntKind.i64.wrap (atv + u)) > (b.length : Int))) then (
    some (.inr (.inr 3))
   ) else (
    app 8 out ([(IntKind.i64.wrap (atv + u))] : (List Int)) >>= fun v3 =>
    some (.inl (v3, (IntKind.i64.wrap (atv + u))))
   )
  )
  | .inr u2 => (
   some (.inr (.inr u2))
  )
 ) else (
  some (.inr (.inl out))
 )
def darningref09_Ends_l1 (b : (List UInt8)) (k : Int) (out : (List Int)) (atv : Int) : Option ((List Int) ⊕ Int) := whileO (fun s : ((List Int) × Int) => darningref09_Ends_b1 b k s.1 s.2) (out, atv)
def darningref09_Ends (k : Int) (b : (List UInt8)) : Option ((List Int) × Int) :=
 darningref06_Number k >>= fun rv =>
 if (!rv) then (
  some ([], 2)
 ) else (
  darningref09_Ends_l1 b k [] 0 >>= fun q =>
  match q with
  | .inl u3 => (
   some (u3, 0)
  )
  | .inr u4 => (
   some ([], u4)
  )
 )
theorem darningref09_Ends_l1_inl {b : (List UInt8)} {k : Int} {out : (List Int)} {atv : Int} {out' : (List Int)} {atv' : Int} (h : darningref09_Ends_b1 b k out atv = some (.inl (out', atv'))) : darningref09_Ends_l1 b k out atv = darningref09_Ends_l1 b k out' atv' := whileO_inl (body := fun s : ((List Int) × Int) => darningref09_Ends_b1 b k s.1 s.2) h
theorem darningref09_Ends_l1_inr {b : (List UInt8)} {k : Int} {out : (List Int)} {atv : Int} {oo_ : ((List Int) ⊕ Int)} (h : darningref09_Ends_b1 b k out atv = some (.inr oo_)) : darningref09_Ends_l1 b k out atv = some oo_ := whileO_inr (body := fun s : ((List Int) × Int) => darningref09_Ends_b1 b k s.1 s.2) h
def darninglaw09_RunCuts (k : Int) (b : (List UInt8)) (n : Int) : Option Bool :=
 darninglaw09_alive >>= fun rv =>
 if (!rv) then (
  some false
 ) else (
  if (decide ((b.length : Int) > 2000)) then (
   some true
  ) else (
   run_Cut k b n >>= fun rv2 =>
   darningref09_Ends k b >>= fun rv3 =>
   if (rv3.2 != 0) then (
    some (((IntKind.i64.wrap rv2.2.2) == rv3.2) && ((IntKind.i64.wrap ((rv2.1.length : Int) + (rv2.2.1.length : Int))) == 0))
   ) else (
    if ((decide (n < 0)) || (decide (n > (rv3.1.length : Int)))) then (
     some (((IntKind.i64.wrap rv2.2.2) == 11) && ((IntKind.i64.wrap ((rv2.1.length : Int) + (rv2.2.1.length : Int))) == 0))
    ) else (
     ((
      if (decide (n > 0)) then (
       idx rv3.1 (IntKind.i64.wrap (n - 1)) >>= fun x =>
       some x
      ) else (
       some 0
      )
      : Option Int)) >>= fun p =>
     (
      if ((IntKind.i64.wrap rv2.2.2) == 0) then (
       cut b 0 p >>= fun v4 =>
       darningref01_Same rv2.1 v4 >>= fun rv4 =>
       if rv4 then (
        cut b p (b.length : Int) >>= fun v5 =>
        darningref01_Same rv2.2.1 v5 >>= fun rv5 =>
        some rv5
       ) else (
        some false
       )
      ) else (
       some false
      )
     ) >>= fun g =>
     some g
    )
   )
  )
 )
def run_Pack_b1 (k : Int) (l : (List Int)) (b : (List UInt8)) (v : Int) : Option (((List UInt8) × Int) ⊕ (List UInt8)) :=
 if (decide (v < (l.length : Int))) then (
  idx l v >>= fun x =>
  scalar_Put k x >>= fun rv2 =>
  app 1 b rv2.1 >>= fun v2 =>
  some (.inl (v2, (IntKind.i64.wrap (v + 1))))
 ) else (
  some (.inr b)
 )
def run_Pack_l1 (k : Int) (l : (List Int)) (b : (List UInt8)) (v : Int) : Option (List UInt8) := whileO (fun s : ((List UInt8) × Int) => run_Pack_b1 k l s.1 s.2) (b, v)
def run_Pack (k : Int) (l : (List Int)) : Option ((List UInt8) × Int) :=
 run_width k >>= fun rv =>
 if (rv == 0) then (
  some ([], 2)
 ) else (
  run_Pack_l1 k l [] 0 >>= fun q =>
  some (q, 0)
 )
theorem run_Pack_l1_inl {k : Int} {l : (List Int)} {b : (List UInt8)} {v : Int} {b' : (List UInt8)} {v' : Int} (h : run_Pack_b1 k l b v = some (.inl (b', v'))) : run_Pack_l1 k l b v = run_Pack_l1 k l b' v' := whileO_inl (body := fun s : ((List UInt8) × Int) => run_Pack_b1 k l s.1 s.2) h
theorem run_Pack_l1_inr {k : Int} {l : (List Int)} {b : (List UInt8)} {v : Int} {oo_ : (List UInt8)} (h : run_Pack_b1 k l b v = some (.inr oo_)) : run_Pack_l1 k l b v = some oo_ := whileO_inr (body := fun s : ((List UInt8) × Int) => run_Pack_b1 k l s.1 s.2) h
def darningref09_Pack_b1 (fuel : Nat) (k : Int) (l : (List Int)) (out : (List UInt8)) (i : Int) : Option (((List UInt8) × Int) ⊕ (List UInt8)) :=
 if (decide (i < (l.length : Int))) then (
  idx l i >>= fun x =>
  darningref08_Put fuel k x >>= fun rv =>
  app 1 out rv >>= fun v =>
  some (.inl (v, (IntKind.i64.wrap (i + 1))))
 ) else (
  some (.inr out)
 )
def darningref09_Pack_l1 (fuel : Nat) (k : Int) (l : (List Int)) (out : (List UInt8)) (i : Int) : Option (List UInt8) := whileO (fun s : ((List UInt8) × Int) => darningref09_Pack_b1 fuel k l s.1 s.2) (out, i)
def darningref09_Pack (fuel : Nat) (k : Int) (l : (List Int)) : Option (List UInt8) :=
 darningref09_Pack_l1 fuel k l [] 0 >>= fun q =>
 some q
theorem darningref09_Pack_l1_inl {fuel : Nat} {k : Int} {l : (List Int)} {out : (List UInt8)} {i : Int} {out' : (List UInt8)} {i' : Int} (h : darningref09_Pack_b1 fuel k l out i = some (.inl (out', i'))) : darningref09_Pack_l1 fuel k l out i = darningref09_Pack_l1 fuel k l out' i' := whileO_inl (body := fun s : ((List UInt8) × Int) => darningref09_Pack_b1 fuel k l s.1 s.2) h
theorem darningref09_Pack_l1_inr {fuel : Nat} {k : Int} {l : (List Int)} {out : (List UInt8)} {i : Int} {oo_ : (List UInt8)} (h : darningref09_Pack_b1 fuel k l out i = some (.inr oo_)) : darningref09_Pack_l1 fuel k l out i = some oo_ := whileO_inr (body := fun s : ((List UInt8) × Int) => darningref09_Pack_b1 fuel k l s.1 s.2) h
def run_Canonical_r1 (k : Int) (x : (List UInt8)) (x2 : Int) : Option (Unit ⊕ Unit) :=
 (
  if (x2 != 0) then (
   some true
  ) else (
   scalar_Canonical k x >>= fun rv2 =>
   some (!rv2)
  )
 ) >>= fun g =>
 if g then (
  some (.inr ())
 ) else (
  some (.inl ())
 )
def run_Canonical (k : Int) (b : (List UInt8)) : Option Bool :=
 run_values k b >>= fun rv =>
 run_values_1 rv.1 rv.2 (rnd (fun (s : Unit) (x : ((List UInt8) × Int)) => run_Canonical_r1 k x.1 x.2)) (.inl ()) >>= fun q =>
 match q with
 | .inl u => (
  some true
 )
 | .inr j => (
  some false
 )
def darninglaw09_RunPacks (fuel : Nat) (k : Int) (l : (List Int)) : Option Bool :=
 darninglaw09_alive >>= fun rv =>
 if (!rv) then (
  some false
 ) else (
  if (decide ((l.length : Int) > 500)) then (
   some true
  ) else (
   run_Pack k l >>= fun rv2 =>
   darningref06_Number k >>= fun rv3 =>
   if (!rv3) then (
    some (((IntKind.i64.wrap rv2.2) == 2) && ((rv2.1.length : Int) == 0))
   ) else (
    (
     if ((IntKind.i64.wrap rv2.2) == 0) then (
      darningref09_Pack fuel k l >>= fun rv4 =>
      darningref01_Same rv2.1 rv4 >>= fun rv5 =>
      if rv5 then (
       run_Canonical k rv2.1 >>= fun rv6 =>
       some rv6
      ) else (
       some false
      )
     ) else (
      some false
     )
    ) >>= fun g =>
    some g
   )
  )
 )
def darninglaw09_RunTogether (k : Int) (av : (List UInt8)) (b : (List UInt8)) : Option Bool :=
 darninglaw09_alive >>= fun rv =>
 if (!rv) then (
  some false
 ) else (
  if (decide ((IntKind.i64.wrap ((av.length : Int) + (b.length : Int))) > 2000)) then (
   some true
  ) else (
   run_Words k av >>= fun rv2 =>
   run_Words k b >>= fun rv3 =>
   app 1 ([] : (List UInt8)) av >>= fun v =>
   app 1 v b >>= fun v2 =>
   run_Words k v2 >>= fun rv4 =>
   if (((IntKind.i64.wrap rv2.2) != 0) || ((IntKind.i64.wrap rv3.2) != 0)) then (
    some (((IntKind.i64.wrap rv2.2) != 0) || ((IntKind.i64.wrap rv4.2) != 0))
   ) else (
    (
     if ((IntKind.i64.wrap rv4.2) != 0) then (
      some true
     ) else (
      app 8 ([] : (List Int)) rv2.1 >>= fun v5 =>
      app 8 v5 rv3.1 >>= fun v6 =>
      darningref02_Same rv4.1 v6 >>= fun rv5 =>
      some (!rv5)
     )
    ) >>= fun g =>
    if g then (
     some false
    ) else (
     run_Cut k v2 (rv2.1.length : Int) >>= fun rv6 =>
     (
      if ((IntKind.i64.wrap rv6.2.2) == 0) then (
       darningref01_Same rv6.1 av >>= fun rv7 =>
       if rv7 then (
        darningref01_Same rv6.2.1 b >>= fun rv8 =>
        some rv8
       ) else (
        some false
       )
      ) else (
       some false
      )
     ) >>= fun g2 =>
     some g2
    )
   )
  )
 )
def darningref09_Words_b1 (b : (List UInt8)) (k : Int) (rv : ((List Int) × Int)) (out : (List Int)) (i : Int) : Option (((List Int) × Int) ⊕ (List Int)) :=
 if (decide (i < (rv.1.length : Int))) then (
  ((
   if (decide (i > 0)) then (
    idx rv.1 (IntKind.i64.wrap (i - 1)) >>= fun x =>
    some x
   ) else (
    some 0
   )
   : Option Int)) >>= fun p =>
  idx rv.1 i >>= fun x2 =>
  cut b p x2 >>= fun v =>
  darningref08_Read k v >>= fun rv2 =>
  app 8 out ([rv2.1] : (List Int)) >>= fun v2 =>
  some (.inl (v2, (IntKind.i64.wrap (i + 1))))
 ) else (
  some (.inr out)
 )
def darningref09_Words_l1 (b : (List UInt8)) (k : Int) (rv : ((List Int) × Int)) (out : (List Int)) (i : Int) : Option (List Int) := whileO (fun s : ((List Int) × Int) => darningref09_Words_b1 b k rv s.1 s.2) (out, i)
def darningref09_Words (k : Int) (b : (List UInt8)) : Option ((List Int) × Int) :=
 darningref09_Ends k b >>= fun rv =>
 darningref09_Words_l1 b k rv [] 0 >>= fun q =>
 some (q, rv.2)
theorem darningref09_Words_l1_inl {b : (List UInt8)} {k : Int} {rv : ((List Int) × Int)} {out : (List Int)} {i : Int} {out' : (List Int)} {i' : Int} (h : darningref09_Words_b1 b k rv out i = some (.inl (out', i'))) : darningref09_Words_l1 b k rv out i = darningref09_Words_l1 b k rv out' i' := whileO_inl (body := fun s : ((List Int) × Int) => darningref09_Words_b1 b k rv s.1 s.2) h
theorem darningref09_Words_l1_inr {b : (List UInt8)} {k : Int} {rv : ((List Int) × Int)} {out : (List Int)} {i : Int} {oo_ : (List Int)} (h : darningref09_Words_b1 b k rv out i = some (.inr oo_)) : darningref09_Words_l1 b k rv out i = some oo_ := whileO_inr (body := fun s : ((List Int) × Int) => darningref09_Words_b1 b k rv s.1 s.2) h
def run_Count_r1  (f : Int) (x : (List UInt8)) (x2 : Int) : Option (Int ⊕ (Int × Int)) :=
 if (x2 != 0) then (
  some (.inr (x2, f))
 ) else (
  some (.inl (IntKind.i64.wrap (f + 1)))
 )
def run_Count (k : Int) (b : (List UInt8)) : Option (Int × Int) :=
 run_values k b >>= fun rv =>
 run_values_1 rv.1 rv.2 (rnd (fun (s : Int) (x : ((List UInt8) × Int)) => run_Count_r1 s x.1 x.2)) (.inl 0) >>= fun q =>
 match q with
 | .inl u => (
  some (u, 0)
 )
 | .inr j => (
  some (0, j.1)
 )
def run_At (k : Int) (b : (List UInt8)) (i : Int) : Option (Int × Int) :=
 run_behind k b i >>= fun rv =>
 if (rv.2 != 0) then (
  some (0, rv.2)
 ) else (
  if (rv.1 == (b.length : Int)) then (
   some (0, 11)
  ) else (
   run_width k >>= fun rv2 =>
   cut b rv.1 (b.length : Int) >>= fun v =>
   run_first rv2 v >>= fun rv3 =>
   cut b rv.1 (IntKind.i64.wrap (rv.1 + rv3.1)) >>= fun v2 =>
   scalar_Read k v2 >>= fun rv4 =>
   some (rv4.1, rv4.2)
  )
 )
def darninglaw09_RunWords (fuel : Nat) (k : Int) (b : (List UInt8)) (i : Int) : Option Bool :=
 darninglaw09_alive >>= fun rv =>
 if (!rv) then (
  some false
 ) else (
  if (decide ((b.length : Int) > 2000)) then (
   some true
  ) else (
   run_Words k b >>= fun rv2 =>
   darningref09_Words k b >>= fun rv3 =>
   run_Count k b >>= fun rv4 =>
   run_At k b i >>= fun rv5 =>
   (
    if ((IntKind.i64.wrap rv2.2) != rv3.2) then (
     some true
    ) else (
     if ((IntKind.i64.wrap rv4.2) != rv3.2) then (
      some true
     ) else (
      darningref02_Same rv2.1 rv3.1 >>= fun rv6 =>
      if (!rv6) then (
       some true
      ) else (
       some (rv4.1 != (rv3.1.length : Int))
      )
     )
    )
   ) >>= fun g =>
   if g then (
    some false
   ) else (
    if (rv3.2 != 0) then (
     (
      if ((IntKind.i64.wrap rv5.2) == rv3.2) then (
       if (rv5.1 == 0) then (
        run_Canonical k b >>= fun rv7 =>
        some (!rv7)
       ) else (
        some false
       )
      ) else (
       some false
      )
     ) >>= fun g2 =>
     some g2
    ) else (
     ((
      if ((decide (i < 0)) || (decide (i ≥ (rv3.1.length : Int)))) then (
       if (((IntKind.i64.wrap rv5.2) != 11) || (rv5.1 != 0)) then (
        some (.inr ())
       ) else (
        some (.inl ())
       )
      ) else (
       (
        if ((IntKind.i64.wrap rv5.2) != 0) then (
         some true
        ) else (
         idx rv3.1 i >>= fun x =>
         some (rv5.1 != x)
        )
       ) >>= fun g3 =>
       if g3 then (
        some (.inr ())
       ) else (
        some (.inl ())
       )
      )
      : Option (Unit ⊕ Unit))) >>= fun p =>
     match p with
     | .inl u => (
      run_Canonical k b >>= fun rv8 =>
      darningref09_Pack fuel k rv3.1 >>= fun rv9 =>
      darningref01_Same rv9 b >>= fun rv10 =>
      some (rv8 == rv10)
     )
     | .inr u2 => (
      some false
     )
    )
   )
  )
 )
end
end Go.Proofs.Ythkdneddbbocmaa
