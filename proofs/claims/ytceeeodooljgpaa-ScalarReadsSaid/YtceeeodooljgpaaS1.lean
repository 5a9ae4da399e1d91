/-
  What the Go functions do, as plain functions. No condition.
-/
import Derived.Test.YtceeeodooljgpaaK1
namespace Go.Proofs.Ytceeeodooljgpaa
open Go
set_option linter.unusedVariables false
abbrev Str := List UInt8
structure T_name_wire where
  name : Str
  wire : Int deriving DecidableEq
structure T_message_name where
  message : Int
  name : Str deriving DecidableEq
structure T_message_number where
  message : Int
  number : Int deriving DecidableEq
structure T_size_kinds_names_numbers where
  size : Int
  kinds : (List Int)
  names : (List (T_message_name × Bool))
  numbers : (List (T_message_number × Bool))
structure T_Message_Field_What where
  Message : Int
  Field : Int
  What : Int deriving DecidableEq
end Go.Proofs.Ytceeeodooljgpaa
namespace Go.Proofs.Ytceeeodooljgpaa
open Go
set_option linter.unusedVariables false
noncomputable section
def bits_Len_b1  (wv2 : Int) (n : Int) : Option ((Int × Int) ⊕ Int) :=
 if (wv2 != 0) then (
  some (.inl ((shrI .u64 wv2 7), (IntKind.i64.wrap (n + 1))))
 ) else (
  some (.inr n)
 )
def bits_Len_l1  (wv2 : Int) (n : Int) : Option Int := whileO (fun s : (Int × Int) => bits_Len_b1 s.1 s.2) (wv2, n)
def bits_Len (wv : Int) : Option Int :=
 bits_Len_l1 (shrI .u64 wv 7) 1 >>= fun q =>
 some q
theorem bits_Len_l1_inl  {wv2 : Int} {n : Int} {wv2' : Int} {n' : Int} (h : bits_Len_b1 wv2 n = some (.inl (wv2', n'))) : bits_Len_l1 wv2 n = bits_Len_l1 wv2' n' := whileO_inl (body := fun s : (Int × Int) => bits_Len_b1 s.1 s.2) h
theorem bits_Len_l1_inr  {wv2 : Int} {n : Int} {oo_ : Int} (h : bits_Len_b1 wv2 n = some (.inr oo_)) : bits_Len_l1 wv2 n = some oo_ := whileO_inr (body := fun s : (Int × Int) => bits_Len_b1 s.1 s.2) h
def bits_Little_b1 (v : (List UInt8)) (wv : Int) (b : (List UInt8)) (v2 : Int) : Option (((List UInt8) × Int) ⊕ (List UInt8)) :=
 if (decide (v2 < (v.length : Int))) then (
  shrO .u64 wv (IntKind.i64.wrap (8 * v2)) >>= fun v3 =>
  idx b v2 >>= fun x =>
  byteO (IntKind.u8.wrap v3) >>= fun y2 =>
  some (.inl ((b.set (Int.toNat v2) y2), (IntKind.i64.wrap (v2 + 1))))
 ) else (
  some (.inr b)
 )
def bits_Little_l1 (v : (List UInt8)) (wv : Int) (b : (List UInt8)) (v2 : Int) : Option (List UInt8) := whileO (fun s : ((List UInt8) × Int) => bits_Little_b1 v wv s.1 s.2) (b, v2)
def bits_Little (wv : Int) (n : Int) : Option (List UInt8) :=
 mkO 1 (0 : UInt8) (if (8 : Int) < (if n < 0 then 0 else n) then 8 else (if n < 0 then 0 else n)) (if (8 : Int) < (if n < 0 then 0 else n) then 8 else (if n < 0 then 0 else n)) >>= fun v =>
 bits_Little_l1 v wv v 0 >>= fun q =>
 some q
theorem bits_Little_l1_inl {v : (List UInt8)} {wv : Int} {b : (List UInt8)} {v2 : Int} {b' : (List UInt8)} {v2' : Int} (h : bits_Little_b1 v wv b v2 = some (.inl (b', v2'))) : bits_Little_l1 v wv b v2 = bits_Little_l1 v wv b' v2' := whileO_inl (body := fun s : ((List UInt8) × Int) => bits_Little_b1 v wv s.1 s.2) h
theorem bits_Little_l1_inr {v : (List UInt8)} {wv : Int} {b : (List UInt8)} {v2 : Int} {oo_ : (List UInt8)} (h : bits_Little_b1 v wv b v2 = some (.inr oo_)) : bits_Little_l1 v wv b v2 = some oo_ := whileO_inr (body := fun s : ((List UInt8) × Int) => bits_Little_b1 v wv s.1 s.2) h
def bits_Low32 (wv : Int) : Option Int :=
 some (IntKind.u32.wrap wv)
def bits_Sign32 (wv : Int) : Option Int :=
 bits_Low32 wv >>= fun rv =>
 some (IntKind.i32.wrap rv)
def bits_Wide32 (n : Int) : Option Int :=
 some (IntKind.u64.wrap (IntKind.i64.wrap n))
def bits_Word_b1 (v : (List UInt8)) (wv : Int) (v2 : Int) : Option ((Int × Int) ⊕ Int) :=
 if (decide (v2 < (v.length : Int))) then (
  idx v v2 >>= fun x =>
  shlO .u64 (IntKind.u64.wrap (x.toNat : Int)) (IntKind.i64.wrap (8 * v2)) >>= fun v3 =>
  some (.inl ((orI .u64 wv v3), (IntKind.i64.wrap (v2 + 1))))
 ) else (
  some (.inr wv)
 )
def bits_Word_l1 (v : (List UInt8)) (wv : Int) (v2 : Int) : Option Int := whileO (fun s : (Int × Int) => bits_Word_b1 v s.1 s.2) (wv, v2)
def bits_Word (b : (List UInt8)) : Option Int :=
 cut b 0 (if (8 : Int) < (b.length : Int) then 8 else (b.length : Int)) >>= fun v =>
 bits_Word_l1 v 0 0 >>= fun q =>
 some q
theorem bits_Word_l1_inl {v : (List UInt8)} {wv : Int} {v2 : Int} {wv' : Int} {v2' : Int} (h : bits_Word_b1 v wv v2 = some (.inl (wv', v2'))) : bits_Word_l1 v wv v2 = bits_Word_l1 v wv' v2' := whileO_inl (body := fun s : (Int × Int) => bits_Word_b1 v s.1 s.2) h
theorem bits_Word_l1_inr {v : (List UInt8)} {wv : Int} {v2 : Int} {oo_ : Int} (h : bits_Word_b1 v wv v2 = some (.inr oo_)) : bits_Word_l1 v wv v2 = some oo_ := whileO_inr (body := fun s : (Int × Int) => bits_Word_b1 v s.1 s.2) h
def darningref01_Little_b1 (n : Int) (wv2 : Int) (out : (List UInt8)) (i : Int) : Option ((Int × (List UInt8) × Int) ⊕ (List UInt8)) :=
 if ((decide (i < n)) && (decide (i < 8))) then (
  byteO (IntKind.u8.wrap (Int.tmod wv2 256)) >>= fun y =>
  app 1 out ([y] : List UInt8) >>= fun v2 =>
  some (.inl ((IntKind.u64.wrap (Int.tdiv wv2 256)), v2, (IntKind.i64.wrap (i + 1))))
 ) else (
  some (.inr out)
 )
def darningref01_Little_l1 (n : Int) (wv2 : Int) (out : (List UInt8)) (i : Int) : Option (List UInt8) := whileO (fun s : (Int × (List UInt8) × Int) => darningref01_Little_b1 n s.1 s.2.1 s.2.2) (wv2, out, i)
def darningref01_Little (wv : Int) (n : Int) : Option (List UInt8) :=
 darningref01_Little_l1 n wv [] 0 >>= fun q =>
 some q
theorem darningref01_Little_l1_inl {n : Int} {wv2 : Int} {out : (List UInt8)} {i : Int} {wv2' : Int} {out' : (List UInt8)} {i' : Int} (h : darningref01_Little_b1 n wv2 out i = some (.inl (wv2', out', i'))) : darningref01_Little_l1 n wv2 out i = darningref01_Little_l1 n wv2' out' i' := whileO_inl (body := fun s : (Int × (List UInt8) × Int) => darningref01_Little_b1 n s.1 s.2.1 s.2.2) h
theorem darningref01_Little_l1_inr {n : Int} {wv2 : Int} {out : (List UInt8)} {i : Int} {oo_ : (List UInt8)} (h : darningref01_Little_b1 n wv2 out i = some (.inr oo_)) : darningref01_Little_l1 n wv2 out i = some oo_ := whileO_inr (body := fun s : (Int × (List UInt8) × Int) => darningref01_Little_b1 n s.1 s.2.1 s.2.2) h
def darningref01_Same (av : (List UInt8)) (b : (List UInt8)) : Option Bool :=
 some (av == b)
def darningref01_Word_b1 (b : (List UInt8)) (wv : Int) (place : Int) (i : Int) : Option ((Int × Int × Int) ⊕ Int) :=
 if ((decide (i < (b.length : Int))) && (decide (i < 8))) then (
  idx b i >>= fun x =>
  some (.inl ((IntKind.u64.wrap (wv + (IntKind.u64.wrap ((IntKind.u64.wrap (x.toNat : Int)) * place)))), (IntKind.u64.wrap (place * 256)), (IntKind.i64.wrap (i + 1))))
 ) else (
  some (.inr wv)
 )
def darningref01_Word_l1 (b : (List UInt8)) (wv : Int) (place : Int) (i : Int) : Option Int := whileO (fun s : (Int × Int × Int) => darningref01_Word_b1 b s.1 s.2.1 s.2.2) (wv, place, i)
def darningref01_Word (b : (List UInt8)) : Option Int :=
 darningref01_Word_l1 b 0 1 0 >>= fun q =>
 some q
theorem darningref01_Word_l1_inl {b : (List UInt8)} {wv : Int} {place : Int} {i : Int} {wv' : Int} {place' : Int} {i' : Int} (h : darningref01_Word_b1 b wv place i = some (.inl (wv', place', i'))) : darningref01_Word_l1 b wv place i = darningref01_Word_l1 b wv' place' i' := whileO_inl (body := fun s : (Int × Int × Int) => darningref01_Word_b1 b s.1 s.2.1 s.2.2) h
theorem darningref01_Word_l1_inr {b : (List UInt8)} {wv : Int} {place : Int} {i : Int} {oo_ : Int} (h : darningref01_Word_b1 b wv place i = some (.inr oo_)) : darningref01_Word_l1 b wv place i = some oo_ := whileO_inr (body := fun s : (Int × Int × Int) => darningref01_Word_b1 b s.1 s.2.1 s.2.2) h
def darningref01_Sign32 (wv : Int) : Option Int :=
 if (decide ((IntKind.i64.wrap (Int.tmod wv 4294967296)) ≥ 2147483648)) then (
  some (IntKind.i64.wrap ((IntKind.i64.wrap (Int.tmod wv 4294967296)) - 4294967296))
 ) else (
  some (IntKind.i64.wrap (Int.tmod wv 4294967296))
 )
def darningref01_Wide (n : Int) : Option Int :=
 if (decide (n ≥ 0)) then (
  some (IntKind.u64.wrap n)
 ) else (
  some (IntKind.u64.wrap (18446744073709551615 - (IntKind.u64.wrap (IntKind.i64.wrap (0 - (IntKind.i64.wrap (n + 1)))))))
 )
end
end Go.Proofs.Ytceeeodooljgpaa
namespace Go.Proofs.Ytceeeodooljgpaa
open Go
set_option linter.unusedVariables false
noncomputable section
def varint_Read_b1 (v : (List UInt8)) (wv : Int) (v2 : Int) : Option ((Int × Int) ⊕ (Unit ⊕ (Int × Int × Int))) :=
 if (decide (v2 < (v.length : Int))) then (
  idx v v2 >>= fun x =>
  if ((v2 == 9) && (decide ((x.toNat : Int) > 1))) then (
   some (.inr (.inr (0, 0, 4)))
  ) else (
   shlO .u64 (IntKind.u64.wrap (andI .u8 (x.toNat : Int) 127)) (IntKind.i64.wrap (7 * v2)) >>= fun v4 =>
   if (decide ((x.toNat : Int) < 128)) then (
    some (.inr (.inr ((orI .u64 wv v4), (IntKind.i64.wrap (v2 + 1)), 0)))
   ) else (
    some (.inl ((orI .u64 wv v4), (IntKind.i64.wrap (v2 + 1))))
   )
  )
 ) else (
  some (.inr (.inl ()))
 )
def varint_Read_l1 (v : (List UInt8)) (wv : Int) (v2 : Int) : Option (Unit ⊕ (Int × Int × Int)) := whileO (fun s : (Int × Int) => varint_Read_b1 v s.1 s.2) (wv, v2)
def varint_Read (b : (List UInt8)) : Option (Int × Int × Int) :=
 cut b 0 (if (10 : Int) < (b.length : Int) then 10 else (b.length : Int)) >>= fun v =>
 varint_Read_l1 v 0 0 >>= fun q =>
 match q with
 | .inl u => (
  some (0, 0, 3)
 )
 | .inr u2 => (
  some (u2.1, u2.2.1, u2.2.2)
 )
theorem varint_Read_l1_inl {v : (List UInt8)} {wv : Int} {v2 : Int} {wv' : Int} {v2' : Int} (h : varint_Read_b1 v wv v2 = some (.inl (wv', v2'))) : varint_Read_l1 v wv v2 = varint_Read_l1 v wv' v2' := whileO_inl (body := fun s : (Int × Int) => varint_Read_b1 v s.1 s.2) h
theorem varint_Read_l1_inr {v : (List UInt8)} {wv : Int} {v2 : Int} {oo_ : (Unit ⊕ (Int × Int × Int))} (h : varint_Read_b1 v wv v2 = some (.inr oo_)) : varint_Read_l1 v wv v2 = some oo_ := whileO_inr (body := fun s : (Int × Int) => varint_Read_b1 v s.1 s.2) h
def varint_Put_b1  (wv2 : Int) (l : (List UInt8)) : Option ((Int × (List UInt8)) ⊕ (Int × (List UInt8))) :=
 if (decide (wv2 ≥ 128)) then (
  byteO (orI .u8 (IntKind.u8.wrap wv2) 128) >>= fun y =>
  app 1 l ([y] : List UInt8) >>= fun v3 =>
  some (.inl ((shrI .u64 wv2 7), v3))
 ) else (
  some (.inr (wv2, l))
 )
def varint_Put_l1  (wv2 : Int) (l : (List UInt8)) : Option (Int × (List UInt8)) := whileO (fun s : (Int × (List UInt8)) => varint_Put_b1 s.1 s.2) (wv2, l)
def varint_Put (b : (List UInt8)) (wv : Int) : Option (List UInt8) :=
 bits_Len wv >>= fun rv =>
 mkO 1 (0 : UInt8) 0 (IntKind.i64.wrap ((b.length : Int) + rv)) >>= fun v =>
 app 1 v b >>= fun v2 =>
 varint_Put_l1 wv v2 >>= fun q =>
 byteO (IntKind.u8.wrap q.1) >>= fun y2 =>
 app 1 q.2 ([y2] : List UInt8) >>= fun v4 =>
 some v4
theorem varint_Put_l1_inl  {wv2 : Int} {l : (List UInt8)} {wv2' : Int} {l' : (List UInt8)} (h : varint_Put_b1 wv2 l = some (.inl (wv2', l'))) : varint_Put_l1 wv2 l = varint_Put_l1 wv2' l' := whileO_inl (body := fun s : (Int × (List UInt8)) => varint_Put_b1 s.1 s.2) h
theorem varint_Put_l1_inr  {wv2 : Int} {l : (List UInt8)} {oo_ : (Int × (List UInt8))} (h : varint_Put_b1 wv2 l = some (.inr oo_)) : varint_Put_l1 wv2 l = some oo_ := whileO_inr (body := fun s : (Int × (List UInt8)) => varint_Put_b1 s.1 s.2) h
def darningref02_Put_f (rec_darningref02_Put : Int → Option (List UInt8)) (wv : Int) : Option (List UInt8) :=
 if (decide (wv < 128)) then (
  byteO (IntKind.u8.wrap wv) >>= fun y =>
  some ([y] : List UInt8)
 ) else (
  byteO (IntKind.u8.wrap (IntKind.u64.wrap (128 + (Int.tmod wv 128)))) >>= fun y2 =>
  rec_darningref02_Put (IntKind.u64.wrap (Int.tdiv wv 128)) >>= fun rv =>
  app 1 ([y2] : List UInt8) rv >>= fun v =>
  some v
 )
def darningref02_Put : Nat → Int → Option (List UInt8)
  | 0, _ => none
  | fuel + 1, wv => darningref02_Put_f (darningref02_Put fuel) wv
def darningref02_Read_b1 (atv : Int) (b : (List UInt8)) (n : Int) : Option (Int ⊕ Int) :=
 (
  if (decide ((IntKind.i64.wrap (atv + n)) < (b.length : Int))) then (
   if (decide (n < 10)) then (
    idx b (IntKind.i64.wrap (atv + n)) >>= fun x =>
    some (decide ((x.toNat : Int) ≥ 128))
   ) else (
    some false
   )
  ) else (
   some false
  )
 ) >>= fun g =>
 if g then (
  some (.inl (IntKind.i64.wrap (n + 1)))
 ) else (
  some (.inr n)
 )
def darningref02_Read_l1 (atv : Int) (b : (List UInt8)) (n : Int) : Option Int := whileO (fun s : Int => darningref02_Read_b1 atv b s) n
def darningref02_Read_b2 (atv : Int) (b : (List UInt8)) (wv : Int) (i : Int) : Option ((Int × Int) ⊕ Int) :=
 if (decide (i ≥ 0)) then (
  idx b (IntKind.i64.wrap (atv + i)) >>= fun x3 =>
  some (.inl ((IntKind.u64.wrap ((IntKind.u64.wrap (128 * wv)) + (IntKind.u64.wrap (Int.tmod (x3.toNat : Int) 128)))), (IntKind.i64.wrap (i - 1))))
 ) else (
  some (.inr wv)
 )
def darningref02_Read_l2 (atv : Int) (b : (List UInt8)) (wv : Int) (i : Int) : Option Int := whileO (fun s : (Int × Int) => darningref02_Read_b2 atv b s.1 s.2) (wv, i)
def darningref02_Read (b : (List UInt8)) (atv : Int) : Option (Int × Int × Int) :=
 darningref02_Read_l1 atv b 0 >>= fun q =>
 if (q == 10) then (
  some (0, 0, 4)
 ) else (
  if ((IntKind.i64.wrap (atv + q)) == (b.length : Int)) then (
   some (0, 0, 3)
  ) else (
   (
    if (q == 9) then (
     idx b (IntKind.i64.wrap (atv + q)) >>= fun x2 =>
     some (decide ((x2.toNat : Int) > 1))
    ) else (
     some false
    )
   ) >>= fun g2 =>
   if g2 then (
    some (0, 0, 4)
   ) else (
    darningref02_Read_l2 atv b 0 q >>= fun q2 =>
    some (q2, (IntKind.i64.wrap (q + 1)), 0)
   )
  )
 )
theorem darningref02_Read_l1_inl {atv : Int} {b : (List UInt8)} {n : Int} {n' : Int} (h : darningref02_Read_b1 atv b n = some (.inl n')) : darningref02_Read_l1 atv b n = darningref02_Read_l1 atv b n' := whileO_inl (body := fun s : Int => darningref02_Read_b1 atv b s) h
theorem darningref02_Read_l1_inr {atv : Int} {b : (List UInt8)} {n : Int} {oo_ : Int} (h : darningref02_Read_b1 atv b n = some (.inr oo_)) : darningref02_Read_l1 atv b n = some oo_ := whileO_inr (body := fun s : Int => darningref02_Read_b1 atv b s) h
theorem darningref02_Read_l2_inl {atv : Int} {b : (List UInt8)} {wv : Int} {i : Int} {wv' : Int} {i' : Int} (h : darningref02_Read_b2 atv b wv i = some (.inl (wv', i'))) : darningref02_Read_l2 atv b wv i = darningref02_Read_l2 atv b wv' i' := whileO_inl (body := fun s : (Int × Int) => darningref02_Read_b2 atv b s.1 s.2) h
theorem darningref02_Read_l2_inr {atv : Int} {b : (List UInt8)} {wv : Int} {i : Int} {oo_ : Int} (h : darningref02_Read_b2 atv b wv i = some (.inr oo_)) : darningref02_Read_l2 atv b wv i = some oo_ := whileO_inr (body := fun s : (Int × Int) => darningref02_Read_b2 atv b s.1 s.2) h
end
end Go.Proofs.Ytceeeodooljgpaa
namespace Go.Proofs.Ytceeeodooljgpaa
open Go
set_option linter.unusedVariables false
noncomputable section
def darningref05_Fits (wire : Int) (value : (List UInt8)) : Option Bool :=
 if (wire == 0) then (
  darningref02_Read value 0 >>= fun rv =>
  some ((rv.2.2 == 0) && (rv.2.1 == (value.length : Int)))
 ) else (
  some ((wire == 2) || (if (wire == 1) then (((value.length : Int) == 8) || ((wire == 5) && ((value.length : Int) == 4))) else ((wire == 5) && ((value.length : Int) == 4))))
 )
end
end Go.Proofs.Ytceeeodooljgpaa
namespace Go.Proofs.Ytceeeodooljgpaa
open Go
set_option linter.unusedVariables false
noncomputable section
def kind_truth (wv : Int) : Option Int :=
 some (if (1 : Int) < wv then 1 else wv)
def kind_Canon (k : Int) (wv : Int) : Option (Int × Int) :=
 ((
  if (k == 1) then (
   some (k == 1)
  ) else (
   some (k == 8)
  )
  : Option Bool)) >>= fun p =>
 if p then (
  bits_Sign32 wv >>= fun rv =>
  bits_Wide32 rv >>= fun rv2 =>
  some (rv2, 0)
 ) else (
  ((
   if (k == 3) then (
    some (k == 3)
   ) else (
    if (k == 5) then (
     some (k == 5)
    ) else (
     if (k == 9) then (
      some (k == 9)
     ) else (
      if (k == 10) then (
       some (k == 10)
      ) else (
       some (k == 11)
      )
     )
    )
   )
   : Option Bool)) >>= fun p2 =>
  if p2 then (
   bits_Low32 wv >>= fun rv3 =>
   some ((IntKind.u64.wrap rv3), 0)
  ) else (
   if (k == 7) then (
    kind_truth wv >>= fun rv4 =>
    some (rv4, 0)
   ) else (
    ((
     if (k == 2) then (
      some (k == 2)
     ) else (
      if (k == 4) then (
       some (k == 4)
      ) else (
       if (k == 6) then (
        some (k == 6)
       ) else (
        if (k == 12) then (
         some (k == 12)
        ) else (
         if (k == 13) then (
          some (k == 13)
         ) else (
          some (k == 14)
         )
        )
       )
      )
     )
     : Option Bool)) >>= fun p3 =>
    if p3 then (
     some (wv, 0)
    ) else (
     some (0, 2)
    )
   )
  )
 )
def darningref06_Wire (k : Int) : Option Int :=
 if (decide (k ≥ 15)) then (
  some 2
 ) else (
  if (decide (k ≥ 12)) then (
   some 1
  ) else (
   if (decide (k ≥ 9)) then (
    some 5
   ) else (
    some 0
   )
  )
 )
def darningref06_Number (k : Int) : Option Bool :=
 some ((decide (k ≥ 1)) && (decide (k ≤ 14)))
def darningref06_Canon (k : Int) (wv : Int) : Option Int :=
 ((
  if (k == 1) then (
   some (k == 1)
  ) else (
   some (k == 8)
  )
  : Option Bool)) >>= fun p =>
 if p then (
  darningref01_Sign32 wv >>= fun rv =>
  darningref01_Wide rv >>= fun rv2 =>
  some rv2
 ) else (
  ((
   if (k == 3) then (
    some (k == 3)
   ) else (
    if (k == 5) then (
     some (k == 5)
    ) else (
     if (k == 9) then (
      some (k == 9)
     ) else (
      if (k == 10) then (
       some (k == 10)
      ) else (
       some (k == 11)
      )
     )
    )
   )
   : Option Bool)) >>= fun p2 =>
  if p2 then (
   some (Int.tmod wv 4294967296)
  ) else (
   if (k == 7) then (
    if (decide (wv > 0)) then (
     some 1
    ) else (
     some 0
    )
   ) else (
    some wv
   )
  )
 )
end
end Go.Proofs.Ytceeeodooljgpaa
namespace Go.Proofs.Ytceeeodooljgpaa
open Go
set_option linter.unusedVariables false
noncomputable section
def scalar_width (k : Int) : Option (Int × Int) :=
 ((
  if (k == 1) then (
   some (k == 1)
  ) else (
   if (k == 2) then (
    some (k == 2)
   ) else (
    if (k == 3) then (
     some (k == 3)
    ) else (
     if (k == 4) then (
      some (k == 4)
     ) else (
      if (k == 5) then (
       some (k == 5)
      ) else (
       if (k == 6) then (
        some (k == 6)
       ) else (
        if (k == 7) then (
         some (k == 7)
        ) else (
         some (k == 8)
        )
       )
      )
     )
    )
   )
  )
  : Option Bool)) >>= fun p =>
 if p then (
  some (0, 0)
 ) else (
  ((
   if (k == 9) then (
    some (k == 9)
   ) else (
    if (k == 10) then (
     some (k == 10)
    ) else (
     some (k == 11)
    )
   )
   : Option Bool)) >>= fun p2 =>
  if p2 then (
   some (4, 0)
  ) else (
   if (k == 12) then (
    if (k == 12) then (
     some (8, 0)
    ) else (
     some (0, 2)
    )
   ) else (
    if (k == 13) then (
     if (k == 13) then (
      some (8, 0)
     ) else (
      some (0, 2)
     )
    ) else (
     if (k == 14) then (
      some (8, 0)
     ) else (
      some (0, 2)
     )
    )
   )
  )
 )
def scalar_whole (b : (List UInt8)) : Option (Int × Int) :=
 varint_Read b >>= fun rv =>
 if ((rv.2.2 != 0) || (rv.2.1 != (b.length : Int))) then (
  some (0, 12)
 ) else (
  some (rv.1, 0)
 )
def scalar_plain (k : Int) (b : (List UInt8)) : Option (Int × Int) :=
 scalar_width k >>= fun rv =>
 if (rv.2 != 0) then (
  some (0, rv.2)
 ) else (
  if (rv.1 == 0) then (
   scalar_whole b >>= fun rv2 =>
   some (rv2.1, rv2.2)
  ) else (
   if (rv.1 != (b.length : Int)) then (
    some (0, 12)
   ) else (
    bits_Word b >>= fun rv3 =>
    some (rv3, 0)
   )
  )
 )
def scalar_Read (k : Int) (b : (List UInt8)) : Option (Int × Int) :=
 scalar_plain k b >>= fun rv =>
 if (rv.2 != 0) then (
  some (0, rv.2)
 ) else (
  kind_Canon k rv.1 >>= fun rv2 =>
  some (rv2.1, rv2.2)
 )
def scalar_Put (k : Int) (wv : Int) : Option ((List UInt8) × Int) :=
 scalar_width k >>= fun rv =>
 if (rv.2 != 0) then (
  some ([], rv.2)
 ) else (
  kind_Canon k wv >>= fun rv2 =>
  if (rv.1 == 0) then (
   varint_Put ([] : (List UInt8)) rv2.1 >>= fun rv3 =>
   some (rv3, rv2.2)
  ) else (
   bits_Little rv2.1 rv.1 >>= fun rv4 =>
   some (rv4, rv2.2)
  )
 )
def darninglaw08_alive  : Option Bool :=
 scalar_Read 1 ([(255 : UInt8), (255 : UInt8), (255 : UInt8), (255 : UInt8), (15 : UInt8)] : List UInt8) >>= fun rv =>
 scalar_Put 1 rv.1 >>= fun rv2 =>
 some (((IntKind.i64.wrap ((IntKind.i64.wrap rv.2) + (IntKind.i64.wrap rv2.2))) == 0) && ((rv.1 == 18446744073709551615) && ((rv2.1.length : Int) == 10)))
def scalar_Size (k : Int) (wv : Int) : Option Int :=
 scalar_width k >>= fun rv =>
 if ((rv.2 != 0) || (rv.1 != 0)) then (
  some rv.1
 ) else (
  kind_Canon k wv >>= fun rv2 =>
  bits_Len rv2.1 >>= fun rv3 =>
  some rv3
 )
def darningref08_Put (fuel : Nat) (k : Int) (wv : Int) : Option (List UInt8) :=
 darningref06_Canon k wv >>= fun rv =>
 if (decide (k ≥ 12)) then (
  darningref01_Little rv 8 >>= fun rv2 =>
  some rv2
 ) else (
  if (decide (k ≥ 9)) then (
   darningref01_Little rv 4 >>= fun rv3 =>
   some rv3
  ) else (
   darningref02_Put fuel rv >>= fun rv4 =>
   some rv4
  )
 )
def darninglaw08_ScalarPuts (fuel : Nat) (k : Int) (wv : Int) : Option Bool :=
 darninglaw08_alive >>= fun rv =>
 if (!rv) then (
  some false
 ) else (
  scalar_Put k wv >>= fun rv2 =>
  darningref06_Number k >>= fun rv3 =>
  if (!rv3) then (
   (
    if ((IntKind.i64.wrap rv2.2) == 2) then (
     if ((rv2.1.length : Int) == 0) then (
      scalar_Size k wv >>= fun rv4 =>
      some (rv4 == 0)
     ) else (
      some false
     )
    ) else (
     some false
    )
   ) >>= fun g =>
   some g
  ) else (
   darningref08_Put fuel k wv >>= fun rv5 =>
   (
    if ((IntKind.i64.wrap rv2.2) == 0) then (
     darningref01_Same rv2.1 rv5 >>= fun rv6 =>
     if rv6 then (
      scalar_Size k wv >>= fun rv7 =>
      some (rv7 == (rv5.length : Int))
     ) else (
      some false
     )
    ) else (
     some false
    )
   ) >>= fun g2 =>
   some g2
  )
 )
def darningref08_Read (k : Int) (b : (List UInt8)) : Option (Int × Int) :=
 darningref06_Number k >>= fun rv =>
 if (!rv) then (
  some (0, 2)
 ) else (
  darningref06_Wire k >>= fun rv2 =>
  darningref05_Fits rv2 b >>= fun rv3 =>
  if (!rv3) then (
   some (0, 12)
  ) else (
   darningref01_Word b >>= fun rv4 =>
   darningref06_Wire k >>= fun rv5 =>
   if (rv5 == 0) then (
    darningref02_Read b 0 >>= fun rv6 =>
    darningref06_Canon k rv6.1 >>= fun rv7 =>
    some (rv7, 0)
   ) else (
    darningref06_Canon k rv4 >>= fun rv8 =>
    some (rv8, 0)
   )
  )
 )
def scalar_Canonical (k : Int) (b : (List UInt8)) : Option Bool :=
 scalar_plain k b >>= fun rv =>
 if (rv.2 != 0) then (
  some false
 ) else (
  kind_Canon k rv.1 >>= fun rv2 =>
  (
   if (rv.1 == rv2.1) then (
    scalar_Size k rv.1 >>= fun rv3 =>
    some ((b.length : Int) == rv3)
   ) else (
    some false
   )
  ) >>= fun g =>
  some g
 )
def darninglaw08_ScalarReads (fuel : Nat) (k : Int) (b : (List UInt8)) : Option Bool :=
 darninglaw08_alive >>= fun rv =>
 if (!rv) then (
  some false
 ) else (
  if (decide ((b.length : Int) > 1000)) then (
   some true
  ) else (
   scalar_Read k b >>= fun rv2 =>
   darningref08_Read k b >>= fun rv3 =>
   (
    if (rv3.2 == 0) then (
     darningref08_Put fuel k rv3.1 >>= fun rv4 =>
     darningref01_Same rv4 b >>= fun rv5 =>
     some rv5
    ) else (
     some false
    )
   ) >>= fun g =>
   (
    if (rv2.1 == rv3.1) then (
     if ((IntKind.i64.wrap rv2.2) == rv3.2) then (
      scalar_Canonical k b >>= fun rv6 =>
      some (rv6 == g)
     ) else (
      some false
     )
    ) else (
     some false
    )
   ) >>= fun g2 =>
   some g2
  )
 )
def scalar_Same (k : Int) (av : (List UInt8)) (b : (List UInt8)) : Option Bool :=
 scalar_Read k av >>= fun rv =>
 if (rv.2 != 0) then (
  some false
 ) else (
  scalar_Read k b >>= fun rv2 =>
  some ((rv2.2 == 0) && (rv.1 == rv2.1))
 )
def darninglaw08_ScalarSame (k : Int) (v : Int) (wv : Int) (av : (List UInt8)) (b : (List UInt8)) : Option Bool :=
 darninglaw08_alive >>= fun rv =>
 if (!rv) then (
  some false
 ) else (
  if (decide ((IntKind.i64.wrap ((av.length : Int) + (b.length : Int))) > 1000)) then (
   some true
  ) else (
   scalar_Read k av >>= fun rv2 =>
   scalar_Read k b >>= fun rv3 =>
   scalar_Same k av b >>= fun rv4 =>
   if (if ((IntKind.i64.wrap rv2.2) == 0) then (if ((IntKind.i64.wrap rv3.2) == 0) then (!(rv4 == (rv2.1 == rv3.1))) else (!(rv4 == false))) else (!(rv4 == false))) then (
    some false
   ) else (
    scalar_Put k v >>= fun rv5 =>
    scalar_Put k wv >>= fun rv6 =>
    if ((IntKind.i64.wrap rv5.2) != 0) then (
     some true
    ) else (
     scalar_Read k rv5.1 >>= fun rv7 =>
     scalar_Read k rv6.1 >>= fun rv8 =>
     (
      if ((IntKind.i64.wrap rv7.2) == 0) then (
       if ((IntKind.i64.wrap rv8.2) == 0) then (
        darningref01_Same rv5.1 rv6.1 >>= fun rv9 =>
        if (rv9 == (rv7.1 == rv8.1)) then (
         scalar_Canonical k rv5.1 >>= fun rv10 =>
         if rv10 then (
          scalar_Same k rv5.1 rv5.1 >>= fun rv11 =>
          if rv11 then (
           darningref06_Canon k v >>= fun rv12 =>
           some (rv7.1 == rv12)
          ) else (
           some false
          )
         ) else (
          some false
         )
        ) else (
         some false
        )
       ) else (
        some false
       )
      ) else (
       some false
      )
     ) >>= fun g =>
     some g
    )
   )
  )
 )
end
end Go.Proofs.Ytceeeodooljgpaa
