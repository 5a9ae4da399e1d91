/-
  What the Go functions of layer 1 do, as plain functions. No condition.
-/
import Derived.Test.YtnhnanbgphdaeaaS00
namespace Go.Proofs.Ytnhnanbgphdaeaa
open Go
set_option linter.unusedVariables false
noncomputable section
def bits_Bit (wv : Int) (i : Int) : Option Bool :=
 (
  if (decide (i ≥ 0)) then (
   if (decide (i < 64)) then (
    shrO .u64 wv i >>= fun v =>
    some ((andI .u64 v 1) == 1)
   ) else (
    some false
   )
  ) else (
   some false
  )
 ) >>= fun g =>
 some g
def bits_Len_b1  (wv2 : Int) (n : Int) : Option ((Int × Int) ⊕ Int) :=
 if (wv2 != 0) then (
  some (.inl ((shrI .u64 wv2 7), (IntKind.i64.wrap (n + 1))))
 ) else (
  some (.inr n)
 )
def bits_Len_l1  (wv2 : Int) (n : Int) : Option Int := whileO (fun s : (Int × Int) => bits_Len_b1 s.1 s.2) (wv2, n)
def bits_Len (wv : Int) : Option Int :=
 bits_Len_l1 (shrI .u64 wv 7) 1 >>= fun q =>
 some q
theorem bits_Len_l1_inl  {wv2 : Int} {n : Int} {wv2' : Int} {n' : Int} (h : bits_Len_b1 wv2 n = some (.inl (wv2', n'))) : bits_Len_l1 wv2 n = bits_Len_l1 wv2' n' := whileO_inl (body := fun s : (Int × Int) => bits_Len_b1 s.1 s.2) h
theorem bits_Len_l1_inr  {wv2 : Int} {n : Int} {oo_ : Int} (h : bits_Len_b1 wv2 n = some (.inr oo_)) : bits_Len_l1 wv2 n = some oo_ := whileO_inr (body := fun s : (Int × Int) => bits_Len_b1 s.1 s.2) h
def bits_Little_b1 (v : (List UInt8)) (wv : Int) (b : (List UInt8)) (v2 : Int) : Option (((List UInt8) × Int) ⊕ (List UInt8)) :=
 if (decide (v2 < (v.length : Int))) then (
  shrO .u64 wv (IntKind.i64.wrap (8 * v2)) >>= fun v3 =>
  idx b v2 >>= fun x =>
  byteO (IntKind.u8.wrap v3) >>= fun y2 =>
  some (.inl ((b.set (Int.toNat v2) y2), (IntKind.i64.wrap (v2 + 1))))
 ) else (
  some (.inr b)
 )
def bits_Little_l1 (v : (List UInt8)) (wv : Int) (b : (List UInt8)) (v2 : Int) : Option (List UInt8) := whileO (fun s : ((List UInt8) × Int) => bits_Little_b1 v wv s.1 s.2) (b, v2)
def bits_Little (wv : Int) (n : Int) : Option (List UInt8) :=
 mkO 1 (0 : UInt8) (if (8 : Int) < (if n < 0 then 0 else n) then 8 else (if n < 0 then 0 else n)) (if (8 : Int) < (if n < 0 then 0 else n) then 8 else (if n < 0 then 0 else n)) >>= fun v =>
 bits_Little_l1 v wv v 0 >>= fun q =>
 some q
theorem bits_Little_l1_inl {v : (List UInt8)} {wv : Int} {b : (List UInt8)} {v2 : Int} {b' : (List UInt8)} {v2' : Int} (h : bits_Little_b1 v wv b v2 = some (.inl (b', v2'))) : bits_Little_l1 v wv b v2 = bits_Little_l1 v wv b' v2' := whileO_inl (body := fun s : ((List UInt8) × Int) => bits_Little_b1 v wv s.1 s.2) h
theorem bits_Little_l1_inr {v : (List UInt8)} {wv : Int} {b : (List UInt8)} {v2 : Int} {oo_ : (List UInt8)} (h : bits_Little_b1 v wv b v2 = some (.inr oo_)) : bits_Little_l1 v wv b v2 = some oo_ := whileO_inr (body := fun s : ((List UInt8) × Int) => bits_Little_b1 v wv s.1 s.2) h
def bits_Low32 (wv : Int) : Option Int :=
 some (IntKind.u32.wrap wv)
def bits_Sign32 (wv : Int) : Option Int :=
 bits_Low32 wv >>= fun rv =>
 some (IntKind.i32.wrap rv)
def bits_Wide32 (n : Int) : Option Int :=
 some (IntKind.u64.wrap (IntKind.i64.wrap n))
def bits_Word_b1 (v : (List UInt8)) (wv : Int) (v2 : Int) : Option ((Int × Int) ⊕ Int) :=
 if (decide (v2 < (v.length : Int))) then (
  idx v v2 >>= fun x =>
  shlO .u64 (IntKind.u64.wrap (x.toNat : Int)) (IntKind.i64.wrap (8 * v2)) >>= fun v3 =>
  some (.inl ((orI .u64 wv v3), (IntKind.i64.wrap (v2 + 1))))
 ) else (
  some (.inr wv)
 )
def bits_Word_l1 (v : (List UInt8)) (wv : Int) (v2 : Int) : Option Int := whileO (fun s : (Int × Int) => bits_Word_b1 v s.1 s.2) (wv, v2)
def bits_Word (b : (List UInt8)) : Option Int :=
 cut b 0 (if (8 : Int) < (b.length : Int) then 8 else (b.length : Int)) >>= fun v =>
 bits_Word_l1 v 0 0 >>= fun q =>
 some q
theorem bits_Word_l1_inl {v : (List UInt8)} {wv : Int} {v2 : Int} {wv' : Int} {v2' : Int} (h : bits_Word_b1 v wv v2 = some (.inl (wv', v2'))) : bits_Word_l1 v wv v2 = bits_Word_l1 v wv' v2' := whileO_inl (body := fun s : (Int × Int) => bits_Word_b1 v s.1 s.2) h
theorem bits_Word_l1_inr {v : (List UInt8)} {wv : Int} {v2 : Int} {oo_ : Int} (h : bits_Word_b1 v wv v2 = some (.inr oo_)) : bits_Word_l1 v wv v2 = some oo_ := whileO_inr (body := fun s : (Int × Int) => bits_Word_b1 v s.1 s.2) h
def bits_Zag (wv : Int) : Option Int :=
 some (xorI .i64 (IntKind.i64.wrap (shrI .u64 wv 1)) (shrI .i64 (IntKind.i64.wrap (shlI .u64 wv 63)) 63))
def bits_Zag32 (wv : Int) : Option Int :=
 bits_Low32 wv >>= fun rv =>
 some (xorI .i32 (IntKind.i32.wrap (shrI .u32 rv 1)) (shrI .i32 (IntKind.i32.wrap (shlI .u32 rv 31)) 31))
def bits_Zig (n : Int) : Option Int :=
 some (xorI .u64 (shlI .u64 (IntKind.u64.wrap n) 1) (IntKind.u64.wrap (shrI .i64 n 63)))
def darninglaw01_alive  : Option Bool :=
 (
  bits_Zig (-1) >>= fun rv =>
  if (rv == 1) then (
   bits_Zig 1 >>= fun rv2 =>
   if (rv2 == 2) then (
    bits_Len 127 >>= fun rv3 =>
    if (rv3 == 1) then (
     bits_Len 128 >>= fun rv4 =>
     if (rv4 == 2) then (
      bits_Len 0 >>= fun rv5 =>
      some (rv5 == 1)
     ) else (
      some false
     )
    ) else (
     some false
    )
   ) else (
    some false
   )
  ) else (
   some false
  )
 ) >>= fun g =>
 some g
def darninglaw01_BitsBack (wv : Int) (n : Int) (m : Int) : Option Bool :=
 darninglaw01_alive >>= fun rv =>
 if (!rv) then (
  some false
 ) else (
  (
   bits_Zig n >>= fun rv2 =>
   bits_Zag rv2 >>= fun rv3 =>
   if (rv3 == n) then (
    bits_Zag wv >>= fun rv4 =>
    bits_Zig rv4 >>= fun rv5 =>
    if (rv5 == wv) then (
     bits_Wide32 m >>= fun rv6 =>
     bits_Sign32 rv6 >>= fun rv7 =>
     if (rv7 == m) then (
      bits_Little wv 8 >>= fun rv8 =>
      bits_Word rv8 >>= fun rv9 =>
      if (rv9 == wv) then (
       bits_Little wv 4 >>= fun rv10 =>
       bits_Word rv10 >>= fun rv11 =>
       bits_Low32 wv >>= fun rv12 =>
       if (rv11 == (IntKind.u64.wrap rv12)) then (
        bits_Zig (IntKind.i64.wrap m) >>= fun rv13 =>
        bits_Zag32 rv13 >>= fun rv14 =>
        if (rv14 == m) then (
         bits_Bit wv 63 >>= fun rv15 =>
         some (rv15 == (decide ((IntKind.i64.wrap wv) < 0)))
        ) else (
         some false
        )
       ) else (
        some false
       )
      ) else (
       some false
      )
     ) else (
      some false
     )
    ) else (
     some false
    )
   ) else (
    some false
   )
  ) >>= fun g =>
  some g
 )
def darningref01_Len_b1  (wv2 : Int) (n : Int) : Option ((Int × Int) ⊕ Int) :=
 if (decide (wv2 ≥ 128)) then (
  some (.inl ((IntKind.u64.wrap (Int.tdiv wv2 128)), (IntKind.i64.wrap (n + 1))))
 ) else (
  some (.inr n)
 )
def darningref01_Len_l1  (wv2 : Int) (n : Int) : Option Int := whileO (fun s : (Int × Int) => darningref01_Len_b1 s.1 s.2) (wv2, n)
def darningref01_Len (wv : Int) : Option Int :=
 darningref01_Len_l1 wv 1 >>= fun q =>
 some q
theorem darningref01_Len_l1_inl  {wv2 : Int} {n : Int} {wv2' : Int} {n' : Int} (h : darningref01_Len_b1 wv2 n = some (.inl (wv2', n'))) : darningref01_Len_l1 wv2 n = darningref01_Len_l1 wv2' n' := whileO_inl (body := fun s : (Int × Int) => darningref01_Len_b1 s.1 s.2) h
theorem darningref01_Len_l1_inr  {wv2 : Int} {n : Int} {oo_ : Int} (h : darningref01_Len_b1 wv2 n = some (.inr oo_)) : darningref01_Len_l1 wv2 n = some oo_ := whileO_inr (body := fun s : (Int × Int) => darningref01_Len_b1 s.1 s.2) h
def darningref01_Little_b1 (n : Int) (wv2 : Int) (out : (List UInt8)) (i : Int) : Option ((Int × (List UInt8) × Int) ⊕ (List UInt8)) :=
 if ((decide (i < n)) && (decide (i < 8))) then (
  byteO (IntKind.u8.wrap (Int.tmod wv2 256)) >>= fun y =>
  app 1 out ([y] : List UInt8) >>= fun v2 =>
  some (.inl ((IntKind.u64.wrap (Int.tdiv wv2 256)), v2, (IntKind.i64.wrap (i + 1))))
 ) else (
  some (.inr out)
 )
def darningref01_Little_l1 (n : Int) (wv2 : Int) (out : (List UInt8)) (i : Int) : Option (List UInt8) := whileO (fun s : (Int × (List UInt8) × Int) => darningref01_Little_b1 n s.1 s.2.1 s.2.2) (wv2, out, i)
def darningref01_Little (wv : Int) (n : Int) : Option (List UInt8) :=
 darningref01_Little_l1 n wv [] 0 >>= fun q =>
 some q
theorem darningref01_Little_l1_inl {n : Int} {wv2 : Int} {out : (List UInt8)} {i : Int} {wv2' : Int} {out' : (List UInt8)} {i' : Int} (h : darningref01_Little_b1 n wv2 out i = some (.inl (wv2', out', i'))) : darningref01_Little_l1 n wv2 out i = darningref01_Little_l1 n wv2' out' i' := whileO_inl (body := fun s : (Int × (List UInt8) × Int) => darningref01_Little_b1 n s.1 s.2.1 s.2.2) h
theorem darningref01_Little_l1_inr {n : Int} {wv2 : Int} {out : (List UInt8)} {i : Int} {oo_ : (List UInt8)} (h : darningref01_Little_b1 n wv2 out i = some (.inr oo_)) : darningref01_Little_l1 n wv2 out i = some oo_ := whileO_inr (body := fun s : (Int × (List UInt8) × Int) => darningref01_Little_b1 n s.1 s.2.1 s.2.2) h
def darningref01_Same (av : (List UInt8)) (b : (List UInt8)) : Option Bool :=
 some (av == b)
def darningref01_Word_b1 (b : (List UInt8)) (wv : Int) (place : Int) (i : Int) : Option ((Int × Int × Int) ⊕ Int) :=
 if ((decide (i < (b.length : Int))) && (decide (i < 8))) then (
  idx b i >>= fun x =>
  some (.inl ((IntKind.u64.wrap (wv + (IntKind.u64.wrap ((IntKind.u64.wrap (x.toNat : Int)) * place)))), (IntKind.u64.wrap (place * 256)), (IntKind.i64.wrap (i + 1))))
 ) else (
  some (.inr wv)
 )
def darningref01_Word_l1 (b : (List UInt8)) (wv : Int) (place : Int) (i : Int) : Option Int := whileO (fun s : (Int × Int × Int) => darningref01_Word_b1 b s.1 s.2.1 s.2.2) (wv, place, i)
def darningref01_Word (b : (List UInt8)) : Option Int :=
 darningref01_Word_l1 b 0 1 0 >>= fun q =>
 some q
theorem darningref01_Word_l1_inl {b : (List UInt8)} {wv : Int} {place : Int} {i : Int} {wv' : Int} {place' : Int} {i' : Int} (h : darningref01_Word_b1 b wv place i = some (.inl (wv', place', i'))) : darningref01_Word_l1 b wv place i = darningref01_Word_l1 b wv' place' i' := whileO_inl (body := fun s : (Int × Int × Int) => darningref01_Word_b1 b s.1 s.2.1 s.2.2) h
theorem darningref01_Word_l1_inr {b : (List UInt8)} {wv : Int} {place : Int} {i : Int} {oo_ : Int} (h : darningref01_Word_b1 b wv place i = some (.inr oo_)) : darningref01_Word_l1 b wv place i = some oo_ := whileO_inr (body := fun s : (Int × Int × Int) => darningref01_Word_b1 b s.1 s.2.1 s.2.2) h
def darningref01_Bit_b1  (wv2 : Int) (i2 : Int) : Option ((Int × Int) ⊕ Int) :=
 if (decide (i2 > 0)) then (
  some (.inl ((IntKind.u64.wrap (Int.tdiv wv2 2)), (IntKind.i64.wrap (i2 - 1))))
 ) else (
  some (.inr wv2)
 )
def darningref01_Bit_l1  (wv2 : Int) (i2 : Int) : Option Int := whileO (fun s : (Int × Int) => darningref01_Bit_b1 s.1 s.2) (wv2, i2)
def darningref01_Bit (wv : Int) (i : Int) : Option Bool :=
 if ((decide (i < 0)) || (decide (i > 63))) then (
  some false
 ) else (
  darningref01_Bit_l1 wv i >>= fun q =>
  some ((Int.tmod q 2) == 1)
 )
theorem darningref01_Bit_l1_inl  {wv2 : Int} {i2 : Int} {wv2' : Int} {i2' : Int} (h : darningref01_Bit_b1 wv2 i2 = some (.inl (wv2', i2'))) : darningref01_Bit_l1 wv2 i2 = darningref01_Bit_l1 wv2' i2' := whileO_inl (body := fun s : (Int × Int) => darningref01_Bit_b1 s.1 s.2) h
theorem darningref01_Bit_l1_inr  {wv2 : Int} {i2 : Int} {oo_ : Int} (h : darningref01_Bit_b1 wv2 i2 = some (.inr oo_)) : darningref01_Bit_l1 wv2 i2 = some oo_ := whileO_inr (body := fun s : (Int × Int) => darningref01_Bit_b1 s.1 s.2) h
def darninglaw01_BitsBytes (wv : Int) (n : Int) (b : (List UInt8)) : Option Bool :=
 darninglaw01_alive >>= fun rv =>
 if (!rv) then (
  some false
 ) else (
  if (decide ((b.length : Int) > 1000)) then (
   some true
  ) else (
   (
    bits_Len wv >>= fun rv2 =>
    darningref01_Len wv >>= fun rv3 =>
    if (rv2 == rv3) then (
     bits_Little wv n >>= fun rv4 =>
     darningref01_Little wv n >>= fun rv5 =>
     darningref01_Same rv4 rv5 >>= fun rv6 =>
     if rv6 then (
      bits_Word b >>= fun rv7 =>
      darningref01_Word b >>= fun rv8 =>
      if (rv7 == rv8) then (
       bits_Bit wv n >>= fun rv9 =>
       darningref01_Bit wv n >>= fun rv10 =>
       some (rv9 == rv10)
      ) else (
       some false
      )
     ) else (
      some false
     )
    ) else (
     some false
    )
   ) >>= fun g =>
   some g
  )
 )
def darningref01_Sign32 (wv : Int) : Option Int :=
 if (decide ((IntKind.i64.wrap (Int.tmod wv 4294967296)) ≥ 2147483648)) then (
  some (IntKind.i64.wrap ((IntKind.i64.wrap (Int.tmod wv 4294967296)) - 4294967296))
 ) else (
  some (IntKind.i64.wrap (Int.tmod wv 4294967296))
 )
def darningref01_Wide (n : Int) : Option Int :=
 if (decide (n ≥ 0)) then (
  some (IntKind.u64.wrap n)
 ) else (
  some (IntKind.u64.wrap (18446744073709551615 - (IntKind.u64.wrap (IntKind.i64.wrap (0 - (IntKind.i64.wrap (n + 1)))))))
 )
def darningref01_Zig (n : Int) : Option Int :=
 if (decide (n ≥ 0)) then (
  some (IntKind.u64.wrap (2 * (IntKind.u64.wrap n)))
 ) else (
  some (IntKind.u64.wrap ((IntKind.u64.wrap (2 * (IntKind.u64.wrap (IntKind.i64.wrap (0 - (IntKind.i64.wrap (n + 1))))))) + 1))
 )
def darningref01_Zag (wv : Int) : Option Int :=
 if ((Int.tmod wv 2) == 1) then (
  some (IntKind.i64.wrap ((IntKind.i64.wrap (0 - (IntKind.i64.wrap (IntKind.u64.wrap (Int.tdiv wv 2))))) - 1))
 ) else (
  some (IntKind.i64.wrap (IntKind.u64.wrap (Int.tdiv wv 2)))
 )
def darninglaw01_BitsTurns (wv : Int) (n : Int) (m : Int) : Option Bool :=
 darninglaw01_alive >>= fun rv =>
 if (!rv) then (
  some false
 ) else (
  (
   bits_Low32 wv >>= fun rv2 =>
   if ((IntKind.u64.wrap rv2) == (Int.tmod wv 4294967296)) then (
    bits_Sign32 wv >>= fun rv3 =>
    darningref01_Sign32 wv >>= fun rv4 =>
    if ((IntKind.i64.wrap rv3) == rv4) then (
     bits_Wide32 m >>= fun rv5 =>
     darningref01_Wide (IntKind.i64.wrap m) >>= fun rv6 =>
     if (rv5 == rv6) then (
      bits_Zig n >>= fun rv7 =>
      darningref01_Zig n >>= fun rv8 =>
      if (rv7 == rv8) then (
       bits_Zag wv >>= fun rv9 =>
       darningref01_Zag wv >>= fun rv10 =>
       if (rv9 == rv10) then (
        bits_Zag32 wv >>= fun rv11 =>
        darningref01_Zag (Int.tmod wv 4294967296) >>= fun rv12 =>
        some ((IntKind.i64.wrap rv11) == rv12)
       ) else (
        some false
       )
      ) else (
       some false
      )
     ) else (
      some false
     )
    ) else (
     some false
    )
   ) else (
    some false
   )
  ) >>= fun g =>
  some g
 )
end
end Go.Proofs.Ytnhnanbgphdaeaa
