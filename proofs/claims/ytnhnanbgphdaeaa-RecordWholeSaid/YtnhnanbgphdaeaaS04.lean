/-
  What the Go functions of layer 4 do, as plain functions. No condition.
-/
import Derived.Test.YtnhnanbgphdaeaaS03
namespace Go.Proofs.Ytnhnanbgphdaeaa
open Go
set_option linter.unusedVariables false
noncomputable section
def utf_open (c : Int) : Option (Int × Int) :=
 if ((shrI .u8 c 7) == 0) then (
  some (1, (IntKind.u32.wrap c))
 ) else (
  if ((shrI .u8 c 5) == 6) then (
   some (2, (IntKind.u32.wrap (andI .u8 c 31)))
  ) else (
   if ((shrI .u8 c 4) == 14) then (
    some (3, (IntKind.u32.wrap (andI .u8 c 15)))
   ) else (
    if ((shrI .u8 c 3) == 30) then (
     some (4, (IntKind.u32.wrap (andI .u8 c 7)))
    ) else (
     some (0, 0)
    )
   )
  )
 )
def utf_need (wv : Int) : Option Int :=
 if ((shrI .u32 wv 7) == 0) then (
  some 1
 ) else (
  if ((shrI .u32 wv 11) == 0) then (
   some 2
  ) else (
   if ((shrI .u32 wv 11) == 27) then (
    some 0
   ) else (
    if ((shrI .u32 wv 16) == 0) then (
     some 3
    ) else (
     if (decide (wv ≤ 1114111)) then (
      some 4
     ) else (
      some 0
     )
    )
   )
  )
 )
def utf_lead_b1 (v2 : (List UInt8)) (wv : Int) (v3 : Int) : Option ((Int × Int) ⊕ (Int ⊕ Unit)) :=
 if (decide (v3 < (v2.length : Int))) then (
  idx v2 v3 >>= fun x2 =>
  if ((shrI .u8 (x2.toNat : Int) 6) != 2) then (
   some (.inr (.inr ()))
  ) else (
   some (.inl ((orI .u32 (shlI .u32 wv 6) (IntKind.u32.wrap (andI .u8 (x2.toNat : Int) 63))), (IntKind.i64.wrap (v3 + 1))))
  )
 ) else (
  some (.inr (.inl wv))
 )
def utf_lead_l1 (v2 : (List UInt8)) (wv : Int) (v3 : Int) : Option (Int ⊕ Unit) := whileO (fun s : (Int × Int) => utf_lead_b1 v2 s.1 s.2) (wv, v3)
def utf_lead (b : (List UInt8)) : Option Int :=
 if ((b.length : Int) == 0) then (
  some 0
 ) else (
  idx b 0 >>= fun x =>
  utf_open (x.toNat : Int) >>= fun rv =>
  if ((rv.1 == 0) || (decide (rv.1 > (b.length : Int)))) then (
   some 0
  ) else (
   cut b 1 rv.1 >>= fun v2 =>
   utf_lead_l1 v2 rv.2 0 >>= fun q =>
   match q with
   | .inl u => (
    utf_need u >>= fun rv2 =>
    if (rv.1 != rv2) then (
     some 0
    ) else (
     some rv.1
    )
   )
   | .inr u2 => (
    some 0
   )
  )
 )
theorem utf_lead_l1_inl {v2 : (List UInt8)} {wv : Int} {v3 : Int} {wv' : Int} {v3' : Int} (h : utf_lead_b1 v2 wv v3 = some (.inl (wv', v3'))) : utf_lead_l1 v2 wv v3 = utf_lead_l1 v2 wv' v3' := whileO_inl (body := fun s : (Int × Int) => utf_lead_b1 v2 s.1 s.2) h
theorem utf_lead_l1_inr {v2 : (List UInt8)} {wv : Int} {v3 : Int} {oo_ : (Int ⊕ Unit)} (h : utf_lead_b1 v2 wv v3 = some (.inr oo_)) : utf_lead_l1 v2 wv v3 = some oo_ := whileO_inr (body := fun s : (Int × Int) => utf_lead_b1 v2 s.1 s.2) h
def utf_walk_b1 (b : (List UInt8)) (atv : Int) (points : Int) (size : Int) : Option ((Int × Int × Int) ⊕ (Int × Int)) :=
 if (decide (size > 0)) then (
  cut b (IntKind.i64.wrap (atv + size)) (b.length : Int) >>= fun v =>
  utf_lead v >>= fun rv2 =>
  some (.inl ((IntKind.i64.wrap (atv + size)), (IntKind.i64.wrap (points + 1)), rv2))
 ) else (
  some (.inr (atv, points))
 )
def utf_walk_l1 (b : (List UInt8)) (atv : Int) (points : Int) (size : Int) : Option (Int × Int) := whileO (fun s : (Int × Int × Int) => utf_walk_b1 b s.1 s.2.1 s.2.2) (atv, points, size)
def utf_walk (b : (List UInt8)) : Option (Int × Int) :=
 utf_lead b >>= fun rv =>
 utf_walk_l1 b 0 0 rv >>= fun q =>
 some (q.1, q.2)
theorem utf_walk_l1_inl {b : (List UInt8)} {atv : Int} {points : Int} {size : Int} {atv' : Int} {points' : Int} {size' : Int} (h : utf_walk_b1 b atv points size = some (.inl (atv', points', size'))) : utf_walk_l1 b atv points size = utf_walk_l1 b atv' points' size' := whileO_inl (body := fun s : (Int × Int × Int) => utf_walk_b1 b s.1 s.2.1 s.2.2) h
theorem utf_walk_l1_inr {b : (List UInt8)} {atv : Int} {points : Int} {size : Int} {oo_ : (Int × Int)} (h : utf_walk_b1 b atv points size = some (.inr oo_)) : utf_walk_l1 b atv points size = some oo_ := whileO_inr (body := fun s : (Int × Int × Int) => utf_walk_b1 b s.1 s.2.1 s.2.2) h
def utf_First (b : (List UInt8)) : Option Int :=
 utf_walk b >>= fun rv =>
 some rv.1
def utf_Right (b : (List UInt8)) : Option Bool :=
 utf_First b >>= fun rv =>
 some (rv == (b.length : Int))
def darninglaw04_alive  : Option Bool :=
 (
  utf_First ([(97 : UInt8), (195 : UInt8)] : List UInt8) >>= fun rv =>
  if (rv == 1) then (
   utf_First ([(97 : UInt8), (195 : UInt8), (169 : UInt8)] : List UInt8) >>= fun rv2 =>
   if (rv2 == 3) then (
    utf_Right ([(97 : UInt8)] : List UInt8) >>= fun rv3 =>
    some rv3
   ) else (
    some false
   )
  ) else (
   some false
  )
 ) >>= fun g =>
 some g
def darningref04_Put (rv : Int) : Option (List UInt8) :=
 if ((decide (rv < 0)) || ((decide (rv > 1114111)) || ((decide (rv ≥ 55296)) && (decide (rv ≤ 57343))))) then (
  some []
 ) else (
  if (decide (rv < 128)) then (
   byteO (IntKind.u8.wrap rv) >>= fun y =>
   some ([y] : List UInt8)
  ) else (
   if (decide (rv < 2048)) then (
    byteO (IntKind.u8.wrap (IntKind.i64.wrap (192 + (IntKind.i64.wrap (Int.tdiv rv 64))))) >>= fun y2 =>
    byteO (IntKind.u8.wrap (IntKind.i64.wrap (128 + (Int.tmod rv 64)))) >>= fun y3 =>
    some ([y2, y3] : List UInt8)
   ) else (
    if (decide (rv < 65536)) then (
     byteO (IntKind.u8.wrap (IntKind.i64.wrap (224 + (IntKind.i64.wrap (Int.tdiv rv 4096))))) >>= fun y4 =>
     byteO (IntKind.u8.wrap (IntKind.i64.wrap (128 + (Int.tmod (IntKind.i64.wrap (Int.tdiv rv 64)) 64)))) >>= fun y5 =>
     byteO (IntKind.u8.wrap (IntKind.i64.wrap (128 + (Int.tmod rv 64)))) >>= fun y6 =>
     some ([y4, y5, y6] : List UInt8)
    ) else (
     byteO (IntKind.u8.wrap (IntKind.i64.wrap (240 + (IntKind.i64.wrap (Int.tdiv rv 262144))))) >>= fun y7 =>
     byteO (IntKind.u8.wrap (IntKind.i64.wrap (128 + (Int.tmod (IntKind.i64.wrap (Int.tdiv rv 4096)) 64)))) >>= fun y8 =>
     byteO (IntKind.u8.wrap (IntKind.i64.wrap (128 + (Int.tmod (IntKind.i64.wrap (Int.tdiv rv 64)) 64)))) >>= fun y9 =>
     byteO (IntKind.u8.wrap (IntKind.i64.wrap (128 + (Int.tmod rv 64)))) >>= fun y10 =>
     some ([y7, y8, y9, y10] : List UInt8)
    )
   )
  )
 )
def darningref04_Next_b2 (atv : Int) (b : (List UInt8)) (n : Int) (rv2 : Int) (i : Int) : Option ((Int × Int) ⊕ Int) :=
 if (decide (i < n)) then (
  idx b (IntKind.i64.wrap (atv + i)) >>= fun x3 =>
  some (.inl ((IntKind.i64.wrap ((IntKind.i64.wrap (64 * rv2)) + (Int.tmod (IntKind.i64.wrap (x3.toNat : Int)) 64))), (IntKind.i64.wrap (i + 1))))
 ) else (
  some (.inr rv2)
 )
def darningref04_Next_l2 (atv : Int) (b : (List UInt8)) (n : Int) (rv2 : Int) (i : Int) : Option Int := whileO (fun s : (Int × Int) => darningref04_Next_b2 atv b n s.1 s.2) (rv2, i)
def darningref04_Next_b1 (atv : Int) (b : (List UInt8)) (n : Int) : Option (Int ⊕ (Unit ⊕ Int)) :=
 if ((decide (n ≤ 4)) && (decide ((IntKind.i64.wrap (atv + n)) ≤ (b.length : Int)))) then (
  idx b atv >>= fun x =>
  ((
   if (decide (n > 1)) then (
    idx ([0, 0, 32, 16, 8] : (List Int)) n >>= fun x2 =>
    remI (IntKind.i64.wrap (x.toNat : Int)) x2 >>= fun v3 =>
    some v3
   ) else (
    some (IntKind.i64.wrap (x.toNat : Int))
   )
   : Option Int)) >>= fun p =>
  darningref04_Next_l2 atv b n p 1 >>= fun q =>
  darningref04_Put q >>= fun rv4 =>
  cut b atv (IntKind.i64.wrap (atv + n)) >>= fun v4 =>
  if (rv4 == v4) then (
   some (.inr (.inr n))
  ) else (
   some (.inl (IntKind.i64.wrap (n + 1)))
  )
 ) else (
  some (.inr (.inl ()))
 )
def darningref04_Next_l1 (atv : Int) (b : (List UInt8)) (n : Int) : Option (Unit ⊕ Int) := whileO (fun s : Int => darningref04_Next_b1 atv b s) n
def darningref04_Next (b : (List UInt8)) (atv : Int) : Option Int :=
 darningref04_Next_l1 atv b 1 >>= fun q2 =>
 match q2 with
 | .inl u => (
  some 0
 )
 | .inr u2 => (
  some u2
 )
theorem darningref04_Next_l2_inl {atv : Int} {b : (List UInt8)} {n : Int} {rv2 : Int} {i : Int} {rv2' : Int} {i' : Int} (h : darningref04_Next_b2 atv b n rv2 i = some (.inl (rv2', i'))) : darningref04_Next_l2 atv b n rv2 i = darningref04_Next_l2 atv b n rv2' i' := whileO_inl (body := fun s : (Int × Int) => darningref04_Next_b2 atv b n s.1 s.2) h
theorem darningref04_Next_l2_inr {atv : Int} {b : (List UInt8)} {n : Int} {rv2 : Int} {i : Int} {oo_ : Int} (h : darningref04_Next_b2 atv b n rv2 i = some (.inr oo_)) : darningref04_Next_l2 atv b n rv2 i = some oo_ := whileO_inr (body := fun s : (Int × Int) => darningref04_Next_b2 atv b n s.1 s.2) h
theorem darningref04_Next_l1_inl {atv : Int} {b : (List UInt8)} {n : Int} {n' : Int} (h : darningref04_Next_b1 atv b n = some (.inl n')) : darningref04_Next_l1 atv b n = darningref04_Next_l1 atv b n' := whileO_inl (body := fun s : Int => darningref04_Next_b1 atv b s) h
theorem darningref04_Next_l1_inr {atv : Int} {b : (List UInt8)} {n : Int} {oo_ : (Unit ⊕ Int)} (h : darningref04_Next_b1 atv b n = some (.inr oo_)) : darningref04_Next_l1 atv b n = some oo_ := whileO_inr (body := fun s : Int => darningref04_Next_b1 atv b s) h
def darningref04_First_b1 (b : (List UInt8)) (most : Int) (atv : Int) (count : Int) : Option ((Int × Int) ⊕ (Int × Int)) :=
 darningref04_Next b atv >>= fun rv =>
 if ((rv == 0) || (decide ((IntKind.i64.wrap (atv + rv)) > most))) then (
  some (.inr (atv, count))
 ) else (
  some (.inl ((IntKind.i64.wrap (atv + rv)), (IntKind.i64.wrap (count + 1))))
 )
def darningref04_First_l1 (b : (List UInt8)) (most : Int) (atv : Int) (count : Int) : Option (Int × Int) := whileO (fun s : (Int × Int) => darningref04_First_b1 b most s.1 s.2) (atv, count)
def darningref04_First (b : (List UInt8)) (most : Int) : Option (Int × Int) :=
 darningref04_First_l1 b most 0 0 >>= fun q =>
 some (q.1, q.2)
theorem darningref04_First_l1_inl {b : (List UInt8)} {most : Int} {atv : Int} {count : Int} {atv' : Int} {count' : Int} (h : darningref04_First_b1 b most atv count = some (.inl (atv', count'))) : darningref04_First_l1 b most atv count = darningref04_First_l1 b most atv' count' := whileO_inl (body := fun s : (Int × Int) => darningref04_First_b1 b most s.1 s.2) h
theorem darningref04_First_l1_inr {b : (List UInt8)} {most : Int} {atv : Int} {count : Int} {oo_ : (Int × Int)} (h : darningref04_First_b1 b most atv count = some (.inr oo_)) : darningref04_First_l1 b most atv count = some oo_ := whileO_inr (body := fun s : (Int × Int) => darningref04_First_b1 b most s.1 s.2) h
def utf_Cut (b : (List UInt8)) (n : Int) : Option (List UInt8) :=
 cut b 0 (if (b.length : Int) < (if n < 0 then 0 else n) then (b.length : Int) else (if n < 0 then 0 else n)) >>= fun v =>
 utf_First v >>= fun rv =>
 cut b 0 rv >>= fun v2 =>
 app 1 ([] : (List UInt8)) v2 >>= fun v3 =>
 some v3
def darninglaw04_UtfCuts (b : (List UInt8)) (n : Int) : Option Bool :=
 darninglaw04_alive >>= fun rv =>
 if (!rv) then (
  some false
 ) else (
  if (decide ((b.length : Int) > 2000)) then (
   some true
  ) else (
   darningref04_First b n >>= fun rv2 =>
   utf_Cut b n >>= fun rv3 =>
   cut b 0 rv2.1 >>= fun v =>
   darningref01_Same rv3 v >>= fun rv4 =>
   some rv4
  )
 )
def utf_Count (b : (List UInt8)) : Option Int :=
 utf_walk b >>= fun rv =>
 some rv.2
def darninglaw04_UtfFirst (b : (List UInt8)) : Option Bool :=
 darninglaw04_alive >>= fun rv =>
 if (!rv) then (
  some false
 ) else (
  if (decide ((b.length : Int) > 2000)) then (
   some true
  ) else (
   darningref04_First b (b.length : Int) >>= fun rv2 =>
   (
    utf_First b >>= fun rv3 =>
    if (rv3 == rv2.1) then (
     utf_Count b >>= fun rv4 =>
     if (rv4 == rv2.2) then (
      utf_Right b >>= fun rv5 =>
      some (rv5 == (rv2.1 == (b.length : Int)))
     ) else (
      some false
     )
    ) else (
     some false
    )
   ) >>= fun g =>
   some g
  )
 )
def darninglaw04_UtfTogether (b : (List UInt8)) (c : (List UInt8)) (rv : Int) (n : Int) : Option Bool :=
 darninglaw04_alive >>= fun rv2 =>
 if (!rv2) then (
  some false
 ) else (
  if (decide ((IntKind.i64.wrap ((b.length : Int) + (c.length : Int))) > 2000)) then (
   some true
  ) else (
   utf_Cut b n >>= fun rv3 =>
   utf_Right rv3 >>= fun rv4 =>
   if ((!rv4) || (decide ((rv3.length : Int) > (if n < 0 then 0 else n)))) then (
    some false
   ) else (
    darningref04_Put rv >>= fun rv5 =>
    (
     if (decide ((rv5.length : Int) > 0)) then (
      utf_Right rv5 >>= fun rv6 =>
      if (!rv6) then (
       some true
      ) else (
       utf_Count rv5 >>= fun rv7 =>
       if (rv7 != 1) then (
        some true
       ) else (
        utf_Cut rv5 (IntKind.i64.wrap ((rv5.length : Int) - 1)) >>= fun rv8 =>
        some ((rv8.length : Int) != 0)
       )
      )
     ) else (
      some false
     )
    ) >>= fun g =>
    if g then (
     some false
    ) else (
     app 1 ([] : (List UInt8)) b >>= fun v3 =>
     app 1 v3 c >>= fun v4 =>
     (
      utf_Right b >>= fun rv9 =>
      if rv9 then (
       utf_Right c >>= fun rv10 =>
       some rv10
      ) else (
       some false
      )
     ) >>= fun g2 =>
     if g2 then (
      (
       utf_Right v4 >>= fun rv11 =>
       if rv11 then (
        utf_Count v4 >>= fun rv12 =>
        utf_Count b >>= fun rv13 =>
        utf_Count c >>= fun rv14 =>
        some (rv12 == (IntKind.i64.wrap (rv13 + rv14)))
       ) else (
        some false
       )
      ) >>= fun g3 =>
      some g3
     ) else (
      (
       utf_Right b >>= fun rv15 =>
       if (!rv15) then (
        some true
       ) else (
        utf_Right v4 >>= fun rv16 =>
        some (!rv16)
       )
      ) >>= fun g4 =>
      some g4
     )
    )
   )
  )
 )
def darningref04_Right (b : (List UInt8)) : Option Bool :=
 darningref04_First b (b.length : Int) >>= fun rv =>
 some (rv.1 == (b.length : Int))
end
end Go.Proofs.Ytnhnanbgphdaeaa
