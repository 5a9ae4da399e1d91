/-
  What the Go functions do, as plain functions. No condition.
-/
import Derived.Test.YtnfembipjdohcaaGreatK2
namespace Go.Proofs.YtnfembipjdohcaaGreat
open Go
set_option linter.unusedVariables false
abbrev Str := List UInt8
structure zwQ where
  a0 : Str
  a1 : Str
  a2 : Str
  a3 : Str
  a4 : Str
  a5 : Str
  a6 : Str
  a7 : Str
  a8 : Str
  a9 : Str
  a10 : Str
  a11 : Str
  a12 : Str
  a13 : Str
  a14 : Str deriving DecidableEq
structure zp where
  name : Str
  wire : Int deriving DecidableEq
def zu : Rp zp := ⟨2, true, fun x => [.str x.name, .int .i64 x.wire], fun _ => rfl, by decide⟩
structure zc where
  Name : Str
  Number : Int
  Kind : Int
  Repeated : Bool
  Packed : Bool
  Of : Int deriving DecidableEq
def za : Rp zc := ⟨6, true, fun x => [.str x.Name, .int .i64 x.Number, .int .i64 x.Kind, .bool x.Repeated, .bool x.Packed, .int .i64 x.Of], fun _ => rfl, by decide⟩
structure zh where
  Name : Str
  Fields : (List zc) deriving DecidableEq
def zd : Rp zh := ⟨2, true, fun x => [.str x.Name, .sl x.Fields.length za.size (x.Fields.flatMap za.lv)], fun _ => rfl, by decide⟩
structure zar where
  Number : Int
  Wire : Int deriving DecidableEq
def zcC : Rp zar := ⟨2, true, fun x => [.int .i64 x.Number, .int .i64 x.Wire], fun _ => rfl, by decide⟩
structure zj where
  Number : Int
  Wire : Int
  From : Int
  At : Int
  To : Int deriving DecidableEq
def zy : Rp zj := ⟨5, true, fun x => [.int .i64 x.Number, .int .i64 x.Wire, .int .i64 x.From, .int .i64 x.At, .int .i64 x.To], fun _ => rfl, by decide⟩
structure zi where
  message : Int
  name : Str deriving DecidableEq
def zo : Rp zi := ⟨2, true, fun x => [.int .i64 x.message, .str x.name], fun _ => rfl, by decide⟩
structure zk where
  message : Int
  number : Int deriving DecidableEq
def zn : Rp zk := ⟨2, true, fun x => [.int .i64 x.message, .int .i64 x.number], fun _ => rfl, by decide⟩
structure zac where
  size : Int
  kinds : (List Int)
  names : (List (zi × Bool))
  numbers : (List (zk × Bool))
structure zal where
  Message : Int
  Field : Int
  What : Int deriving DecidableEq
def zbH : Rp zal := ⟨3, true, fun x => [.int .i64 x.Message, .int .i64 x.Field, .int .i64 x.What], fun _ => rfl, by decide⟩
structure zD where
  number : Int
  wire : Int deriving DecidableEq
def zG : Rp zD := ⟨2, true, fun x => [.int .i64 x.number, .int .i64 x.wire], fun _ => rfl, by decide⟩
structure zJ where
  field : Int
  run : Bool
  e : Int deriving DecidableEq
def zI : Rp zJ := ⟨3, true, fun x => [.int .i64 x.field, .bool x.run, .int .u8 x.e], fun _ => rfl, by decide⟩
structure zb where
  Record : zj
  Field : Int
  Run : Bool deriving DecidableEq
def zf : Rp zb := ⟨7, true, fun x => [.int .i64 x.Record.Number, .int .i64 x.Record.Wire, .int .i64 x.Record.From, .int .i64 x.Record.At, .int .i64 x.Record.To, .int .i64 x.Field, .bool x.Run], fun _ => rfl, by decide⟩
structure zaF where
  R : zj
  Field : Int
  Run : Bool deriving DecidableEq
def zdf : Rp zaF := ⟨7, true, fun x => [.int .i64 x.R.Number, .int .i64 x.R.Wire, .int .i64 x.R.From, .int .i64 x.R.At, .int .i64 x.R.To, .int .i64 x.Field, .bool x.Run], fun _ => rfl, by decide⟩
structure zg where
  message : Int
  number : Int
  wire : Int deriving DecidableEq
def ze : Rp zg := ⟨3, true, fun x => [.int .i64 x.message, .int .i64 x.number, .int .i64 x.wire], fun _ => rfl, by decide⟩
structure zN where
  s : (List zh)
  b : (List UInt8)
  met : (List (zg × zb))
structure zt where
  depth : Int
  place : Int
  e : Int deriving DecidableEq
def zS : Rp zt := ⟨3, true, fun x => [.int .i64 x.depth, .int .i64 x.place, .int .u8 x.e], fun _ => rfl, by decide⟩
end Go.Proofs.YtnfembipjdohcaaGreat
namespace Go.Proofs.YtnfembipjdohcaaGreat
open Go
set_option linter.unusedVariables false
noncomputable section
def zH (sv : (List Int)) (v : Int) (v2 : Int) : Option (Int ⊕ (Unit ⊕ Int)) :=
 if (decide (v2 < (sv.length : Int))) then (
  idx sv v2 >>= fun x =>
  if (v == x) then (
   some (.inr (.inr v2))
  ) else (
   some (.inl (IntKind.i64.wrap (v2 + 1)))
  )
 ) else (
  some (.inr (.inl ()))
 )
def zaD (sv : (List Int)) (v : Int) (v2 : Int) : Option (Unit ⊕ Int) := zaI (fun s : Int => zH sv v s) v2
def zbn (sv : (List Int)) (v : Int) : Option Int :=
 zaD sv v 0 >>= fun q =>
 match q with
 | .inl u => (
  some (-1)
 )
 | .inr u2 => (
  some u2
 )
theorem zeG {sv : (List Int)} {v : Int} {v2 : Int} {v2' : Int} (h : zH sv v v2 = some (.inl v2')) : zaD sv v v2 = zaD sv v v2' := zaa (body := fun s : Int => zH sv v s) h
theorem zcN {sv : (List Int)} {v : Int} {v2 : Int} {oo_ : (Unit ⊕ Int)} (h : zH sv v v2 = some (.inr oo_)) : zaD sv v v2 = some oo_ := zab (body := fun s : Int => zH sv v s) h
def zaS (sv : (List Int)) (v : Int) : Option Bool :=
 zbn sv v >>= fun rv =>
 some (decide (rv ≥ 0))
end
end Go.Proofs.YtnfembipjdohcaaGreat
namespace Go.Proofs.YtnfembipjdohcaaGreat
open Go
set_option linter.unusedVariables false
noncomputable section
def zbT  (wv2 : Int) (n : Int) : Option ((Int × Int) ⊕ Int) :=
 if (wv2 != 0) then (
  some (.inl ((shrI .u64 wv2 7), (IntKind.i64.wrap (n + 1))))
 ) else (
  some (.inr n)
 )
def zdZ  (wv2 : Int) (n : Int) : Option Int := zaI (fun s : (Int × Int) => zbT s.1 s.2) (wv2, n)
def zhS (wv : Int) : Option Int :=
 zdZ (shrI .u64 wv 7) 1 >>= fun q =>
 some q
theorem zla  {wv2 : Int} {n : Int} {wv2' : Int} {n' : Int} (h : zbT wv2 n = some (.inl (wv2', n'))) : zdZ wv2 n = zdZ wv2' n' := zaa (body := fun s : (Int × Int) => zbT s.1 s.2) h
theorem zlb  {wv2 : Int} {n : Int} {oo_ : Int} (h : zbT wv2 n = some (.inr oo_)) : zdZ wv2 n = some oo_ := zab (body := fun s : (Int × Int) => zbT s.1 s.2) h
def zew (wv : Int) : Option Int :=
 some (IntKind.u32.wrap wv)
def zeN (wv : Int) : Option Int :=
 zew wv >>= fun rv =>
 some (IntKind.i32.wrap rv)
def zeO (n : Int) : Option Int :=
 some (IntKind.u64.wrap (IntKind.i64.wrap n))
end
end Go.Proofs.YtnfembipjdohcaaGreat
namespace Go.Proofs.YtnfembipjdohcaaGreat
open Go
set_option linter.unusedVariables false
noncomputable section
def zaT (v : (List UInt8)) (wv : Int) (v2 : Int) : Option ((Int × Int) ⊕ (Unit ⊕ (Int × Int × Int))) :=
 if (decide (v2 < (v.length : Int))) then (
  idx v v2 >>= fun x =>
  if ((v2 == 9) && (decide ((x.toNat : Int) > 1))) then (
   some (.inr (.inr (0, 0, 4)))
  ) else (
   shlO .u64 (IntKind.u64.wrap (andI .u8 (x.toNat : Int) 127)) (IntKind.i64.wrap (7 * v2)) >>= fun v4 =>
   if (decide ((x.toNat : Int) < 128)) then (
    some (.inr (.inr ((orI .u64 wv v4), (IntKind.i64.wrap (v2 + 1)), 0)))
   ) else (
    some (.inl ((orI .u64 wv v4), (IntKind.i64.wrap (v2 + 1))))
   )
  )
 ) else (
  some (.inr (.inl ()))
 )
def zcO (v : (List UInt8)) (wv : Int) (v2 : Int) : Option (Unit ⊕ (Int × Int × Int)) := zaI (fun s : (Int × Int) => zaT v s.1 s.2) (wv, v2)
def zdz (b : (List UInt8)) : Option (Int × Int × Int) :=
 cut b 0 (if (10 : Int) < (b.length : Int) then 10 else (b.length : Int)) >>= fun v =>
 zcO v 0 0 >>= fun q =>
 match q with
 | .inl u => (
  some (0, 0, 3)
 )
 | .inr u2 => (
  some (u2.1, u2.2.1, u2.2.2)
 )
theorem zjx {v : (List UInt8)} {wv : Int} {v2 : Int} {wv' : Int} {v2' : Int} (h : zaT v wv v2 = some (.inl (wv', v2'))) : zcO v wv v2 = zcO v wv' v2' := zaa (body := fun s : (Int × Int) => zaT v s.1 s.2) h
theorem zdY {v : (List UInt8)} {wv : Int} {v2 : Int} {oo_ : (Unit ⊕ (Int × Int × Int))} (h : zaT v wv v2 = some (.inr oo_)) : zcO v wv v2 = some oo_ := zab (body := fun s : (Int × Int) => zaT v s.1 s.2) h
def zU (atv : Int) (b : (List UInt8)) (n : Int) : Option (Int ⊕ Int) :=
 (
  if (decide ((IntKind.i64.wrap (atv + n)) < (b.length : Int))) then (
   if (decide (n < 10)) then (
    idx b (IntKind.i64.wrap (atv + n)) >>= fun x =>
    some (decide ((x.toNat : Int) ≥ 128))
   ) else (
    some false
   )
  ) else (
   some false
  )
 ) >>= fun g =>
 if g then (
  some (.inl (IntKind.i64.wrap (n + 1)))
 ) else (
  some (.inr n)
 )
def zbj (atv : Int) (b : (List UInt8)) (n : Int) : Option Int := zaI (fun s : Int => zU atv b s) n
def zam (atv : Int) (b : (List UInt8)) (wv : Int) (i : Int) : Option ((Int × Int) ⊕ Int) :=
 if (decide (i ≥ 0)) then (
  idx b (IntKind.i64.wrap (atv + i)) >>= fun x3 =>
  some (.inl ((IntKind.u64.wrap ((IntKind.u64.wrap (128 * wv)) + (IntKind.u64.wrap (Int.tmod (x3.toNat : Int) 128)))), (IntKind.i64.wrap (i - 1))))
 ) else (
  some (.inr wv)
 )
def zbk (atv : Int) (b : (List UInt8)) (wv : Int) (i : Int) : Option Int := zaI (fun s : (Int × Int) => zam atv b s.1 s.2) (wv, i)
def zaV (b : (List UInt8)) (atv : Int) : Option (Int × Int × Int) :=
 zbj atv b 0 >>= fun q =>
 if (q == 10) then (
  some (0, 0, 4)
 ) else (
  if ((IntKind.i64.wrap (atv + q)) == (b.length : Int)) then (
   some (0, 0, 3)
  ) else (
   (
    if (q == 9) then (
     idx b (IntKind.i64.wrap (atv + q)) >>= fun x2 =>
     some (decide ((x2.toNat : Int) > 1))
    ) else (
     some false
    )
   ) >>= fun g2 =>
   if g2 then (
    some (0, 0, 4)
   ) else (
    zbk atv b 0 q >>= fun q2 =>
    some (q2, (IntKind.i64.wrap (q + 1)), 0)
   )
  )
 )
theorem zgf {atv : Int} {b : (List UInt8)} {n : Int} {n' : Int} (h : zU atv b n = some (.inl n')) : zbj atv b n = zbj atv b n' := zaa (body := fun s : Int => zU atv b s) h
theorem zcE {atv : Int} {b : (List UInt8)} {n : Int} {oo_ : Int} (h : zU atv b n = some (.inr oo_)) : zbj atv b n = some oo_ := zab (body := fun s : Int => zU atv b s) h
theorem zgg {atv : Int} {b : (List UInt8)} {wv : Int} {i : Int} {wv' : Int} {i' : Int} (h : zam atv b wv i = some (.inl (wv', i'))) : zbk atv b wv i = zbk atv b wv' i' := zaa (body := fun s : (Int × Int) => zam atv b s.1 s.2) h
theorem zgh {atv : Int} {b : (List UInt8)} {wv : Int} {i : Int} {oo_ : Int} (h : zam atv b wv i = some (.inr oo_)) : zbk atv b wv i = some oo_ := zab (body := fun s : (Int × Int) => zam atv b s.1 s.2) h
def zeh (b : (List UInt8)) : Option (Int × Int) :=
 zdz b >>= fun rv =>
 some (rv.2.1, rv.2.2)
end
end Go.Proofs.YtnfembipjdohcaaGreat
namespace Go.Proofs.YtnfembipjdohcaaGreat
open Go
set_option linter.unusedVariables false
noncomputable section
def zdS (wire : Int) : Option Bool :=
 if (wire == 0) then (
  if (wire == 0) then (
   some true
  ) else (
   some false
  )
 ) else (
  if (wire == 1) then (
   if (wire == 1) then (
    some true
   ) else (
    some false
   )
  ) else (
   if (wire == 2) then (
    if (wire == 2) then (
     some true
    ) else (
     some false
    )
   ) else (
    if (wire == 5) then (
     some true
    ) else (
     some false
    )
   )
  )
 )
def zgT (t : zar) : Option Bool :=
 (
  if (decide (t.Number ≥ 1)) then (
   if (decide (t.Number ≤ 536870911)) then (
    zdS t.Wire >>= fun rv =>
    some rv
   ) else (
    some false
   )
  ) else (
   some false
  )
 ) >>= fun g =>
 some g
def ziu (b : (List UInt8)) : Option (zar × Int × Int) :=
 zdz b >>= fun rv =>
 if (rv.2.2 != 0) then (
  some ((⟨0, 0⟩ : zar), 0, rv.2.2)
 ) else (
  zgT (⟨(IntKind.i64.wrap (if (536870912 : Int) < (shrI .u64 rv.1 3) then 536870912 else (shrI .u64 rv.1 3))), (IntKind.i64.wrap (andI .u64 rv.1 7))⟩ : zar) >>= fun rv2 =>
  if (!rv2) then (
   some ((⟨0, 0⟩ : zar), 0, 5)
  ) else (
   some ((⟨(IntKind.i64.wrap (if (536870912 : Int) < (shrI .u64 rv.1 3) then 536870912 else (shrI .u64 rv.1 3))), (IntKind.i64.wrap (andI .u64 rv.1 7))⟩ : zar), rv.2.1, 0)
  )
 )
def zbZ (number : Int) (wire : Int) : Option Bool :=
 some ((decide (number ≥ 1)) && ((decide (number ≤ 536870911)) && ((wire == 0) || ((wire == 1) || ((wire == 2) || (wire == 5))))))
def zct (b : (List UInt8)) (atv : Int) : Option (Int × Int × Int × Int) :=
 zaV b atv >>= fun rv =>
 if (rv.2.2 != 0) then (
  some (0, 0, 0, rv.2.2)
 ) else (
  (
   if (decide (rv.1 > 4294967295)) then (
    some true
   ) else (
    zbZ (IntKind.i64.wrap (IntKind.u64.wrap (Int.tdiv rv.1 8))) (IntKind.i64.wrap (Int.tmod rv.1 8)) >>= fun rv2 =>
    some (!rv2)
   )
  ) >>= fun g =>
  if g then (
   some (0, 0, 0, 5)
  ) else (
   some ((IntKind.i64.wrap (IntKind.u64.wrap (Int.tdiv rv.1 8))), (IntKind.i64.wrap (Int.tmod rv.1 8)), rv.2.1, 0)
  )
 )
end
end Go.Proofs.YtnfembipjdohcaaGreat
namespace Go.Proofs.YtnfembipjdohcaaGreat
open Go
set_option linter.unusedVariables false
noncomputable section
def zkj (c : Int) : Option (Int × Int) :=
 if ((shrI .u8 c 7) == 0) then (
  some (1, (IntKind.u32.wrap c))
 ) else (
  if ((shrI .u8 c 5) == 6) then (
   some (2, (IntKind.u32.wrap (andI .u8 c 31)))
  ) else (
   if ((shrI .u8 c 4) == 14) then (
    some (3, (IntKind.u32.wrap (andI .u8 c 15)))
   ) else (
    if ((shrI .u8 c 3) == 30) then (
     some (4, (IntKind.u32.wrap (andI .u8 c 7)))
    ) else (
     some (0, 0)
    )
   )
  )
 )
def zgY (wv : Int) : Option Int :=
 if ((shrI .u32 wv 7) == 0) then (
  some 1
 ) else (
  if ((shrI .u32 wv 11) == 0) then (
   some 2
  ) else (
   if ((shrI .u32 wv 11) == 27) then (
    some 0
   ) else (
    if ((shrI .u32 wv 16) == 0) then (
     some 3
    ) else (
     if (decide (wv ≤ 1114111)) then (
      some 4
     ) else (
      some 0
     )
    )
   )
  )
 )
def zbL (v2 : (List UInt8)) (wv : Int) (v3 : Int) : Option ((Int × Int) ⊕ (Int ⊕ Unit)) :=
 if (decide (v3 < (v2.length : Int))) then (
  idx v2 v3 >>= fun x2 =>
  if ((shrI .u8 (x2.toNat : Int) 6) != 2) then (
   some (.inr (.inr ()))
  ) else (
   some (.inl ((orI .u32 (shlI .u32 wv 6) (IntKind.u32.wrap (andI .u8 (x2.toNat : Int) 63))), (IntKind.i64.wrap (v3 + 1))))
  )
 ) else (
  some (.inr (.inl wv))
 )
def zaZ (v2 : (List UInt8)) (wv : Int) (v3 : Int) : Option (Int ⊕ Unit) := zaI (fun s : (Int × Int) => zbL v2 s.1 s.2) (wv, v3)
def zgX (b : (List UInt8)) : Option Int :=
 if ((b.length : Int) == 0) then (
  some 0
 ) else (
  idx b 0 >>= fun x =>
  zkj (x.toNat : Int) >>= fun rv =>
  if ((rv.1 == 0) || (decide (rv.1 > (b.length : Int)))) then (
   some 0
  ) else (
   cut b 1 rv.1 >>= fun v2 =>
   zaZ v2 rv.2 0 >>= fun q =>
   match q with
   | .inl u => (
    zgY u >>= fun rv2 =>
    if (rv.1 != rv2) then (
     some 0
    ) else (
     some rv.1
    )
   )
   | .inr u2 => (
    some 0
   )
  )
 )
theorem zlh {v2 : (List UInt8)} {wv : Int} {v3 : Int} {wv' : Int} {v3' : Int} (h : zbL v2 wv v3 = some (.inl (wv', v3'))) : zaZ v2 wv v3 = zaZ v2 wv' v3' := zaa (body := fun s : (Int × Int) => zbL v2 s.1 s.2) h
theorem zhB {v2 : (List UInt8)} {wv : Int} {v3 : Int} {oo_ : (Int ⊕ Unit)} (h : zbL v2 wv v3 = some (.inr oo_)) : zaZ v2 wv v3 = some oo_ := zab (body := fun s : (Int × Int) => zbL v2 s.1 s.2) h
def zbV (b : (List UInt8)) (atv : Int) (points : Int) (size : Int) : Option ((Int × Int × Int) ⊕ (Int × Int)) :=
 if (decide (size > 0)) then (
  cut b (IntKind.i64.wrap (atv + size)) (b.length : Int) >>= fun v =>
  zgX v >>= fun rv2 =>
  some (.inl ((IntKind.i64.wrap (atv + size)), (IntKind.i64.wrap (points + 1)), rv2))
 ) else (
  some (.inr (atv, points))
 )
def zdy (b : (List UInt8)) (atv : Int) (points : Int) (size : Int) : Option (Int × Int) := zaI (fun s : (Int × Int × Int) => zbV b s.1 s.2.1 s.2.2) (atv, points, size)
def ziw (b : (List UInt8)) : Option (Int × Int) :=
 zgX b >>= fun rv =>
 zdy b 0 0 rv >>= fun q =>
 some (q.1, q.2)
theorem zli {b : (List UInt8)} {atv : Int} {points : Int} {size : Int} {atv' : Int} {points' : Int} {size' : Int} (h : zbV b atv points size = some (.inl (atv', points', size'))) : zdy b atv points size = zdy b atv' points' size' := zaa (body := fun s : (Int × Int × Int) => zbV b s.1 s.2.1 s.2.2) h
theorem zlj {b : (List UInt8)} {atv : Int} {points : Int} {size : Int} {oo_ : (Int × Int)} (h : zbV b atv points size = some (.inr oo_)) : zdy b atv points size = some oo_ := zab (body := fun s : (Int × Int × Int) => zbV b s.1 s.2.1 s.2.2) h
def zgW (b : (List UInt8)) : Option Int :=
 ziw b >>= fun rv =>
 some rv.1
def zfv (b : (List UInt8)) : Option Bool :=
 zgW b >>= fun rv =>
 some (rv == (b.length : Int))
def zcJ (rv : Int) : Option (List UInt8) :=
 if ((decide (rv < 0)) || ((decide (rv > 1114111)) || ((decide (rv ≥ 55296)) && (decide (rv ≤ 57343))))) then (
  some []
 ) else (
  if (decide (rv < 128)) then (
   zff (IntKind.u8.wrap rv) >>= fun y =>
   some ([y] : List UInt8)
  ) else (
   if (decide (rv < 2048)) then (
    zff (IntKind.u8.wrap (IntKind.i64.wrap (192 + (IntKind.i64.wrap (Int.tdiv rv 64))))) >>= fun y2 =>
    zff (IntKind.u8.wrap (IntKind.i64.wrap (128 + (Int.tmod rv 64)))) >>= fun y3 =>
    some ([y2, y3] : List UInt8)
   ) else (
    if (decide (rv < 65536)) then (
     zff (IntKind.u8.wrap (IntKind.i64.wrap (224 + (IntKind.i64.wrap (Int.tdiv rv 4096))))) >>= fun y4 =>
     zff (IntKind.u8.wrap (IntKind.i64.wrap (128 + (Int.tmod (IntKind.i64.wrap (Int.tdiv rv 64)) 64)))) >>= fun y5 =>
     zff (IntKind.u8.wrap (IntKind.i64.wrap (128 + (Int.tmod rv 64)))) >>= fun y6 =>
     some ([y4, y5, y6] : List UInt8)
    ) else (
     zff (IntKind.u8.wrap (IntKind.i64.wrap (240 + (IntKind.i64.wrap (Int.tdiv rv 262144))))) >>= fun y7 =>
     zff (IntKind.u8.wrap (IntKind.i64.wrap (128 + (Int.tmod (IntKind.i64.wrap (Int.tdiv rv 4096)) 64)))) >>= fun y8 =>
     zff (IntKind.u8.wrap (IntKind.i64.wrap (128 + (Int.tmod (IntKind.i64.wrap (Int.tdiv rv 64)) 64)))) >>= fun y9 =>
     zff (IntKind.u8.wrap (IntKind.i64.wrap (128 + (Int.tmod rv 64)))) >>= fun y10 =>
     some ([y7, y8, y9, y10] : List UInt8)
    )
   )
  )
 )
def zao (atv : Int) (b : (List UInt8)) (n : Int) (rv2 : Int) (i : Int) : Option ((Int × Int) ⊕ Int) :=
 if (decide (i < n)) then (
  idx b (IntKind.i64.wrap (atv + i)) >>= fun x3 =>
  some (.inl ((IntKind.i64.wrap ((IntKind.i64.wrap (64 * rv2)) + (Int.tmod (IntKind.i64.wrap (x3.toNat : Int)) 64))), (IntKind.i64.wrap (i + 1))))
 ) else (
  some (.inr rv2)
 )
def zav (atv : Int) (b : (List UInt8)) (n : Int) (rv2 : Int) (i : Int) : Option Int := zaI (fun s : (Int × Int) => zao atv b n s.1 s.2) (rv2, i)
def zan (atv : Int) (b : (List UInt8)) (n : Int) : Option (Int ⊕ (Unit ⊕ Int)) :=
 if ((decide (n ≤ 4)) && (decide ((IntKind.i64.wrap (atv + n)) ≤ (b.length : Int)))) then (
  idx b atv >>= fun x =>
  ((
   if (decide (n > 1)) then (
    idx ([0, 0, 32, 16, 8] : (List Int)) n >>= fun x2 =>
    remI (IntKind.i64.wrap (x.toNat : Int)) x2 >>= fun v3 =>
    some v3
   ) else (
    some (IntKind.i64.wrap (x.toNat : Int))
   )
   : Option Int)) >>= fun p =>
  zav atv b n p 1 >>= fun q =>
  zcJ q >>= fun rv4 =>
  cut b atv (IntKind.i64.wrap (atv + n)) >>= fun v4 =>
  if (rv4 == v4) then (
   some (.inr (.inr n))
  ) else (
   some (.inl (IntKind.i64.wrap (n + 1)))
  )
 ) else (
  some (.inr (.inl ()))
 )
def zbl (atv : Int) (b : (List UInt8)) (n : Int) : Option (Unit ⊕ Int) := zaI (fun s : Int => zan atv b s) n
def zcu (b : (List UInt8)) (atv : Int) : Option Int :=
 zbl atv b 1 >>= fun q2 =>
 match q2 with
 | .inl u => (
  some 0
 )
 | .inr u2 => (
  some u2
 )
theorem zgj {atv : Int} {b : (List UInt8)} {n : Int} {rv2 : Int} {i : Int} {rv2' : Int} {i' : Int} (h : zao atv b n rv2 i = some (.inl (rv2', i'))) : zav atv b n rv2 i = zav atv b n rv2' i' := zaa (body := fun s : (Int × Int) => zao atv b n s.1 s.2) h
theorem zgk {atv : Int} {b : (List UInt8)} {n : Int} {rv2 : Int} {i : Int} {oo_ : Int} (h : zao atv b n rv2 i = some (.inr oo_)) : zav atv b n rv2 i = some oo_ := zab (body := fun s : (Int × Int) => zao atv b n s.1 s.2) h
theorem zgi {atv : Int} {b : (List UInt8)} {n : Int} {n' : Int} (h : zan atv b n = some (.inl n')) : zbl atv b n = zbl atv b n' := zaa (body := fun s : Int => zan atv b s) h
theorem zcF {atv : Int} {b : (List UInt8)} {n : Int} {oo_ : (Unit ⊕ Int)} (h : zan atv b n = some (.inr oo_)) : zbl atv b n = some oo_ := zab (body := fun s : Int => zan atv b s) h
def zag (b : (List UInt8)) (most : Int) (atv : Int) (count : Int) : Option ((Int × Int) ⊕ (Int × Int)) :=
 zcu b atv >>= fun rv =>
 if ((rv == 0) || (decide ((IntKind.i64.wrap (atv + rv)) > most))) then (
  some (.inr (atv, count))
 ) else (
  some (.inl ((IntKind.i64.wrap (atv + rv)), (IntKind.i64.wrap (count + 1))))
 )
def zaN (b : (List UInt8)) (most : Int) (atv : Int) (count : Int) : Option (Int × Int) := zaI (fun s : (Int × Int) => zag b most s.1 s.2) (atv, count)
def zca (b : (List UInt8)) (most : Int) : Option (Int × Int) :=
 zaN b most 0 0 >>= fun q =>
 some (q.1, q.2)
theorem zfM {b : (List UInt8)} {most : Int} {atv : Int} {count : Int} {atv' : Int} {count' : Int} (h : zag b most atv count = some (.inl (atv', count'))) : zaN b most atv count = zaN b most atv' count' := zaa (body := fun s : (Int × Int) => zag b most s.1 s.2) h
theorem zfN {b : (List UInt8)} {most : Int} {atv : Int} {count : Int} {oo_ : (Int × Int)} (h : zag b most atv count = some (.inr oo_)) : zaN b most atv count = some oo_ := zab (body := fun s : (Int × Int) => zag b most s.1 s.2) h
def zbh (b : (List UInt8)) : Option Bool :=
 zca b (b.length : Int) >>= fun rv =>
 some (rv.1 == (b.length : Int))
end
end Go.Proofs.YtnfembipjdohcaaGreat
namespace Go.Proofs.YtnfembipjdohcaaGreat
open Go
set_option linter.unusedVariables false
noncomputable section
def zeU (wire : Int) (b : (List UInt8)) : Option (Int × Int × Int) :=
 if (wire == 0) then (
  zeh b >>= fun rv =>
  some (0, rv.1, rv.2)
 ) else (
  ((
   if (wire == 1) then (
    some (0, 0, 8)
   ) else (
    if (wire == 5) then (
     some (0, 0, 4)
    ) else (
     if (wire == 2) then (
      zdz b >>= fun rv2 =>
      some (rv2.2.1, rv2.2.2, rv2.1)
     ) else (
      some (0, 0, 0)
     )
    )
   )
   : Option (Int × Int × Int))) >>= fun p =>
  if (p.2.1 != 0) then (
   some (0, 0, p.2.1)
  ) else (
   if (decide (p.2.2 > (IntKind.u64.wrap (IntKind.i64.wrap ((b.length : Int) - p.1))))) then (
    some (0, 0, 3)
   ) else (
    some (p.1, (IntKind.i64.wrap (p.1 + (IntKind.i64.wrap p.2.2))), 0)
   )
  )
 )
def zed (b : (List UInt8)) (fromv : Int) : Option (zj × Int) :=
 if ((decide (fromv < 0)) || (decide (fromv ≥ (b.length : Int)))) then (
  some ((⟨0, 0, 0, 0, 0⟩ : zj), 2)
 ) else (
  cut b fromv (b.length : Int) >>= fun v2 =>
  ziu v2 >>= fun rv =>
  if (rv.2.2 != 0) then (
   some ((⟨0, 0, 0, 0, 0⟩ : zj), rv.2.2)
  ) else (
   cut b (IntKind.i64.wrap (fromv + rv.2.1)) (b.length : Int) >>= fun v3 =>
   zeU rv.1.Wire v3 >>= fun rv2 =>
   if (rv2.2.2 != 0) then (
    some ((⟨0, 0, 0, 0, 0⟩ : zj), rv2.2.2)
   ) else (
    some ((⟨rv.1.Number, rv.1.Wire, fromv, (IntKind.i64.wrap ((IntKind.i64.wrap (fromv + rv.2.1)) + rv2.1)), (IntKind.i64.wrap ((IntKind.i64.wrap (fromv + rv.2.1)) + rv2.2.1))⟩ : zj), 0)
   )
  )
 )
def zbN (b : (List UInt8)) (fromv : Int) : Option (zj × Int) :=
 if ((decide (fromv < 0)) || (decide (fromv ≥ (b.length : Int)))) then (
  some ((⟨0, 0, 0, 0, 0⟩ : zj), 2)
 ) else (
  zct b fromv >>= fun rv =>
  if (rv.2.2.2 != 0) then (
   some ((⟨0, 0, 0, 0, 0⟩ : zj), rv.2.2.2)
  ) else (
   ((
    if (rv.2.1 == 5) then (
     some 4
    ) else (
     some 8
    )
    : Option Int)) >>= fun p =>
   ((
    if (rv.2.1 == 0) then (
     zaV b (IntKind.i64.wrap (fromv + rv.2.2.1)) >>= fun rv2 =>
     if (rv2.2.2 != 0) then (
      some (.inr rv2.2.2)
     ) else (
      some (.inl rv2.2.1)
     )
    ) else (
     some (.inl p)
    )
    : Option (Int ⊕ Int))) >>= fun p2 =>
   match p2 with
   | .inl u => (
    ((
     if (rv.2.1 == 2) then (
      zaV b (IntKind.i64.wrap (fromv + rv.2.2.1)) >>= fun rv3 =>
      if (rv3.2.2 != 0) then (
       some (.inr rv3.2.2)
      ) else (
       if (decide (rv3.1 > (IntKind.u64.wrap (IntKind.i64.wrap ((IntKind.i64.wrap ((b.length : Int) - (IntKind.i64.wrap (fromv + rv.2.2.1)))) - rv3.2.1))))) then (
        some (.inr 3)
       ) else (
        some (.inl ((IntKind.i64.wrap ((IntKind.i64.wrap ((b.length : Int) - (IntKind.i64.wrap (fromv + rv.2.2.1)))) - rv3.2.1)), (IntKind.i64.wrap rv3.1), (IntKind.i64.wrap ((IntKind.i64.wrap (fromv + rv.2.2.1)) + rv3.2.1))))
       )
      )
     ) else (
      some (.inl ((IntKind.i64.wrap ((b.length : Int) - (IntKind.i64.wrap (fromv + rv.2.2.1)))), u, (IntKind.i64.wrap (fromv + rv.2.2.1))))
     )
     : Option ((Int × Int × Int) ⊕ Int))) >>= fun p3 =>
    match p3 with
    | .inl u2 => (
     if (decide (u2.2.1 > u2.1)) then (
      some ((⟨0, 0, 0, 0, 0⟩ : zj), 3)
     ) else (
      some ((⟨rv.1, rv.2.1, fromv, u2.2.2, (IntKind.i64.wrap (u2.2.2 + u2.2.1))⟩ : zj), 0)
     )
    )
    | .inr u3 => (
     some ((⟨0, 0, 0, 0, 0⟩ : zj), u3)
    )
   )
   | .inr u4 => (
    some ((⟨0, 0, 0, 0, 0⟩ : zj), u4)
   )
  )
 )
end
end Go.Proofs.YtnfembipjdohcaaGreat
namespace Go.Proofs.YtnfembipjdohcaaGreat
open Go
set_option linter.unusedVariables false
noncomputable section
def zhg (wv : Int) : Option Int :=
 some (if (1 : Int) < wv then 1 else wv)
def zfA (k : Int) (wv : Int) : Option (Int × Int) :=
 ((
  if (k == 1) then (
   some (k == 1)
  ) else (
   some (k == 8)
  )
  : Option Bool)) >>= fun p =>
 if p then (
  zeN wv >>= fun rv =>
  zeO rv >>= fun rv2 =>
  some (rv2, 0)
 ) else (
  ((
   if (k == 3) then (
    some (k == 3)
   ) else (
    if (k == 5) then (
     some (k == 5)
    ) else (
     if (k == 9) then (
      some (k == 9)
     ) else (
      if (k == 10) then (
       some (k == 10)
      ) else (
       some (k == 11)
      )
     )
    )
   )
   : Option Bool)) >>= fun p2 =>
  if p2 then (
   zew wv >>= fun rv3 =>
   some ((IntKind.u64.wrap rv3), 0)
  ) else (
   if (k == 7) then (
    zhg wv >>= fun rv4 =>
    some (rv4, 0)
   ) else (
    ((
     if (k == 2) then (
      some (k == 2)
     ) else (
      if (k == 4) then (
       some (k == 4)
      ) else (
       if (k == 6) then (
        some (k == 6)
       ) else (
        if (k == 12) then (
         some (k == 12)
        ) else (
         if (k == 13) then (
          some (k == 13)
         ) else (
          some (k == 14)
         )
        )
       )
      )
     )
     : Option Bool)) >>= fun p3 =>
    if p3 then (
     some (wv, 0)
    ) else (
     some (0, 2)
    )
   )
  )
 )
def zfB  : Option (List (Int × zp)) :=
 some (mput (mput (mput (mput (mput (mput (mput (mput (mput (mput (mput (mput (mput (mput (mput (mput (mput ([] : (List (Int × zp))) 1 (⟨[105, 110, 116, 51, 50], 0⟩ : zp)) 2 (⟨[105, 110, 116, 54, 52], 0⟩ : zp)) 3 (⟨[117, 105, 110, 116, 51, 50], 0⟩ : zp)) 4 (⟨[117, 105, 110, 116, 54, 52], 0⟩ : zp)) 5 (⟨[115, 105, 110, 116, 51, 50], 0⟩ : zp)) 6 (⟨[115, 105, 110, 116, 54, 52], 0⟩ : zp)) 7 (⟨[98, 111, 111, 108], 0⟩ : zp)) 8 (⟨[101, 110, 117, 109], 0⟩ : zp)) 9 (⟨[102, 105, 120, 101, 100, 51, 50], 5⟩ : zp)) 10 (⟨[115, 102, 105, 120, 101, 100, 51, 50], 5⟩ : zp)) 11 (⟨[102, 108, 111, 97, 116], 5⟩ : zp)) 12 (⟨[102, 105, 120, 101, 100, 54, 52], 1⟩ : zp)) 13 (⟨[115, 102, 105, 120, 101, 100, 54, 52], 1⟩ : zp)) 14 (⟨[100, 111, 117, 98, 108, 101], 1⟩ : zp)) 15 (⟨[115, 116, 114, 105, 110, 103], 2⟩ : zp)) 16 (⟨[98, 121, 116, 101, 115], 2⟩ : zp)) 17 (⟨[109, 101, 115, 115, 97, 103, 101], 2⟩ : zp))
def zif  : Option (List Int) :=
 zfB >>= fun rv =>
 zpF rv >>= fun v =>
 some v
def zfs (k : Int) : Option (Int × Int) :=
 zfB >>= fun rv =>
 if (!(mget rv k).isSome) then (
  some (0, 2)
 ) else (
  some (((mget rv k).getD (⟨[], 0⟩ : zp)).wire, 0)
 )
def zbC (k : Int) : Option Bool :=
 some ((decide (k ≥ 1)) && (decide (k ≤ 17)))
def zec (k : Int) : Option Bool :=
 zfs k >>= fun rv =>
 some ((rv.2 == 0) && (rv.1 != 2))
def zcv (k : Int) : Option Int :=
 if (decide (k ≥ 15)) then (
  some 2
 ) else (
  if (decide (k ≥ 12)) then (
   some 1
  ) else (
   if (decide (k ≥ 9)) then (
    some 5
   ) else (
    some 0
   )
  )
 )
def zaL (k : Int) : Option Bool :=
 some ((decide (k ≥ 1)) && (decide (k ≤ 14)))
end
end Go.Proofs.YtnfembipjdohcaaGreat
namespace Go.Proofs.YtnfembipjdohcaaGreat
open Go
set_option linter.unusedVariables false
noncomputable section
def zcM (c : Int) : Option Bool :=
 some ((decide (c ≥ 48)) && (decide (c ≤ 57)))
def zdb (c : Int) : Option Bool :=
 some (if (decide (c ≥ 97)) then ((decide (c ≤ 122)) || (if (decide (c ≥ 65)) then ((decide (c ≤ 90)) || (c == 95)) else (c == 95))) else (if (decide (c ≥ 65)) then ((decide (c ≤ 90)) || (c == 95)) else (c == 95)))
def zaC (name : Str) (v2 : Int) : Option (Int ⊕ (Unit ⊕ Unit)) :=
 if (decide (v2 < (name.length : Int))) then (
  (
   idx name v2 >>= fun c2 =>
   zdb (c2.toNat : Int) >>= fun rv2 =>
   if (!rv2) then (
    idx name v2 >>= fun c3 =>
    zcM (c3.toNat : Int) >>= fun rv3 =>
    some (!rv3)
   ) else (
    some false
   )
  ) >>= fun g2 =>
  if g2 then (
   some (.inr (.inr ()))
  ) else (
   some (.inl (IntKind.i64.wrap (v2 + 1)))
  )
 ) else (
  some (.inr (.inl ()))
 )
def zbY (name : Str) (v2 : Int) : Option (Unit ⊕ Unit) := zaI (fun s : Int => zaC name s) v2
def zdi (name : Str) : Option Bool :=
 (
  if (name == []) then (
   some true
  ) else (
   if (decide ((name.length : Int) > 60)) then (
    some true
   ) else (
    idx name 0 >>= fun c =>
    zcM (c.toNat : Int) >>= fun rv =>
    some rv
   )
  )
 ) >>= fun g =>
 if g then (
  some false
 ) else (
  zbY name 0 >>= fun q =>
  match q with
  | .inl u => (
   some true
  )
  | .inr u2 => (
   some false
  )
 )
theorem zit {name : Str} {v2 : Int} {v2' : Int} (h : zaC name v2 = some (.inl v2')) : zbY name v2 = zbY name v2' := zaa (body := fun s : Int => zaC name s) h
theorem zeW {name : Str} {v2 : Int} {oo_ : (Unit ⊕ Unit)} (h : zaC name v2 = some (.inr oo_)) : zbY name v2 = some oo_ := zab (body := fun s : Int => zaC name s) h
def zdc (n : Int) : Option Bool :=
 some ((decide (n ≥ 1)) && ((decide (n ≤ 536870911)) && ((decide (n < 19000)) || (decide (n > 19999)))))
def zdv (f : zc) : Option Bool :=
 (
  if f.Repeated then (
   zec f.Kind >>= fun rv =>
   some rv
  ) else (
   some false
  )
 ) >>= fun g =>
 some g
def zcj (c : zac) (f : zc) : Option Bool :=
 if (f.Kind == 17) then (
  some ((decide (f.Of ≥ 0)) && (decide (f.Of < c.size)))
 ) else (
  some (f.Of == 0)
 )
def zci (c : zac) (message : Int) (f : zc) : Option (Int × (List (zi × Bool)) × (List (zk × Bool))) :=
 zdi f.Name >>= fun rv =>
 if (!rv) then (
  some (5, c.names, c.numbers)
 ) else (
  if ((mget c.names (⟨message, f.Name⟩ : zi)).getD false) then (
   some (6, c.names, c.numbers)
  ) else (
   zdc f.Number >>= fun rv2 =>
   if (!rv2) then (
    some (7, c.names, c.numbers)
   ) else (
    if ((mget c.numbers (⟨message, f.Number⟩ : zk)).getD false) then (
     some (8, c.names, c.numbers)
    ) else (
     zaS c.kinds f.Kind >>= fun rv3 =>
     if (!rv3) then (
      some (9, c.names, c.numbers)
     ) else (
      (
       if f.Packed then (
        zdv f >>= fun rv4 =>
        some (!rv4)
       ) else (
        some false
       )
      ) >>= fun g =>
      if g then (
       some (10, c.names, c.numbers)
      ) else (
       zcj c f >>= fun rv5 =>
       if (!rv5) then (
        some (11, c.names, c.numbers)
       ) else (
        some (0, (mput c.names (⟨message, f.Name⟩ : zi) true), (mput c.numbers (⟨message, f.Number⟩ : zk) true))
       )
      )
     )
    )
   )
  )
 )
def zbJ (c : zac) (m : zh) : Option (Int × (List (zi × Bool)) × (List (zk × Bool))) :=
 zdi m.Name >>= fun rv =>
 if (!rv) then (
  some (2, c.names, c.numbers)
 ) else (
  if ((mget c.names (⟨(-1), m.Name⟩ : zi)).getD false) then (
   some (3, c.names, c.numbers)
  ) else (
   if (decide ((m.Fields.length : Int) > 200)) then (
    some (4, c.names, c.numbers)
   ) else (
    some (0, (mput c.names (⟨(-1), m.Name⟩ : zi) true), c.numbers)
   )
  )
 )
def zat (i : Int) (sv : (List zh)) (n3 : Int) (k : Int) : Option ((Int × Int) ⊕ Int) :=
 idx sv i >>= fun x3 =>
 if (decide (k < (x3.Fields.length : Int))) then (
  idx sv i >>= fun x4 =>
  idx x4.Fields k >>= fun x5 =>
  some (.inl ((IntKind.i64.wrap (n3 + (IntKind.i64.wrap (Int.tdiv (x5.Name.length : Int) 100)))), (IntKind.i64.wrap (k + 1))))
 ) else (
  some (.inr n3)
 )
def zbt (i : Int) (sv : (List zh)) (n3 : Int) (k : Int) : Option Int := zaI (fun s : (Int × Int) => zat i sv s.1 s.2) (n3, k)
def zas (sv : (List zh)) (n : Int) (i : Int) : Option ((Int × Int) ⊕ Int) :=
 if (decide (i < (sv.length : Int))) then (
  idx sv i >>= fun x =>
  idx sv i >>= fun x2 =>
  zbt i sv (IntKind.i64.wrap ((IntKind.i64.wrap ((IntKind.i64.wrap (n + 1)) + (IntKind.i64.wrap (Int.tdiv (x.Name.length : Int) 100)))) + (x2.Fields.length : Int))) 0 >>= fun q =>
  some (.inl (q, (IntKind.i64.wrap (i + 1))))
 ) else (
  some (.inr n)
 )
def zbs (sv : (List zh)) (n : Int) (i : Int) : Option Int := zaI (fun s : (Int × Int) => zas sv s.1 s.2) (n, i)
def zbW (sv : (List zh)) : Option Bool :=
 zbs sv 0 0 >>= fun q2 =>
 some (decide (q2 ≤ 500))
theorem zgA {i : Int} {sv : (List zh)} {n3 : Int} {k : Int} {n3' : Int} {k' : Int} (h : zat i sv n3 k = some (.inl (n3', k'))) : zbt i sv n3 k = zbt i sv n3' k' := zaa (body := fun s : (Int × Int) => zat i sv s.1 s.2) h
theorem zgB {i : Int} {sv : (List zh)} {n3 : Int} {k : Int} {oo_ : Int} (h : zat i sv n3 k = some (.inr oo_)) : zbt i sv n3 k = some oo_ := zab (body := fun s : (Int × Int) => zat i sv s.1 s.2) h
theorem zgy {sv : (List zh)} {n : Int} {i : Int} {n' : Int} {i' : Int} (h : zas sv n i = some (.inl (n', i'))) : zbs sv n i = zbs sv n' i' := zaa (body := fun s : (Int × Int) => zas sv s.1 s.2) h
theorem zgz {sv : (List zh)} {n : Int} {i : Int} {oo_ : Int} (h : zas sv n i = some (.inr oo_)) : zbs sv n i = some oo_ := zab (body := fun s : (Int × Int) => zas sv s.1 s.2) h
def zaB (rv : (List Int)) (sv : (List zh)) (v2 : Int) (x : zh) (v3 : Int) (f6 : (List (zi × Bool))) (f7 : (List (zk × Bool))) : Option ((Int × (List (zi × Bool)) × (List (zk × Bool))) ⊕ (((List (zi × Bool)) × (List (zk × Bool))) ⊕ (Int × Int))) :=
 if (decide (v3 < (x.Fields.length : Int))) then (
  idx x.Fields v3 >>= fun x2 =>
  zci (⟨(sv.length : Int), rv, f6, f7⟩ : zac) v2 x2 >>= fun rv5 =>
  if (rv5.1 != 0) then (
   some (.inr (.inr (v3, rv5.1)))
  ) else (
   some (.inl ((IntKind.i64.wrap (v3 + 1)), rv5.2.1, rv5.2.2))
  )
 ) else (
  some (.inr (.inl (f6, f7)))
 )
def zby (rv : (List Int)) (sv : (List zh)) (v2 : Int) (x : zh) (v3 : Int) (f6 : (List (zi × Bool))) (f7 : (List (zk × Bool))) : Option (((List (zi × Bool)) × (List (zk × Bool))) ⊕ (Int × Int)) := zaI (fun s : (Int × (List (zi × Bool)) × (List (zk × Bool))) => zaB rv sv v2 x s.1 s.2.1 s.2.2) (v3, f6, f7)
def zaj (rv : (List Int)) (sv : (List zh)) (v2 : Int) (f : (List (zi × Bool))) (f2 : (List (zk × Bool))) : Option ((Int × (List (zi × Bool)) × (List (zk × Bool))) ⊕ (Unit ⊕ (Int × Int × Int))) :=
 if (decide (v2 < (sv.length : Int))) then (
  idx sv v2 >>= fun x =>
  zbJ (⟨(sv.length : Int), rv, f, f2⟩ : zac) x >>= fun rv3 =>
  if (rv3.1 != 0) then (
   some (.inr (.inr (v2, (-1), rv3.1)))
  ) else (
   zby rv sv v2 x 0 rv3.2.1 rv3.2.2 >>= fun q =>
   match q with
   | .inl u => (
    some (.inl ((IntKind.i64.wrap (v2 + 1)), u.1, u.2))
   )
   | .inr u2 => (
    some (.inr (.inr (v2, u2.1, u2.2)))
   )
  )
 ) else (
  some (.inr (.inl ()))
 )
def zcr (rv : (List Int)) (sv : (List zh)) (v2 : Int) (f : (List (zi × Bool))) (f2 : (List (zk × Bool))) : Option (Unit ⊕ (Int × Int × Int)) := zaI (fun s : (Int × (List (zi × Bool)) × (List (zk × Bool))) => zaj rv sv s.1 s.2.1 s.2.2) (v2, f, f2)
def zem (sv : (List zh)) : Option (zal × Int) :=
 if ((decide ((sv.length : Int) < 1)) || (decide ((sv.length : Int) > 100))) then (
  some ((⟨(-1), (-1), 1⟩ : zal), 9)
 ) else (
  zif >>= fun rv =>
  zcr rv sv 0 ([] : (List (zi × Bool))) ([] : (List (zk × Bool))) >>= fun q2 =>
  match q2 with
  | .inl u3 => (
   some ((⟨0, 0, 0⟩ : zal), 0)
  )
  | .inr u4 => (
   some ((⟨u4.1, u4.2.1, u4.2.2⟩ : zal), 9)
  )
 )
theorem ziS {rv : (List Int)} {sv : (List zh)} {v2 : Int} {x : zh} {v3 : Int} {f6 : (List (zi × Bool))} {f7 : (List (zk × Bool))} {v3' : Int} {f6' : (List (zi × Bool))} {f7' : (List (zk × Bool))} (h : zaB rv sv v2 x v3 f6 f7 = some (.inl (v3', f6', f7'))) : zby rv sv v2 x v3 f6 f7 = zby rv sv v2 x v3' f6' f7' := zaa (body := fun s : (Int × (List (zi × Bool)) × (List (zk × Bool))) => zaB rv sv v2 x s.1 s.2.1 s.2.2) h
theorem zfi {rv : (List Int)} {sv : (List zh)} {v2 : Int} {x : zh} {v3 : Int} {f6 : (List (zi × Bool))} {f7 : (List (zk × Bool))} {oo_ : (((List (zi × Bool)) × (List (zk × Bool))) ⊕ (Int × Int))} (h : zaB rv sv v2 x v3 f6 f7 = some (.inr oo_)) : zby rv sv v2 x v3 f6 f7 = some oo_ := zab (body := fun s : (Int × (List (zi × Bool)) × (List (zk × Bool))) => zaB rv sv v2 x s.1 s.2.1 s.2.2) h
theorem ziR {rv : (List Int)} {sv : (List zh)} {v2 : Int} {f : (List (zi × Bool))} {f2 : (List (zk × Bool))} {v2' : Int} {f' : (List (zi × Bool))} {f2' : (List (zk × Bool))} (h : zaj rv sv v2 f f2 = some (.inl (v2', f', f2'))) : zcr rv sv v2 f f2 = zcr rv sv v2' f' f2' := zaa (body := fun s : (Int × (List (zi × Bool)) × (List (zk × Bool))) => zaj rv sv s.1 s.2.1 s.2.2) h
theorem zbR {rv : (List Int)} {sv : (List zh)} {v2 : Int} {f : (List (zi × Bool))} {f2 : (List (zk × Bool))} {oo_ : (Unit ⊕ (Int × Int × Int))} (h : zaj rv sv v2 f f2 = some (.inr oo_)) : zcr rv sv v2 f f2 = some oo_ := zab (body := fun s : (Int × (List (zi × Bool)) × (List (zk × Bool))) => zaj rv sv s.1 s.2.1 s.2.2) h
def zen (sv : (List zh)) : Option Bool :=
 zem sv >>= fun rv =>
 some (rv.2 == 0)
def zad (sv : Str) (i : Int) : Option (Int ⊕ (Unit ⊕ Unit)) :=
 if (decide (i < (sv.length : Int))) then (
  idx sv i >>= fun c =>
  if (!(if (decide ((c.toNat : Int) ≥ 65)) then ((decide ((c.toNat : Int) ≤ 90)) || (if (decide ((c.toNat : Int) ≥ 97)) then ((decide ((c.toNat : Int) ≤ 122)) || (((c.toNat : Int) == 95) || ((decide (i > 0)) && ((decide ((c.toNat : Int) ≥ 48)) && (decide ((c.toNat : Int) ≤ 57)))))) else (((c.toNat : Int) == 95) || ((decide (i > 0)) && ((decide ((c.toNat : Int) ≥ 48)) && (decide ((c.toNat : Int) ≤ 57))))))) else (if (decide ((c.toNat : Int) ≥ 97)) then ((decide ((c.toNat : Int) ≤ 122)) || (((c.toNat : Int) == 95) || ((decide (i > 0)) && ((decide ((c.toNat : Int) ≥ 48)) && (decide ((c.toNat : Int) ≤ 57)))))) else (((c.toNat : Int) == 95) || ((decide (i > 0)) && ((decide ((c.toNat : Int) ≥ 48)) && (decide ((c.toNat : Int) ≤ 57)))))))) then (
   some (.inr (.inr ()))
  ) else (
   some (.inl (IntKind.i64.wrap (i + 1)))
  )
 ) else (
  some (.inr (.inl ()))
 )
def zbm (sv : Str) (i : Int) : Option (Unit ⊕ Unit) := zaI (fun s : Int => zad sv s) i
def zbO (sv : Str) : Option Bool :=
 zbm sv 0 >>= fun q =>
 match q with
 | .inl u => (
  some ((decide ((sv.length : Int) ≥ 1)) && (decide ((sv.length : Int) ≤ 60)))
 )
 | .inr u2 => (
  some false
 )
theorem zgl {sv : Str} {i : Int} {i' : Int} (h : zad sv i = some (.inl i')) : zbm sv i = zbm sv i' := zaa (body := fun s : Int => zad sv s) h
theorem zdN {sv : Str} {i : Int} {oo_ : (Unit ⊕ Unit)} (h : zad sv i = some (.inr oo_)) : zbm sv i = some oo_ := zab (body := fun s : Int => zad sv s) h
def zai (i : Int) (k : Int) (sv : (List zh)) (x2 : zc) (name : Bool) (number : Bool) (j : Int) : Option ((Bool × Bool × Int) ⊕ (Bool × Bool)) :=
 if (decide (j < k)) then (
  (
   if name then (
    some true
   ) else (
    idx sv i >>= fun x3 =>
    idx x3.Fields j >>= fun x4 =>
    some (x4.Name == x2.Name)
   )
  ) >>= fun g =>
  (
   if number then (
    some true
   ) else (
    idx sv i >>= fun x5 =>
    idx x5.Fields j >>= fun x6 =>
    some (x6.Number == x2.Number)
   )
  ) >>= fun g2 =>
  some (.inl (g, g2, (IntKind.i64.wrap (j + 1))))
 ) else (
  some (.inr (name, number))
 )
def zbd (i : Int) (k : Int) (sv : (List zh)) (x2 : zc) (name : Bool) (number : Bool) (j : Int) : Option (Bool × Bool) := zaI (fun s : (Bool × Bool × Int) => zai i k sv x2 s.1 s.2.1 s.2.2) (name, number, j)
def zcc (sv : (List zh)) (i : Int) (k : Int) : Option Int :=
 idx sv i >>= fun x =>
 idx x.Fields k >>= fun x2 =>
 zbd i k sv x2 false false 0 >>= fun q =>
 zbO x2.Name >>= fun rv =>
 if (!rv) then (
  some 5
 ) else (
  if q.1 then (
   some 6
  ) else (
   if ((decide (x2.Number < 1)) || ((decide (x2.Number > 536870911)) || ((decide (x2.Number ≥ 19000)) && (decide (x2.Number < 20000))))) then (
    some 7
   ) else (
    if q.2 then (
     some 8
    ) else (
     zbC x2.Kind >>= fun rv2 =>
     if (!rv2) then (
      some 9
     ) else (
      (
       if x2.Packed then (
        if x2.Repeated then (
         zaL x2.Kind >>= fun rv3 =>
         some (!rv3)
        ) else (
         some (!false)
        )
       ) else (
        some false
       )
      ) >>= fun g3 =>
      if g3 then (
       some 10
      ) else (
       if (if (x2.Kind == 17) then ((decide (x2.Of < 0)) || ((decide (x2.Of ≥ (sv.length : Int))) || ((x2.Kind != 17) && (x2.Of != 0)))) else ((x2.Kind != 17) && (x2.Of != 0))) then (
        some 11
       ) else (
        some 0
       )
      )
     )
    )
   )
  )
 )
theorem zfS {i : Int} {k : Int} {sv : (List zh)} {x2 : zc} {name : Bool} {number : Bool} {j : Int} {name' : Bool} {number' : Bool} {j' : Int} (h : zai i k sv x2 name number j = some (.inl (name', number', j'))) : zbd i k sv x2 name number j = zbd i k sv x2 name' number' j' := zaa (body := fun s : (Bool × Bool × Int) => zai i k sv x2 s.1 s.2.1 s.2.2) h
theorem zfT {i : Int} {k : Int} {sv : (List zh)} {x2 : zc} {name : Bool} {number : Bool} {j : Int} {oo_ : (Bool × Bool)} (h : zai i k sv x2 name number j = some (.inr oo_)) : zbd i k sv x2 name number j = some oo_ := zab (body := fun s : (Bool × Bool × Int) => zai i k sv x2 s.1 s.2.1 s.2.2) h
def zah (i : Int) (sv : (List zh)) (twice : Bool) (k : Int) : Option ((Bool × Int) ⊕ Bool) :=
 if (decide (k < i)) then (
  (
   if twice then (
    some true
   ) else (
    idx sv k >>= fun x =>
    idx sv i >>= fun x2 =>
    some (x.Name == x2.Name)
   )
  ) >>= fun g =>
  some (.inl (g, (IntKind.i64.wrap (k + 1))))
 ) else (
  some (.inr twice)
 )
def zbb (i : Int) (sv : (List zh)) (twice : Bool) (k : Int) : Option Bool := zaI (fun s : (Bool × Int) => zah i sv s.1 s.2) (twice, k)
def zX (i : Int) (sv : (List zh)) (k2 : Int) : Option (Int ⊕ (Unit ⊕ (Int × Int))) :=
 idx sv i >>= fun x5 =>
 if (decide (k2 < (x5.Fields.length : Int))) then (
  zcc sv i k2 >>= fun rv2 =>
  if (decide (rv2 > 0)) then (
   some (.inr (.inr (k2, rv2)))
  ) else (
   some (.inl (IntKind.i64.wrap (k2 + 1)))
  )
 ) else (
  some (.inr (.inl ()))
 )
def zbc (i : Int) (sv : (List zh)) (k2 : Int) : Option (Unit ⊕ (Int × Int)) := zaI (fun s : Int => zX i sv s) k2
def zW (sv : (List zh)) (i : Int) : Option (Int ⊕ (Unit ⊕ (Int × Int × Int))) :=
 if (decide (i < (sv.length : Int))) then (
  zbb i sv false 0 >>= fun q =>
  idx sv i >>= fun x3 =>
  zbO x3.Name >>= fun rv =>
  if (!rv) then (
   some (.inr (.inr (i, (-1), 2)))
  ) else (
   if q then (
    some (.inr (.inr (i, (-1), 3)))
   ) else (
    idx sv i >>= fun x4 =>
    if (decide ((x4.Fields.length : Int) > 200)) then (
     some (.inr (.inr (i, (-1), 4)))
    ) else (
     zbc i sv 0 >>= fun q2 =>
     match q2 with
     | .inl u => (
      some (.inl (IntKind.i64.wrap (i + 1)))
     )
     | .inr u2 => (
      some (.inr (.inr (i, u2.1, u2.2)))
     )
    )
   )
  )
 ) else (
  some (.inr (.inl ()))
 )
def zba (sv : (List zh)) (i : Int) : Option (Unit ⊕ (Int × Int × Int)) := zaI (fun s : Int => zW sv s) i
def zcb (sv : (List zh)) : Option (Int × Int × Int) :=
 if (((sv.length : Int) == 0) || (decide ((sv.length : Int) > 100))) then (
  some ((-1), (-1), 1)
 ) else (
  zba sv 0 >>= fun q3 =>
  match q3 with
  | .inl u3 => (
   some (0, 0, 0)
  )
  | .inr u4 => (
   some (u4.1, u4.2.1, u4.2.2)
  )
 )
theorem zfP {i : Int} {sv : (List zh)} {twice : Bool} {k : Int} {twice' : Bool} {k' : Int} (h : zah i sv twice k = some (.inl (twice', k'))) : zbb i sv twice k = zbb i sv twice' k' := zaa (body := fun s : (Bool × Int) => zah i sv s.1 s.2) h
theorem zfQ {i : Int} {sv : (List zh)} {twice : Bool} {k : Int} {oo_ : Bool} (h : zah i sv twice k = some (.inr oo_)) : zbb i sv twice k = some oo_ := zab (body := fun s : (Bool × Int) => zah i sv s.1 s.2) h
theorem zfR {i : Int} {sv : (List zh)} {k2 : Int} {k2' : Int} (h : zX i sv k2 = some (.inl k2')) : zbc i sv k2 = zbc i sv k2' := zaa (body := fun s : Int => zX i sv s) h
theorem zdD {i : Int} {sv : (List zh)} {k2 : Int} {oo_ : (Unit ⊕ (Int × Int))} (h : zX i sv k2 = some (.inr oo_)) : zbc i sv k2 = some oo_ := zab (body := fun s : Int => zX i sv s) h
theorem zfO {sv : (List zh)} {i : Int} {i' : Int} (h : zW sv i = some (.inl i')) : zba sv i = zba sv i' := zaa (body := fun s : Int => zW sv s) h
theorem zaU {sv : (List zh)} {i : Int} {oo_ : (Unit ⊕ (Int × Int × Int))} (h : zW sv i = some (.inr oo_)) : zba sv i = some oo_ := zab (body := fun s : Int => zW sv s) h
def zY (m : zh) (number : Int) (i : Int) : Option (Int ⊕ (Unit ⊕ Int)) :=
 if (decide (i < (m.Fields.length : Int))) then (
  idx m.Fields i >>= fun x =>
  if (x.Number == number) then (
   some (.inr (.inr i))
  ) else (
   some (.inl (IntKind.i64.wrap (i + 1)))
  )
 ) else (
  some (.inr (.inl ()))
 )
def zbe (m : zh) (number : Int) (i : Int) : Option (Unit ⊕ Int) := zaI (fun s : Int => zY m number s) i
def zcd (m : zh) (number : Int) : Option Int :=
 zbe m number 0 >>= fun q =>
 match q with
 | .inl u => (
  some (-1)
 )
 | .inr u2 => (
  some u2
 )
theorem zfU {m : zh} {number : Int} {i : Int} {i' : Int} (h : zY m number i = some (.inl i')) : zbe m number i = zbe m number i' := zaa (body := fun s : Int => zY m number s) h
theorem zdE {m : zh} {number : Int} {i : Int} {oo_ : (Unit ⊕ Int)} (h : zY m number i = some (.inr oo_)) : zbe m number i = some oo_ := zab (body := fun s : Int => zY m number s) h
def zce (sv : (List zh)) : Option Bool :=
 zcb sv >>= fun rv =>
 some (rv.2.2 == 0)
end
end Go.Proofs.YtnfembipjdohcaaGreat
namespace Go.Proofs.YtnfembipjdohcaaGreat
open Go
set_option linter.unusedVariables false
noncomputable section
def zel (k : Int) : Option (Int × Int) :=
 ((
  if (k == 1) then (
   some (k == 1)
  ) else (
   if (k == 2) then (
    some (k == 2)
   ) else (
    if (k == 3) then (
     some (k == 3)
    ) else (
     if (k == 4) then (
      some (k == 4)
     ) else (
      if (k == 5) then (
       some (k == 5)
      ) else (
       if (k == 6) then (
        some (k == 6)
       ) else (
        if (k == 7) then (
         some (k == 7)
        ) else (
         some (k == 8)
        )
       )
      )
     )
    )
   )
  )
  : Option Bool)) >>= fun p =>
 if p then (
  some (0, 0)
 ) else (
  ((
   if (k == 9) then (
    some (k == 9)
   ) else (
    if (k == 10) then (
     some (k == 10)
    ) else (
     some (k == 11)
    )
   )
   : Option Bool)) >>= fun p2 =>
  if p2 then (
   some (4, 0)
  ) else (
   if (k == 12) then (
    if (k == 12) then (
     some (8, 0)
    ) else (
     some (0, 2)
    )
   ) else (
    if (k == 13) then (
     if (k == 13) then (
      some (8, 0)
     ) else (
      some (0, 2)
     )
    ) else (
     if (k == 14) then (
      some (8, 0)
     ) else (
      some (0, 2)
     )
    )
   )
  )
 )
def zeV (k : Int) (wv : Int) : Option Int :=
 zel k >>= fun rv =>
 if ((rv.2 != 0) || (rv.1 != 0)) then (
  some rv.1
 ) else (
  zfA k wv >>= fun rv2 =>
  zhS rv2.1 >>= fun rv3 =>
  some rv3
 )
end
end Go.Proofs.YtnfembipjdohcaaGreat
namespace Go.Proofs.YtnfembipjdohcaaGreat
open Go
set_option linter.unusedVariables false
noncomputable section
def zgP (k : Int) : Option Int :=
 zeV k 0 >>= fun rv =>
 some rv
def zgO (wide : Int) (b : (List UInt8)) : Option (Int × Int) :=
 if (wide == 1) then (
  zeh b >>= fun rv =>
  some (rv.1, rv.2)
 ) else (
  if (decide (wide > (b.length : Int))) then (
   some (0, 3)
  ) else (
   some (wide, 0)
  )
 )
def zaA {σ : Type} (kf : (Rnd σ ((List UInt8) × Int))) (rv : Int) (rest : (List UInt8)) (sg2 : σ) : Option (((List UInt8) × σ) ⊕ (σ ⊕ σ)) :=
 if (decide ((rest.length : Int) > 0)) then (
  zgO rv rest >>= fun rv2 =>
  cut rest 0 rv2.1 >>= fun v3 =>
  kf sg2 (v3, rv2.2) >>= fun y2 =>
  if ((!y2.1) || (rv2.2 != 0)) then (
   some (.inr (.inr y2.2))
  ) else (
   cut rest rv2.1 (rest.length : Int) >>= fun v5 =>
   some (.inl (v5, y2.2))
  )
 ) else (
  some (.inr (.inl sg2))
 )
def zcq {σ : Type} (kf : (Rnd σ ((List UInt8) × Int))) (rv : Int) (rest : (List UInt8)) (sg2 : σ) : Option (σ ⊕ σ) := zaI (fun s : ((List UInt8) × σ) => zaA kf rv s.1 s.2) (rest, sg2)
def zcW {σ : Type} (v : Int) (v2 : (List UInt8)) (kf : Rnd σ ((List UInt8) × Int)) (sg : σ) : Option σ :=
 zgP v >>= fun rv =>
 if (rv == 0) then (
  kf sg (([] : (List UInt8)), 2) >>= fun y =>
  some y.2
 ) else (
  zcq kf rv v2 sg >>= fun q =>
  match q with
  | .inl u => (
   some u
  )
  | .inr u2 => (
   some u2
  )
 )
theorem ziQ {σ : Type} {kf : (Rnd σ ((List UInt8) × Int))} {rv : Int} {rest : (List UInt8)} {sg2 : σ} {rest' : (List UInt8)} {sg2' : σ} (h : zaA kf rv rest sg2 = some (.inl (rest', sg2'))) : zcq kf rv rest sg2 = zcq kf rv rest' sg2' := zaa (body := fun s : ((List UInt8) × σ) => zaA kf rv s.1 s.2) h
theorem zdK {σ : Type} {kf : (Rnd σ ((List UInt8) × Int))} {rv : Int} {rest : (List UInt8)} {sg2 : σ} {oo_ : (σ ⊕ σ)} (h : zaA kf rv rest sg2 = some (.inr oo_)) : zcq kf rv rest sg2 = some oo_ := zab (body := fun s : ((List UInt8) × σ) => zaA kf rv s.1 s.2) h
def zhs (k : Int) (b : (List UInt8)) : Option (Int × (List UInt8)) :=
 some (k, b)
def zV (b : (List UInt8)) (k : Int) (out : (List Int)) (atv : Int) : Option (((List Int) × Int) ⊕ ((List Int) ⊕ Int)) :=
 if (decide (atv < (b.length : Int))) then (
  ((
   if (decide (k < 12)) then (
    some 4
   ) else (
    some 8
   )
   : Option Int)) >>= fun p =>
  ((
   if (decide (k < 9)) then (
    zaV b atv >>= fun rv2 =>
    if (rv2.2.2 != 0) then (
     some (.inr rv2.2.2)
    ) else (
     some (.inl rv2.2.1)
    )
   ) else (
    some (.inl p)
   )
   : Option (Int ⊕ Int))) >>= fun p2 =>
  match p2 with
  | .inl u => (
   if (decide ((IntKind.i64.wrap (atv + u)) > (b.length : Int))) then (
    some (.inr (.inr 3))
   ) else (
    app 8 out ([(IntKind.i64.wrap (atv + u))] : (List Int)) >>= fun v3 =>
    some (.inl (v3, (IntKind.i64.wrap (atv + u))))
   )
  )
  | .inr u2 => (
   some (.inr (.inr u2))
  )
 ) else (
  some (.inr (.inl out))
 )
def zaQ (b : (List UInt8)) (k : Int) (out : (List Int)) (atv : Int) : Option ((List Int) ⊕ Int) := zaI (fun s : ((List Int) × Int) => zV b k s.1 s.2) (out, atv)
def zcw (k : Int) (b : (List UInt8)) : Option ((List Int) × Int) :=
 zaL k >>= fun rv =>
 if (!rv) then (
  some ([], 2)
 ) else (
  zaQ b k [] 0 >>= fun q =>
  match q with
  | .inl u3 => (
   some (u3, 0)
  )
  | .inr u4 => (
   some ([], u4)
  )
 )
theorem zgm {b : (List UInt8)} {k : Int} {out : (List Int)} {atv : Int} {out' : (List Int)} {atv' : Int} (h : zV b k out atv = some (.inl (out', atv'))) : zaQ b k out atv = zaQ b k out' atv' := zaa (body := fun s : ((List Int) × Int) => zV b k s.1 s.2) h
theorem zdO {b : (List UInt8)} {k : Int} {out : (List Int)} {atv : Int} {oo_ : ((List Int) ⊕ Int)} (h : zV b k out atv = some (.inr oo_)) : zaQ b k out atv = some oo_ := zab (body := fun s : ((List Int) × Int) => zV b k s.1 s.2) h
def zcA  (f : Int) (x : (List UInt8)) (x2 : Int) : Option (Int ⊕ (Int × Int)) :=
 if (x2 != 0) then (
  some (.inr (x2, f))
 ) else (
  some (.inl (IntKind.i64.wrap (f + 1)))
 )
def zgN (k : Int) (b : (List UInt8)) : Option (Int × Int) :=
 zhs k b >>= fun rv =>
 zcW rv.1 rv.2 (rnd (fun (s : Int) (x : ((List UInt8) × Int)) => zcA s x.1 x.2)) (.inl 0) >>= fun q =>
 match q with
 | .inl u => (
  some (u, 0)
 )
 | .inr j => (
  some (0, j.1)
 )
end
end Go.Proofs.YtnfembipjdohcaaGreat
namespace Go.Proofs.YtnfembipjdohcaaGreat
open Go
set_option linter.unusedVariables false
noncomputable section
def zeo (f : zc) (v : Int) : Option Bool :=
 some (f.Number == v)
def zw (sv : (List zc)) (v : Int) (v2 : Int) : Option (Int ⊕ (Unit ⊕ Int)) :=
 if (decide (v2 < (sv.length : Int))) then (
  idx sv v2 >>= fun x =>
  zeo x v >>= fun rv =>
  if rv then (
   some (.inr (.inr v2))
  ) else (
   some (.inl (IntKind.i64.wrap (v2 + 1)))
  )
 ) else (
  some (.inr (.inl ()))
 )
def zB (sv : (List zc)) (v : Int) (v2 : Int) : Option (Unit ⊕ Int) := zaI (fun s : Int => zw sv v s) v2
def zQ (sv : (List zc)) (v : Int) : Option Int :=
 zB sv v 0 >>= fun q =>
 match q with
 | .inl u => (
  some (-1)
 )
 | .inr u2 => (
  some u2
 )
theorem zbz {sv : (List zc)} {v : Int} {v2 : Int} {v2' : Int} (h : zw sv v v2 = some (.inl v2')) : zB sv v v2 = zB sv v v2' := zaa (body := fun s : Int => zw sv v s) h
theorem zay {sv : (List zc)} {v : Int} {v2 : Int} {oo_ : (Unit ⊕ Int)} (h : zw sv v v2 = some (.inr oo_)) : zB sv v v2 = some oo_ := zab (body := fun s : Int => zw sv v s) h
def zfK (m : zh) (number : Int) : Option Int :=
 zQ m.Fields number >>= fun rv =>
 some rv
def zfL (f : zc) (wire : Int) : Option Bool :=
 (
  if f.Repeated then (
   if (wire == 2) then (
    zec f.Kind >>= fun rv =>
    some rv
   ) else (
    some false
   )
  ) else (
   some false
  )
 ) >>= fun g =>
 some g
def zha (k : Int) (wire : Int) : Option Bool :=
 zfs k >>= fun rv =>
 some ((rv.2 == 0) && (rv.1 == wire))
def zei (m : zh) (hv : zD) : Option zJ :=
 zfK m hv.number >>= fun rv =>
 if (rv == (-1)) then (
  some (⟨(-1), false, 0⟩ : zJ)
 ) else (
  idx m.Fields rv >>= fun x =>
  zfL x hv.wire >>= fun rv2 =>
  (
   if (!rv2) then (
    zha x.Kind hv.wire >>= fun rv3 =>
    some (!rv3)
   ) else (
    some false
   )
  ) >>= fun g =>
  if g then (
   some (⟨0, false, 6⟩ : zJ)
  ) else (
   some (⟨rv, rv2, 0⟩ : zJ)
  )
 )
def zhb (m : zh) (b : (List UInt8)) (fromv : Int) (met : (List (zD × zJ))) : Option (zb × Int × (List (zD × zJ))) :=
 zed b fromv >>= fun rv =>
 if (rv.2 != 0) then (
  some ((⟨(⟨0, 0, 0, 0, 0⟩ : zj), 0, false⟩ : zb), rv.2, met)
 ) else (
  ((
   if (!(mget met (⟨rv.1.Number, rv.1.Wire⟩ : zD)).isSome) then (
    zei m (⟨rv.1.Number, rv.1.Wire⟩ : zD) >>= fun rv2 =>
    some ((mput met (⟨rv.1.Number, rv.1.Wire⟩ : zD) rv2), rv2.field, rv2.run, rv2.e)
   ) else (
    some (met, ((mget met (⟨rv.1.Number, rv.1.Wire⟩ : zD)).getD (⟨0, false, 0⟩ : zJ)).field, ((mget met (⟨rv.1.Number, rv.1.Wire⟩ : zD)).getD (⟨0, false, 0⟩ : zJ)).run, ((mget met (⟨rv.1.Number, rv.1.Wire⟩ : zD)).getD (⟨0, false, 0⟩ : zJ)).e)
   )
   : Option ((List (zD × zJ)) × Int × Bool × Int))) >>= fun p =>
  if (p.2.2.2 != 0) then (
   some ((⟨(⟨0, 0, 0, 0, 0⟩ : zj), 0, false⟩ : zb), p.2.2.2, p.1)
  ) else (
   some ((⟨rv.1, p.2.1, p.2.2.1⟩ : zb), 0, p.1)
  )
 )
def zgZ (m : zh) (b : (List UInt8)) (fromv : Int) : Option (zb × Int) :=
 zhb m b fromv ([] : (List (zD × zJ))) >>= fun rv2 =>
 some (rv2.1, rv2.2.1)
def zcx (m : zh) (b : (List UInt8)) (fromv : Int) : Option (zaF × Int) :=
 zbN b fromv >>= fun rv =>
 if (rv.2 != 0) then (
  some ((⟨(⟨0, 0, 0, 0, 0⟩ : zj), 0, false⟩ : zaF), rv.2)
 ) else (
  zcd m rv.1.Number >>= fun rv2 =>
  if (decide (rv2 < 0)) then (
   some ((⟨rv.1, (-1), false⟩ : zaF), 0)
  ) else (
   idx m.Fields rv2 >>= fun x =>
   (
    if x.Repeated then (
     zaL x.Kind >>= fun rv3 =>
     if rv3 then (
      some (rv.1.Wire == 2)
     ) else (
      some false
     )
    ) else (
     some false
    )
   ) >>= fun g =>
   if g then (
    some ((⟨rv.1, rv2, true⟩ : zaF), 0)
   ) else (
    (
     zbC x.Kind >>= fun rv4 =>
     if (!rv4) then (
      some true
     ) else (
      zcv x.Kind >>= fun rv5 =>
      some (rv5 != rv.1.Wire)
     )
    ) >>= fun g2 =>
    if g2 then (
     some ((⟨(⟨0, 0, 0, 0, 0⟩ : zj), 0, false⟩ : zaF), 6)
    ) else (
     some ((⟨rv.1, rv2, false⟩ : zaF), 0)
    )
   )
  )
 )
end
end Go.Proofs.YtnfembipjdohcaaGreat
namespace Go.Proofs.YtnfembipjdohcaaGreat
open Go
set_option linter.unusedVariables false
noncomputable section
def zdd (wv : zN) (message : Int) (fromv : Int) (tov : Int) : Option (zb × Int × (List (zg × zb))) :=
 cut wv.b 0 tov >>= fun v =>
 zed v fromv >>= fun rv =>
 if (rv.2 != 0) then (
  some ((⟨(⟨0, 0, 0, 0, 0⟩ : zj), 0, false⟩ : zb), rv.2, wv.met)
 ) else (
  if (!(mget wv.met (⟨message, rv.1.Number, rv.1.Wire⟩ : zg)).isSome) then (
   idx wv.s message >>= fun x =>
   zgZ x v fromv >>= fun rv2 =>
   if (rv2.2 != 0) then (
    some ((⟨(⟨0, 0, 0, 0, 0⟩ : zj), 0, false⟩ : zb), rv2.2, wv.met)
   ) else (
    some ((⟨rv.1, rv2.1.Field, rv2.1.Run⟩ : zb), 0, (mput wv.met (⟨message, rv.1.Number, rv.1.Wire⟩ : zg) rv2.1))
   )
  ) else (
   some ((⟨rv.1, (((mget wv.met (⟨message, rv.1.Number, rv.1.Wire⟩ : zg)).getD (⟨(⟨0, 0, 0, 0, 0⟩ : zj), 0, false⟩ : zb)).Field), (((mget wv.met (⟨message, rv.1.Number, rv.1.Wire⟩ : zg)).getD (⟨(⟨0, 0, 0, 0, 0⟩ : zj), 0, false⟩ : zb)).Run)⟩ : zb), 0, wv.met)
  )
 )
def zeZ (f : zc) (isRun : Bool) (value : (List UInt8)) : Option Int :=
 if isRun then (
  zgN f.Kind value >>= fun rv =>
  some rv.2
 ) else (
  (
   if (f.Kind == 15) then (
    zfv value >>= fun rv2 =>
    some (!rv2)
   ) else (
    some false
   )
  ) >>= fun g =>
  if g then (
   some 7
  ) else (
   if (f.Kind == 17) then (
    some 8
   ) else (
    some 0
   )
  )
 )
def zO (d : Int) (message : Int) (rec_valid_walk_value : zN → Int → zb → Int → Option (zt × (List (zg × zb)))) (tov : Int) (wv : zN) (wv2 : (List (zg × zb))) (fromv2 : Int) (depth : Int) : Option (((List (zg × zb)) × Int × Int) ⊕ (((List (zg × zb)) × Int) ⊕ ((List (zg × zb)) × Int × Int × Int))) :=
 if (decide (fromv2 < tov)) then (
  zdd (⟨wv.s, wv.b, wv2⟩ : zN) message fromv2 tov >>= fun rv2 =>
  if (rv2.2.1 != 0) then (
   some (.inr (.inr (rv2.2.2, 0, fromv2, rv2.2.1)))
  ) else (
   rec_valid_walk_value (⟨wv.s, wv.b, rv2.2.2⟩ : zN) message rv2.1 d >>= fun rv4 =>
   if (rv4.1.e != 0) then (
    some (.inr (.inr (rv4.2, rv4.1.depth, rv4.1.place, rv4.1.e)))
   ) else (
    some (.inl (rv4.2, rv2.1.Record.To, (if depth < rv4.1.depth then rv4.1.depth else depth)))
   )
  )
 ) else (
  some (.inr (.inl (wv2, depth)))
 )
def zaO (d : Int) (message : Int) (rec_valid_walk_value : zN → Int → zb → Int → Option (zt × (List (zg × zb)))) (tov : Int) (wv : zN) (wv2 : (List (zg × zb))) (fromv2 : Int) (depth : Int) : Option (((List (zg × zb)) × Int) ⊕ ((List (zg × zb)) × Int × Int × Int)) := zaI (fun s : ((List (zg × zb)) × Int × Int) => zO d message rec_valid_walk_value tov wv s.1 s.2.1 s.2.2) (wv2, fromv2, depth)
def zbM (rec_valid_walk_message : zN → Int → Int → Int → Int → Option (zt × (List (zg × zb)))) (rec_valid_walk_value : zN → Int → zb → Int → Option (zt × (List (zg × zb)))) (wv : zN) (message : Int) (fromv : Int) (tov : Int) (d : Int) : Option (zt × (List (zg × zb))) :=
 zaO d message rec_valid_walk_value tov wv wv.met fromv 0 >>= fun q =>
 match q with
 | .inl u => (
  some ((⟨u.2, 0, 0⟩ : zt), u.1)
 )
 | .inr u2 => (
  some ((⟨u2.2.1, u2.2.2.1, u2.2.2.2⟩ : zt), u2.1)
 )
def zbE (rec_valid_walk_message : zN → Int → Int → Int → Int → Option (zt × (List (zg × zb)))) (rec_valid_walk_value : zN → Int → zb → Int → Option (zt × (List (zg × zb)))) (wv : zN) (message : Int) (v : zb) (d : Int) : Option (zt × (List (zg × zb))) :=
 if (v.Field == (-1)) then (
  some ((⟨0, 0, 0⟩ : zt), wv.met)
 ) else (
  idx wv.s message >>= fun x =>
  idx x.Fields v.Field >>= fun x2 =>
  if ((x2.Kind == 17) && (decide (d > 0))) then (
   rec_valid_walk_message wv x2.Of v.Record.At v.Record.To (IntKind.i64.wrap (d - 1)) >>= fun rv2 =>
   some ((⟨(IntKind.i64.wrap (rv2.1.depth + 1)), rv2.1.place, rv2.1.e⟩ : zt), rv2.2)
  ) else (
   cut wv.b v.Record.At v.Record.To >>= fun v3 =>
   zeZ x2 v.Run v3 >>= fun rv3 =>
   if (rv3 != 0) then (
    some ((⟨0, v.Record.From, rv3⟩ : zt), wv.met)
   ) else (
    some ((⟨0, 0, 0⟩ : zt), wv.met)
   )
  )
 )
def zP : Nat → (zN → Int → Int → Int → Int → Option (zt × (List (zg × zb)))) × (zN → Int → zb → Int → Option (zt × (List (zg × zb))))
  | 0 => (fun _ _ _ _ _ => none, fun _ _ _ _ => none)
  | fuel + 1 => (fun wv message fromv tov d => zbM (zP fuel).1 (zP fuel).2 wv message fromv tov d, fun wv message v d => zbE (zP fuel).1 (zP fuel).2 wv message v d)
def zaq (fuel : Nat) : zN → Int → Int → Int → Int → Option (zt × (List (zg × zb))) := (zP fuel).1
def zbD (fuel : Nat) : zN → Int → zb → Int → Option (zt × (List (zg × zb))) := (zP fuel).2
theorem zfX {d : Int} {message : Int} {rec_valid_walk_value : zN → Int → zb → Int → Option (zt × (List (zg × zb)))} {tov : Int} {wv : zN} {wv2 : (List (zg × zb))} {fromv2 : Int} {depth : Int} {wv2' : (List (zg × zb))} {fromv2' : Int} {depth' : Int} (h : zO d message rec_valid_walk_value tov wv wv2 fromv2 depth = some (.inl (wv2', fromv2', depth'))) : zaO d message rec_valid_walk_value tov wv wv2 fromv2 depth = zaO d message rec_valid_walk_value tov wv wv2' fromv2' depth' := zaa (body := fun s : ((List (zg × zb)) × Int × Int) => zO d message rec_valid_walk_value tov wv s.1 s.2.1 s.2.2) h
theorem zbA {d : Int} {message : Int} {rec_valid_walk_value : zN → Int → zb → Int → Option (zt × (List (zg × zb)))} {tov : Int} {wv : zN} {wv2 : (List (zg × zb))} {fromv2 : Int} {depth : Int} {oo_ : (((List (zg × zb)) × Int) ⊕ ((List (zg × zb)) × Int × Int × Int))} (h : zO d message rec_valid_walk_value tov wv wv2 fromv2 depth = some (.inr oo_)) : zaO d message rec_valid_walk_value tov wv wv2 fromv2 depth = some oo_ := zab (body := fun s : ((List (zg × zb)) × Int × Int) => zO d message rec_valid_walk_value tov wv s.1 s.2.1 s.2.2) h
def zeH (sv : (List zh)) (root : Int) (d : Int) : Option Int :=
 zen sv >>= fun rv =>
 if (!rv) then (
  some 9
 ) else (
  if ((decide (root < 0)) || ((decide (root ≥ (sv.length : Int))) || ((decide (d < 0)) || (decide (d > 64))))) then (
   some 2
  ) else (
   some 0
  )
 )
def zeI (fuel : Nat) (sv : (List zh)) (root : Int) (b : (List UInt8)) (d : Int) : Option zt :=
 zeH sv root d >>= fun rv =>
 if (rv != 0) then (
  some (⟨0, 0, rv⟩ : zt)
 ) else (
  zaq fuel (⟨sv, b, ([] : (List (zg × zb)))⟩ : zN) root 0 (b.length : Int) d >>= fun rv3 =>
  some rv3.1
 )
def zeg (fuel : Nat) (sv : (List zh)) (root : Int) (b : (List UInt8)) (d : Int) : Option (Int × Int) :=
 zeI fuel sv root b d >>= fun rv =>
 some (rv.place, rv.e)
def zfI (fuel : Nat) (sv : (List zh)) (root : Int) (b : (List UInt8)) (d : Int) : Option Bool :=
 zeg fuel sv root b d >>= fun rv =>
 some (rv.2 == 0)
def zbB (fuel : Nat)  : Option Bool :=
 (
  zfI fuel ([(⟨[109], ([(⟨[97], 1, 17, false, false, 0⟩ : zc)] : (List zc))⟩ : zh)] : (List zh)) 0 ([(10 : UInt8), (2 : UInt8), (10 : UInt8), (0 : UInt8)] : List UInt8) 2 >>= fun rv =>
  if rv then (
   zfI fuel ([(⟨[109], ([(⟨[97], 1, 17, false, false, 0⟩ : zc)] : (List zc))⟩ : zh)] : (List zh)) 0 ([(10 : UInt8), (2 : UInt8), (10 : UInt8), (0 : UInt8)] : List UInt8) 1 >>= fun rv2 =>
   some (!rv2)
  ) else (
   some false
  )
 ) >>= fun g =>
 some g
def zbP (sv : (List zh)) (root : Int) (d : Int) : Option Int :=
 zce sv >>= fun rv =>
 if (!rv) then (
  some 9
 ) else (
  if ((decide (root < 0)) || ((decide (root ≥ (sv.length : Int))) || ((decide (d < 0)) || (decide (d > 64))))) then (
   some 2
  ) else (
   some 0
  )
 )
def zT (b : (List UInt8)) (d : Int) (m : Int) (rec_darningref11_First : (List zh) → Int → (List UInt8) → Int → Option (Int × Int)) (sv : (List zh)) (atv : Int) : Option (Int ⊕ (Unit ⊕ (Int × Int))) :=
 if (decide (atv < (b.length : Int))) then (
  idx sv m >>= fun x =>
  zcx x b atv >>= fun rv =>
  if (rv.2 != 0) then (
   some (.inr (.inr (atv, rv.2)))
  ) else (
   cut b rv.1.R.At rv.1.R.To >>= fun v3 =>
   if (decide (rv.1.Field ≥ 0)) then (
    idx sv m >>= fun x2 =>
    idx x2.Fields rv.1.Field >>= fun x3 =>
    if rv.1.Run then (
     zcw x3.Kind v3 >>= fun rv2 =>
     if (rv2.2 != 0) then (
      some (.inr (.inr (atv, rv2.2)))
     ) else (
      some (.inl rv.1.R.To)
     )
    ) else (
     (
      if (x3.Kind == 15) then (
       zbh v3 >>= fun rv3 =>
       some (!rv3)
      ) else (
       some false
      )
     ) >>= fun g =>
     if g then (
      some (.inr (.inr (atv, 7)))
     ) else (
      if (x3.Kind == 17) then (
       if (d == 0) then (
        some (.inr (.inr (atv, 8)))
       ) else (
        rec_darningref11_First sv x3.Of v3 (IntKind.i64.wrap (d - 1)) >>= fun rv4 =>
        if (rv4.2 != 0) then (
         some (.inr (.inr ((IntKind.i64.wrap (rv.1.R.At + rv4.1)), rv4.2)))
        ) else (
         some (.inl rv.1.R.To)
        )
       )
      ) else (
       some (.inl rv.1.R.To)
      )
     )
    )
   ) else (
    some (.inl rv.1.R.To)
   )
  )
 ) else (
  some (.inr (.inl ()))
 )
def zaz (b : (List UInt8)) (d : Int) (m : Int) (rec_darningref11_First : (List zh) → Int → (List UInt8) → Int → Option (Int × Int)) (sv : (List zh)) (atv : Int) : Option (Unit ⊕ (Int × Int)) := zaI (fun s : Int => zT b d m rec_darningref11_First sv s) atv
def zaR (rec_darningref11_First : (List zh) → Int → (List UInt8) → Int → Option (Int × Int)) (sv : (List zh)) (m : Int) (b : (List UInt8)) (d : Int) : Option (Int × Int) :=
 zaz b d m rec_darningref11_First sv 0 >>= fun q =>
 match q with
 | .inl u => (
  some (0, 0)
 )
 | .inr u2 => (
  some (u2.1, u2.2)
 )
def zax : Nat → (List zh) → Int → (List UInt8) → Int → Option (Int × Int)
  | 0, _, _, _, _ => none
  | fuel + 1, sv, m, b, d => zaR (zax fuel) sv m b d
theorem zfW {b : (List UInt8)} {d : Int} {m : Int} {rec_darningref11_First : (List zh) → Int → (List UInt8) → Int → Option (Int × Int)} {sv : (List zh)} {atv : Int} {atv' : Int} (h : zT b d m rec_darningref11_First sv atv = some (.inl atv')) : zaz b d m rec_darningref11_First sv atv = zaz b d m rec_darningref11_First sv atv' := zaa (body := fun s : Int => zT b d m rec_darningref11_First sv s) h
theorem zco {b : (List UInt8)} {d : Int} {m : Int} {rec_darningref11_First : (List zh) → Int → (List UInt8) → Int → Option (Int × Int)} {sv : (List zh)} {atv : Int} {oo_ : (Unit ⊕ (Int × Int))} (h : zT b d m rec_darningref11_First sv atv = some (.inr oo_)) : zaz b d m rec_darningref11_First sv atv = some oo_ := zab (body := fun s : Int => zT b d m rec_darningref11_First sv s) h
def zbi (fuel : Nat) (sv : (List zh)) (root : Int) (b : (List UInt8)) (d : Int) : Option (Int × Int) :=
 zbP sv root d >>= fun rv =>
 if (rv != 0) then (
  some (0, rv)
 ) else (
  zax fuel sv root b d >>= fun rv2 =>
  some (rv2.1, rv2.2)
 )
def zbF (fuel : Nat) (sv : (List zh)) (root : Int) (b : (List UInt8)) (d : Int) : Option Bool :=
 zbB fuel >>= fun rv =>
 if (!rv) then (
  some false
 ) else (
  zbW sv >>= fun rv2 =>
  if ((!rv2) || (decide ((b.length : Int) > 1500))) then (
   some true
  ) else (
   zeg fuel sv root b d >>= fun rv3 =>
   zbi fuel sv root b d >>= fun rv4 =>
   (
    if (rv3.1 == rv4.1) then (
     if ((IntKind.i64.wrap rv3.2) == rv4.2) then (
      zfI fuel sv root b d >>= fun rv5 =>
      if (rv5 == (rv4.2 == 0)) then (
       zeH sv root d >>= fun rv6 =>
       zbP sv root d >>= fun rv7 =>
       some ((IntKind.i64.wrap rv6) == rv7)
      ) else (
       some false
      )
     ) else (
      some false
     )
    ) else (
     some false
    )
   ) >>= fun g =>
   some g
  )
 )
def zeY (fuel : Nat) (sv : (List zh)) (root : Int) (b : (List UInt8)) : Option (Int × Int) :=
 zeI fuel sv root b 64 >>= fun rv =>
 if (rv.e != 0) then (
  some (0, rv.e)
 ) else (
  some (rv.depth, 0)
 )
def zcZ (fuel : Nat) (sv : (List zh)) (root : Int) (b : (List UInt8)) (d : Int) : Option Bool :=
 zbi fuel sv root b d >>= fun rv =>
 some (rv.2 == 0)
def zZ (fuel : Nat) (b : (List UInt8)) (root : Int) (sv : (List zh)) (d : Int) : Option (Int ⊕ (Unit ⊕ Int)) :=
 if (decide (d < 64)) then (
  zcZ fuel sv root b d >>= fun rv =>
  if rv then (
   some (.inr (.inr d))
  ) else (
   some (.inl (IntKind.i64.wrap (d + 1)))
  )
 ) else (
  some (.inr (.inl ()))
 )
def zbf (fuel : Nat) (b : (List UInt8)) (root : Int) (sv : (List zh)) (d : Int) : Option (Unit ⊕ Int) := zaI (fun s : Int => zZ fuel b root sv s) d
def zcf (fuel : Nat) (sv : (List zh)) (root : Int) (b : (List UInt8)) : Option Int :=
 zbf fuel b root sv 0 >>= fun q =>
 match q with
 | .inl u => (
  some 64
 )
 | .inr u2 => (
  some u2
 )
theorem zfV {fuel : Nat} {b : (List UInt8)} {root : Int} {sv : (List zh)} {d : Int} {d' : Int} (h : zZ fuel b root sv d = some (.inl d')) : zbf fuel b root sv d = zbf fuel b root sv d' := zaa (body := fun s : Int => zZ fuel b root sv s) h
theorem zdF {fuel : Nat} {b : (List UInt8)} {root : Int} {sv : (List zh)} {d : Int} {oo_ : (Unit ⊕ Int)} (h : zZ fuel b root sv d = some (.inr oo_)) : zbf fuel b root sv d = some oo_ := zab (body := fun s : Int => zZ fuel b root sv s) h
def zbG (fuel : Nat) (sv : (List zh)) (root : Int) (b : (List UInt8)) : Option Bool :=
 zbB fuel >>= fun rv =>
 if (!rv) then (
  some false
 ) else (
  zbW sv >>= fun rv2 =>
  if ((!rv2) || (decide ((b.length : Int) > 700))) then (
   some true
  ) else (
   zeY fuel sv root b >>= fun rv3 =>
   zbi fuel sv root b 64 >>= fun rv4 =>
   if (rv4.2 != 0) then (
    some ((rv3.1 == 0) && ((IntKind.i64.wrap rv3.2) == rv4.2))
   ) else (
    (
     if ((IntKind.i64.wrap rv3.2) == 0) then (
      zcf fuel sv root b >>= fun rv5 =>
      some (rv3.1 == rv5)
     ) else (
      some false
     )
    ) >>= fun g =>
    some g
   )
  )
 )
end
end Go.Proofs.YtnfembipjdohcaaGreat
