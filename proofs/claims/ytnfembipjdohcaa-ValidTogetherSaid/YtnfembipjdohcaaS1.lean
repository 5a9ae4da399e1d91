/-
  What the Go functions do, as plain functions. No condition.
-/
import Derived.Test.YtnfembipjdohcaaK2
namespace Go.Proofs.Ytnfembipjdohcaa
open Go
set_option linter.unusedVariables false
abbrev Str := List UInt8
structure ztU where
  a0 : Str
  a1 : Str
  a2 : Str
  a3 : Str
  a4 : Str
  a5 : Str
  a6 : Str
  a7 : Str
  a8 : Str
  a9 : Str
  a10 : Str
  a11 : Str
  a12 : Str
  a13 : Str
  a14 : Str deriving DecidableEq
structure zm where
  name : Str
  wire : Int deriving DecidableEq
def zt : Rp zm := ⟨2, true, fun x => [.str x.name, .int .i64 x.wire], fun _ => rfl, by decide⟩
structure ze where
  Name : Str
  Number : Int
  Kind : Int
  Repeated : Bool
  Packed : Bool
  Of : Int deriving DecidableEq
def za : Rp ze := ⟨6, true, fun x => [.str x.Name, .int .i64 x.Number, .int .i64 x.Kind, .bool x.Repeated, .bool x.Packed, .int .i64 x.Of], fun _ => rfl, by decide⟩
structure zr where
  Name : Str
  Fields : (List ze) deriving DecidableEq
def zi : Rp zr := ⟨2, true, fun x => [.str x.Name, .sl x.Fields.length za.size (x.Fields.flatMap za.lv)], fun _ => rfl, by decide⟩
structure zY where
  Number : Int
  Wire : Int deriving DecidableEq
def zbs : Rp zY := ⟨2, true, fun x => [.int .i64 x.Number, .int .i64 x.Wire], fun _ => rfl, by decide⟩
structure zo where
  Number : Int
  Wire : Int
  From : Int
  At : Int
  To : Int deriving DecidableEq
def zO : Rp zo := ⟨5, true, fun x => [.int .i64 x.Number, .int .i64 x.Wire, .int .i64 x.From, .int .i64 x.At, .int .i64 x.To], fun _ => rfl, by decide⟩
structure zg where
  message : Int
  name : Str deriving DecidableEq
def zk : Rp zg := ⟨2, true, fun x => [.int .i64 x.message, .str x.name], fun _ => rfl, by decide⟩
structure zh where
  message : Int
  number : Int deriving DecidableEq
def zj : Rp zh := ⟨2, true, fun x => [.int .i64 x.message, .int .i64 x.number], fun _ => rfl, by decide⟩
structure zP where
  size : Int
  kinds : (List Int)
  names : (List (zg × Bool))
  numbers : (List (zh × Bool))
structure zV where
  Message : Int
  Field : Int
  What : Int deriving DecidableEq
def zaR : Rp zV := ⟨3, true, fun x => [.int .i64 x.Message, .int .i64 x.Field, .int .i64 x.What], fun _ => rfl, by decide⟩
structure zz where
  number : Int
  wire : Int deriving DecidableEq
def zA : Rp zz := ⟨2, true, fun x => [.int .i64 x.number, .int .i64 x.wire], fun _ => rfl, by decide⟩
structure zE where
  field : Int
  run : Bool
  e : Int deriving DecidableEq
def zD : Rp zE := ⟨3, true, fun x => [.int .i64 x.field, .bool x.run, .int .u8 x.e], fun _ => rfl, by decide⟩
structure zb where
  Record : zo
  Field : Int
  Run : Bool deriving DecidableEq
def zd : Rp zb := ⟨7, true, fun x => [.int .i64 x.Record.Number, .int .i64 x.Record.Wire, .int .i64 x.Record.From, .int .i64 x.Record.At, .int .i64 x.Record.To, .int .i64 x.Field, .bool x.Run], fun _ => rfl, by decide⟩
structure zkE where
  R : zo
  Field : Int
  Run : Bool deriving DecidableEq
structure zf where
  message : Int
  number : Int
  wire : Int deriving DecidableEq
def zc : Rp zf := ⟨3, true, fun x => [.int .i64 x.message, .int .i64 x.number, .int .i64 x.wire], fun _ => rfl, by decide⟩
structure zG where
  s : (List zr)
  b : (List UInt8)
  met : (List (zf × zb))
structure zp where
  depth : Int
  place : Int
  e : Int deriving DecidableEq
def zM : Rp zp := ⟨3, true, fun x => [.int .i64 x.depth, .int .i64 x.place, .int .u8 x.e], fun _ => rfl, by decide⟩
end Go.Proofs.Ytnfembipjdohcaa
namespace Go.Proofs.Ytnfembipjdohcaa
open Go
set_option linter.unusedVariables false
noncomputable section
def zC (sv : (List Int)) (v : Int) (v2 : Int) : Option (Int ⊕ (Unit ⊕ Int)) :=
 if (decide (v2 < (sv.length : Int))) then (
  idx sv v2 >>= fun x =>
  if (v == x) then (
   some (.inr (.inr v2))
  ) else (
   some (.inl (IntKind.i64.wrap (v2 + 1)))
  )
 ) else (
  some (.inr (.inl ()))
 )
def zai (sv : (List Int)) (v : Int) (v2 : Int) : Option (Unit ⊕ Int) := zaX (fun s : Int => zC sv v s) v2
def zaw (sv : (List Int)) (v : Int) : Option Int :=
 zai sv v 0 >>= fun q =>
 match q with
 | .inl u => (
  some (-1)
 )
 | .inr u2 => (
  some u2
 )
theorem zdf {sv : (List Int)} {v : Int} {v2 : Int} {v2' : Int} (h : zC sv v v2 = some (.inl v2')) : zai sv v v2 = zai sv v v2' := zaP (body := fun s : Int => zC sv v s) h
theorem zbz {sv : (List Int)} {v : Int} {v2 : Int} {oo_ : (Unit ⊕ Int)} (h : zC sv v v2 = some (.inr oo_)) : zai sv v v2 = some oo_ := zaQ (body := fun s : Int => zC sv v s) h
def zaq (sv : (List Int)) (v : Int) : Option Bool :=
 zaw sv v >>= fun rv =>
 some (decide (rv ≥ 0))
end
end Go.Proofs.Ytnfembipjdohcaa
namespace Go.Proofs.Ytnfembipjdohcaa
open Go
set_option linter.unusedVariables false
noncomputable section
def zaZ  (wv2 : Int) (n : Int) : Option ((Int × Int) ⊕ Int) :=
 if (wv2 != 0) then (
  some (.inl ((shrI .u64 wv2 7), (IntKind.i64.wrap (n + 1))))
 ) else (
  some (.inr n)
 )
def zcz  (wv2 : Int) (n : Int) : Option Int := zaX (fun s : (Int × Int) => zaZ s.1 s.2) (wv2, n)
def zfB (wv : Int) : Option Int :=
 zcz (shrI .u64 wv 7) 1 >>= fun q =>
 some q
theorem ziH  {wv2 : Int} {n : Int} {wv2' : Int} {n' : Int} (h : zaZ wv2 n = some (.inl (wv2', n'))) : zcz wv2 n = zcz wv2' n' := zaP (body := fun s : (Int × Int) => zaZ s.1 s.2) h
theorem ziI  {wv2 : Int} {n : Int} {oo_ : Int} (h : zaZ wv2 n = some (.inr oo_)) : zcz wv2 n = some oo_ := zaQ (body := fun s : (Int × Int) => zaZ s.1 s.2) h
def zcX (wv : Int) : Option Int :=
 some (IntKind.u32.wrap wv)
def zdm (wv : Int) : Option Int :=
 zcX wv >>= fun rv =>
 some (IntKind.i32.wrap rv)
def zdn (n : Int) : Option Int :=
 some (IntKind.u64.wrap (IntKind.i64.wrap n))
end
end Go.Proofs.Ytnfembipjdohcaa
namespace Go.Proofs.Ytnfembipjdohcaa
open Go
set_option linter.unusedVariables false
noncomputable section
def zar (v : (List UInt8)) (wv : Int) (v2 : Int) : Option ((Int × Int) ⊕ (Unit ⊕ (Int × Int × Int))) :=
 if (decide (v2 < (v.length : Int))) then (
  idx v v2 >>= fun x =>
  if ((v2 == 9) && (decide ((x.toNat : Int) > 1))) then (
   some (.inr (.inr (0, 0, 4)))
  ) else (
   shlO .u64 (IntKind.u64.wrap (andI .u8 (x.toNat : Int) 127)) (IntKind.i64.wrap (7 * v2)) >>= fun v4 =>
   if (decide ((x.toNat : Int) < 128)) then (
    some (.inr (.inr ((orI .u64 wv v4), (IntKind.i64.wrap (v2 + 1)), 0)))
   ) else (
    some (.inl ((orI .u64 wv v4), (IntKind.i64.wrap (v2 + 1))))
   )
  )
 ) else (
  some (.inr (.inl ()))
 )
def zbA (v : (List UInt8)) (wv : Int) (v2 : Int) : Option (Unit ⊕ (Int × Int × Int)) := zaX (fun s : (Int × Int) => zar v s.1 s.2) (wv, v2)
def zcb (b : (List UInt8)) : Option (Int × Int × Int) :=
 cut b 0 (if (10 : Int) < (b.length : Int) then 10 else (b.length : Int)) >>= fun v =>
 zbA v 0 0 >>= fun q =>
 match q with
 | .inl u => (
  some (0, 0, 3)
 )
 | .inr u2 => (
  some (u2.1, u2.2.1, u2.2.2)
 )
theorem zgY {v : (List UInt8)} {wv : Int} {v2 : Int} {wv' : Int} {v2' : Int} (h : zar v wv v2 = some (.inl (wv', v2'))) : zbA v wv v2 = zbA v wv' v2' := zaP (body := fun s : (Int × Int) => zar v s.1 s.2) h
theorem zcy {v : (List UInt8)} {wv : Int} {v2 : Int} {oo_ : (Unit ⊕ (Int × Int × Int))} (h : zar v wv v2 = some (.inr oo_)) : zbA v wv v2 = some oo_ := zaQ (body := fun s : (Int × Int) => zar v s.1 s.2) h
def zcF (b : (List UInt8)) : Option (Int × Int) :=
 zcb b >>= fun rv =>
 some (rv.2.1, rv.2.2)
end
end Go.Proofs.Ytnfembipjdohcaa
namespace Go.Proofs.Ytnfembipjdohcaa
open Go
set_option linter.unusedVariables false
noncomputable section
def zcq (wire : Int) : Option Bool :=
 if (wire == 0) then (
  if (wire == 0) then (
   some true
  ) else (
   some false
  )
 ) else (
  if (wire == 1) then (
   if (wire == 1) then (
    some true
   ) else (
    some false
   )
  ) else (
   if (wire == 2) then (
    if (wire == 2) then (
     some true
    ) else (
     some false
    )
   ) else (
    if (wire == 5) then (
     some true
    ) else (
     some false
    )
   )
  )
 )
def zeO (t : zY) : Option Bool :=
 (
  if (decide (t.Number ≥ 1)) then (
   if (decide (t.Number ≤ 536870911)) then (
    zcq t.Wire >>= fun rv =>
    some rv
   ) else (
    some false
   )
  ) else (
   some false
  )
 ) >>= fun g =>
 some g
def zfW (b : (List UInt8)) : Option (zY × Int × Int) :=
 zcb b >>= fun rv =>
 if (rv.2.2 != 0) then (
  some ((⟨0, 0⟩ : zY), 0, rv.2.2)
 ) else (
  zeO (⟨(IntKind.i64.wrap (if (536870912 : Int) < (shrI .u64 rv.1 3) then 536870912 else (shrI .u64 rv.1 3))), (IntKind.i64.wrap (andI .u64 rv.1 7))⟩ : zY) >>= fun rv2 =>
  if (!rv2) then (
   some ((⟨0, 0⟩ : zY), 0, 5)
  ) else (
   some ((⟨(IntKind.i64.wrap (if (536870912 : Int) < (shrI .u64 rv.1 3) then 536870912 else (shrI .u64 rv.1 3))), (IntKind.i64.wrap (andI .u64 rv.1 7))⟩ : zY), rv.2.1, 0)
  )
 )
end
end Go.Proofs.Ytnfembipjdohcaa
namespace Go.Proofs.Ytnfembipjdohcaa
open Go
set_option linter.unusedVariables false
noncomputable section
def zhI (c : Int) : Option (Int × Int) :=
 if ((shrI .u8 c 7) == 0) then (
  some (1, (IntKind.u32.wrap c))
 ) else (
  if ((shrI .u8 c 5) == 6) then (
   some (2, (IntKind.u32.wrap (andI .u8 c 31)))
  ) else (
   if ((shrI .u8 c 4) == 14) then (
    some (3, (IntKind.u32.wrap (andI .u8 c 15)))
   ) else (
    if ((shrI .u8 c 3) == 30) then (
     some (4, (IntKind.u32.wrap (andI .u8 c 7)))
    ) else (
     some (0, 0)
    )
   )
  )
 )
def zeT (wv : Int) : Option Int :=
 if ((shrI .u32 wv 7) == 0) then (
  some 1
 ) else (
  if ((shrI .u32 wv 11) == 0) then (
   some 2
  ) else (
   if ((shrI .u32 wv 11) == 27) then (
    some 0
   ) else (
    if ((shrI .u32 wv 16) == 0) then (
     some 3
    ) else (
     if (decide (wv ≤ 1114111)) then (
      some 4
     ) else (
      some 0
     )
    )
   )
  )
 )
def zaV (v2 : (List UInt8)) (wv : Int) (v3 : Int) : Option ((Int × Int) ⊕ (Int ⊕ Unit)) :=
 if (decide (v3 < (v2.length : Int))) then (
  idx v2 v3 >>= fun x2 =>
  if ((shrI .u8 (x2.toNat : Int) 6) != 2) then (
   some (.inr (.inr ()))
  ) else (
   some (.inl ((orI .u32 (shlI .u32 wv 6) (IntKind.u32.wrap (andI .u8 (x2.toNat : Int) 63))), (IntKind.i64.wrap (v3 + 1))))
  )
 ) else (
  some (.inr (.inl wv))
 )
def zat (v2 : (List UInt8)) (wv : Int) (v3 : Int) : Option (Int ⊕ Unit) := zaX (fun s : (Int × Int) => zaV v2 s.1 s.2) (wv, v3)
def zeS (b : (List UInt8)) : Option Int :=
 if ((b.length : Int) == 0) then (
  some 0
 ) else (
  idx b 0 >>= fun x =>
  zhI (x.toNat : Int) >>= fun rv =>
  if ((rv.1 == 0) || (decide (rv.1 > (b.length : Int)))) then (
   some 0
  ) else (
   cut b 1 rv.1 >>= fun v2 =>
   zat v2 rv.2 0 >>= fun q =>
   match q with
   | .inl u => (
    zeT u >>= fun rv2 =>
    if (rv.1 != rv2) then (
     some 0
    ) else (
     some rv.1
    )
   )
   | .inr u2 => (
    some 0
   )
  )
 )
theorem ziO {v2 : (List UInt8)} {wv : Int} {v3 : Int} {wv' : Int} {v3' : Int} (h : zaV v2 wv v3 = some (.inl (wv', v3'))) : zat v2 wv v3 = zat v2 wv' v3' := zaP (body := fun s : (Int × Int) => zaV v2 s.1 s.2) h
theorem zft {v2 : (List UInt8)} {wv : Int} {v3 : Int} {oo_ : (Int ⊕ Unit)} (h : zaV v2 wv v3 = some (.inr oo_)) : zat v2 wv v3 = some oo_ := zaQ (body := fun s : (Int × Int) => zaV v2 s.1 s.2) h
def zbc (b : (List UInt8)) (atv : Int) (points : Int) (size : Int) : Option ((Int × Int × Int) ⊕ (Int × Int)) :=
 if (decide (size > 0)) then (
  cut b (IntKind.i64.wrap (atv + size)) (b.length : Int) >>= fun v =>
  zeS v >>= fun rv2 =>
  some (.inl ((IntKind.i64.wrap (atv + size)), (IntKind.i64.wrap (points + 1)), rv2))
 ) else (
  some (.inr (atv, points))
 )
def zbZ (b : (List UInt8)) (atv : Int) (points : Int) (size : Int) : Option (Int × Int) := zaX (fun s : (Int × Int × Int) => zbc b s.1 s.2.1 s.2.2) (atv, points, size)
def zfZ (b : (List UInt8)) : Option (Int × Int) :=
 zeS b >>= fun rv =>
 zbZ b 0 0 rv >>= fun q =>
 some (q.1, q.2)
theorem ziP {b : (List UInt8)} {atv : Int} {points : Int} {size : Int} {atv' : Int} {points' : Int} {size' : Int} (h : zbc b atv points size = some (.inl (atv', points', size'))) : zbZ b atv points size = zbZ b atv' points' size' := zaP (body := fun s : (Int × Int × Int) => zbc b s.1 s.2.1 s.2.2) h
theorem ziQ {b : (List UInt8)} {atv : Int} {points : Int} {size : Int} {oo_ : (Int × Int)} (h : zbc b atv points size = some (.inr oo_)) : zbZ b atv points size = some oo_ := zaQ (body := fun s : (Int × Int × Int) => zbc b s.1 s.2.1 s.2.2) h
def zeR (b : (List UInt8)) : Option Int :=
 zfZ b >>= fun rv =>
 some rv.1
def zdN (b : (List UInt8)) : Option Bool :=
 zeR b >>= fun rv =>
 some (rv == (b.length : Int))
end
end Go.Proofs.Ytnfembipjdohcaa
namespace Go.Proofs.Ytnfembipjdohcaa
open Go
set_option linter.unusedVariables false
noncomputable section
def zds (wire : Int) (b : (List UInt8)) : Option (Int × Int × Int) :=
 if (wire == 0) then (
  zcF b >>= fun rv =>
  some (0, rv.1, rv.2)
 ) else (
  ((
   if (wire == 1) then (
    some (0, 0, 8)
   ) else (
    if (wire == 5) then (
     some (0, 0, 4)
    ) else (
     if (wire == 2) then (
      zcb b >>= fun rv2 =>
      some (rv2.2.1, rv2.2.2, rv2.1)
     ) else (
      some (0, 0, 0)
     )
    )
   )
   : Option (Int × Int × Int))) >>= fun p =>
  if (p.2.1 != 0) then (
   some (0, 0, p.2.1)
  ) else (
   if (decide (p.2.2 > (IntKind.u64.wrap (IntKind.i64.wrap ((b.length : Int) - p.1))))) then (
    some (0, 0, 3)
   ) else (
    some (p.1, (IntKind.i64.wrap (p.1 + (IntKind.i64.wrap p.2.2))), 0)
   )
  )
 )
def zcC (b : (List UInt8)) (fromv : Int) : Option (zo × Int) :=
 if ((decide (fromv < 0)) || (decide (fromv ≥ (b.length : Int)))) then (
  some ((⟨0, 0, 0, 0, 0⟩ : zo), 2)
 ) else (
  cut b fromv (b.length : Int) >>= fun v2 =>
  zfW v2 >>= fun rv =>
  if (rv.2.2 != 0) then (
   some ((⟨0, 0, 0, 0, 0⟩ : zo), rv.2.2)
  ) else (
   cut b (IntKind.i64.wrap (fromv + rv.2.1)) (b.length : Int) >>= fun v3 =>
   zds rv.1.Wire v3 >>= fun rv2 =>
   if (rv2.2.2 != 0) then (
    some ((⟨0, 0, 0, 0, 0⟩ : zo), rv2.2.2)
   ) else (
    some ((⟨rv.1.Number, rv.1.Wire, fromv, (IntKind.i64.wrap ((IntKind.i64.wrap (fromv + rv.2.1)) + rv2.1)), (IntKind.i64.wrap ((IntKind.i64.wrap (fromv + rv.2.1)) + rv2.2.1))⟩ : zo), 0)
   )
  )
 )
end
end Go.Proofs.Ytnfembipjdohcaa
namespace Go.Proofs.Ytnfembipjdohcaa
open Go
set_option linter.unusedVariables false
noncomputable section
def zfb (wv : Int) : Option Int :=
 some (if (1 : Int) < wv then 1 else wv)
def zdT (k : Int) (wv : Int) : Option (Int × Int) :=
 ((
  if (k == 1) then (
   some (k == 1)
  ) else (
   some (k == 8)
  )
  : Option Bool)) >>= fun p =>
 if p then (
  zdm wv >>= fun rv =>
  zdn rv >>= fun rv2 =>
  some (rv2, 0)
 ) else (
  ((
   if (k == 3) then (
    some (k == 3)
   ) else (
    if (k == 5) then (
     some (k == 5)
    ) else (
     if (k == 9) then (
      some (k == 9)
     ) else (
      if (k == 10) then (
       some (k == 10)
      ) else (
       some (k == 11)
      )
     )
    )
   )
   : Option Bool)) >>= fun p2 =>
  if p2 then (
   zcX wv >>= fun rv3 =>
   some ((IntKind.u64.wrap rv3), 0)
  ) else (
   if (k == 7) then (
    zfb wv >>= fun rv4 =>
    some (rv4, 0)
   ) else (
    ((
     if (k == 2) then (
      some (k == 2)
     ) else (
      if (k == 4) then (
       some (k == 4)
      ) else (
       if (k == 6) then (
        some (k == 6)
       ) else (
        if (k == 12) then (
         some (k == 12)
        ) else (
         if (k == 13) then (
          some (k == 13)
         ) else (
          some (k == 14)
         )
        )
       )
      )
     )
     : Option Bool)) >>= fun p3 =>
    if p3 then (
     some (wv, 0)
    ) else (
     some (0, 2)
    )
   )
  )
 )
def zdU  : Option (List (Int × zm)) :=
 some (mput (mput (mput (mput (mput (mput (mput (mput (mput (mput (mput (mput (mput (mput (mput (mput (mput ([] : (List (Int × zm))) 1 (⟨[105, 110, 116, 51, 50], 0⟩ : zm)) 2 (⟨[105, 110, 116, 54, 52], 0⟩ : zm)) 3 (⟨[117, 105, 110, 116, 51, 50], 0⟩ : zm)) 4 (⟨[117, 105, 110, 116, 54, 52], 0⟩ : zm)) 5 (⟨[115, 105, 110, 116, 51, 50], 0⟩ : zm)) 6 (⟨[115, 105, 110, 116, 54, 52], 0⟩ : zm)) 7 (⟨[98, 111, 111, 108], 0⟩ : zm)) 8 (⟨[101, 110, 117, 109], 0⟩ : zm)) 9 (⟨[102, 105, 120, 101, 100, 51, 50], 5⟩ : zm)) 10 (⟨[115, 102, 105, 120, 101, 100, 51, 50], 5⟩ : zm)) 11 (⟨[102, 108, 111, 97, 116], 5⟩ : zm)) 12 (⟨[102, 105, 120, 101, 100, 54, 52], 1⟩ : zm)) 13 (⟨[115, 102, 105, 120, 101, 100, 54, 52], 1⟩ : zm)) 14 (⟨[100, 111, 117, 98, 108, 101], 1⟩ : zm)) 15 (⟨[115, 116, 114, 105, 110, 103], 2⟩ : zm)) 16 (⟨[98, 121, 116, 101, 115], 2⟩ : zm)) 17 (⟨[109, 101, 115, 115, 97, 103, 101], 2⟩ : zm))
def zfJ  : Option (List Int) :=
 zdU >>= fun rv =>
 zmU rv >>= fun v =>
 some v
def zdK (k : Int) : Option (Int × Int) :=
 zdU >>= fun rv =>
 if (!(mget rv k).isSome) then (
  some (0, 2)
 ) else (
  some (((mget rv k).getD (⟨[], 0⟩ : zm)).wire, 0)
 )
def zcB (k : Int) : Option Bool :=
 zdK k >>= fun rv =>
 some ((rv.2 == 0) && (rv.1 != 2))
end
end Go.Proofs.Ytnfembipjdohcaa
namespace Go.Proofs.Ytnfembipjdohcaa
open Go
set_option linter.unusedVariables false
noncomputable section
def zby (c : Int) : Option Bool :=
 some ((decide (c ≥ 48)) && (decide (c ≤ 57)))
def zbJ (c : Int) : Option Bool :=
 some (if (decide (c ≥ 97)) then ((decide (c ≤ 122)) || (if (decide (c ≥ 65)) then ((decide (c ≤ 90)) || (c == 95)) else (c == 95))) else (if (decide (c ≥ 65)) then ((decide (c ≤ 90)) || (c == 95)) else (c == 95)))
def zah (name : Str) (v2 : Int) : Option (Int ⊕ (Unit ⊕ Unit)) :=
 if (decide (v2 < (name.length : Int))) then (
  (
   idx name v2 >>= fun c2 =>
   zbJ (c2.toNat : Int) >>= fun rv2 =>
   if (!rv2) then (
    idx name v2 >>= fun c3 =>
    zby (c3.toNat : Int) >>= fun rv3 =>
    some (!rv3)
   ) else (
    some false
   )
  ) >>= fun g2 =>
  if g2 then (
   some (.inr (.inr ()))
  ) else (
   some (.inl (IntKind.i64.wrap (v2 + 1)))
  )
 ) else (
  some (.inr (.inl ()))
 )
def zbe (name : Str) (v2 : Int) : Option (Unit ⊕ Unit) := zaX (fun s : Int => zah name s) v2
def zbN (name : Str) : Option Bool :=
 (
  if (name == []) then (
   some true
  ) else (
   if (decide ((name.length : Int) > 60)) then (
    some true
   ) else (
    idx name 0 >>= fun c =>
    zby (c.toNat : Int) >>= fun rv =>
    some rv
   )
  )
 ) >>= fun g =>
 if g then (
  some false
 ) else (
  zbe name 0 >>= fun q =>
  match q with
  | .inl u => (
   some true
  )
  | .inr u2 => (
   some false
  )
 )
theorem zfU {name : Str} {v2 : Int} {v2' : Int} (h : zah name v2 = some (.inl v2')) : zbe name v2 = zbe name v2' := zaP (body := fun s : Int => zah name s) h
theorem zdu {name : Str} {v2 : Int} {oo_ : (Unit ⊕ Unit)} (h : zah name v2 = some (.inr oo_)) : zbe name v2 = some oo_ := zaQ (body := fun s : Int => zah name s) h
def zbK (n : Int) : Option Bool :=
 some ((decide (n ≥ 1)) && ((decide (n ≤ 536870911)) && ((decide (n < 19000)) || (decide (n > 19999)))))
def zbX (f : ze) : Option Bool :=
 (
  if f.Repeated then (
   zcB f.Kind >>= fun rv =>
   some rv
  ) else (
   some false
  )
 ) >>= fun g =>
 some g
def zbj (c : zP) (f : ze) : Option Bool :=
 if (f.Kind == 17) then (
  some ((decide (f.Of ≥ 0)) && (decide (f.Of < c.size)))
 ) else (
  some (f.Of == 0)
 )
def zbi (c : zP) (message : Int) (f : ze) : Option (Int × (List (zg × Bool)) × (List (zh × Bool))) :=
 zbN f.Name >>= fun rv =>
 if (!rv) then (
  some (5, c.names, c.numbers)
 ) else (
  if ((mget c.names (⟨message, f.Name⟩ : zg)).getD false) then (
   some (6, c.names, c.numbers)
  ) else (
   zbK f.Number >>= fun rv2 =>
   if (!rv2) then (
    some (7, c.names, c.numbers)
   ) else (
    if ((mget c.numbers (⟨message, f.Number⟩ : zh)).getD false) then (
     some (8, c.names, c.numbers)
    ) else (
     zaq c.kinds f.Kind >>= fun rv3 =>
     if (!rv3) then (
      some (9, c.names, c.numbers)
     ) else (
      (
       if f.Packed then (
        zbX f >>= fun rv4 =>
        some (!rv4)
       ) else (
        some false
       )
      ) >>= fun g =>
      if g then (
       some (10, c.names, c.numbers)
      ) else (
       zbj c f >>= fun rv5 =>
       if (!rv5) then (
        some (11, c.names, c.numbers)
       ) else (
        some (0, (mput c.names (⟨message, f.Name⟩ : zg) true), (mput c.numbers (⟨message, f.Number⟩ : zh) true))
       )
      )
     )
    )
   )
  )
 )
def zaT (c : zP) (m : zr) : Option (Int × (List (zg × Bool)) × (List (zh × Bool))) :=
 zbN m.Name >>= fun rv =>
 if (!rv) then (
  some (2, c.names, c.numbers)
 ) else (
  if ((mget c.names (⟨(-1), m.Name⟩ : zg)).getD false) then (
   some (3, c.names, c.numbers)
  ) else (
   if (decide ((m.Fields.length : Int) > 200)) then (
    some (4, c.names, c.numbers)
   ) else (
    some (0, (mput c.names (⟨(-1), m.Name⟩ : zg) true), c.numbers)
   )
  )
 )
def zaa (i : Int) (sv : (List zr)) (n3 : Int) (k : Int) : Option ((Int × Int) ⊕ Int) :=
 idx sv i >>= fun x3 =>
 if (decide (k < (x3.Fields.length : Int))) then (
  idx sv i >>= fun x4 =>
  idx x4.Fields k >>= fun x5 =>
  some (.inl ((IntKind.i64.wrap (n3 + (IntKind.i64.wrap (Int.tdiv (x5.Name.length : Int) 100)))), (IntKind.i64.wrap (k + 1))))
 ) else (
  some (.inr n3)
 )
def zaF (i : Int) (sv : (List zr)) (n3 : Int) (k : Int) : Option Int := zaX (fun s : (Int × Int) => zaa i sv s.1 s.2) (n3, k)
def zZ (sv : (List zr)) (n : Int) (i : Int) : Option ((Int × Int) ⊕ Int) :=
 if (decide (i < (sv.length : Int))) then (
  idx sv i >>= fun x =>
  idx sv i >>= fun x2 =>
  zaF i sv (IntKind.i64.wrap ((IntKind.i64.wrap ((IntKind.i64.wrap (n + 1)) + (IntKind.i64.wrap (Int.tdiv (x.Name.length : Int) 100)))) + (x2.Fields.length : Int))) 0 >>= fun q =>
  some (.inl (q, (IntKind.i64.wrap (i + 1))))
 ) else (
  some (.inr n)
 )
def zaE (sv : (List zr)) (n : Int) (i : Int) : Option Int := zaX (fun s : (Int × Int) => zZ sv s.1 s.2) (n, i)
def zbx (sv : (List zr)) : Option Bool :=
 zaE sv 0 0 >>= fun q2 =>
 some (decide (q2 ≤ 500))
theorem zey {i : Int} {sv : (List zr)} {n3 : Int} {k : Int} {n3' : Int} {k' : Int} (h : zaa i sv n3 k = some (.inl (n3', k'))) : zaF i sv n3 k = zaF i sv n3' k' := zaP (body := fun s : (Int × Int) => zaa i sv s.1 s.2) h
theorem zez {i : Int} {sv : (List zr)} {n3 : Int} {k : Int} {oo_ : Int} (h : zaa i sv n3 k = some (.inr oo_)) : zaF i sv n3 k = some oo_ := zaQ (body := fun s : (Int × Int) => zaa i sv s.1 s.2) h
theorem zew {sv : (List zr)} {n : Int} {i : Int} {n' : Int} {i' : Int} (h : zZ sv n i = some (.inl (n', i'))) : zaE sv n i = zaE sv n' i' := zaP (body := fun s : (Int × Int) => zZ sv s.1 s.2) h
theorem zex {sv : (List zr)} {n : Int} {i : Int} {oo_ : Int} (h : zZ sv n i = some (.inr oo_)) : zaE sv n i = some oo_ := zaQ (body := fun s : (Int × Int) => zZ sv s.1 s.2) h
def zag (rv : (List Int)) (sv : (List zr)) (v2 : Int) (x : zr) (v3 : Int) (f6 : (List (zg × Bool))) (f7 : (List (zh × Bool))) : Option ((Int × (List (zg × Bool)) × (List (zh × Bool))) ⊕ (((List (zg × Bool)) × (List (zh × Bool))) ⊕ (Int × Int))) :=
 if (decide (v3 < (x.Fields.length : Int))) then (
  idx x.Fields v3 >>= fun x2 =>
  zbi (⟨(sv.length : Int), rv, f6, f7⟩ : zP) v2 x2 >>= fun rv5 =>
  if (rv5.1 != 0) then (
   some (.inr (.inr (v3, rv5.1)))
  ) else (
   some (.inl ((IntKind.i64.wrap (v3 + 1)), rv5.2.1, rv5.2.2))
  )
 ) else (
  some (.inr (.inl (f6, f7)))
 )
def zaJ (rv : (List Int)) (sv : (List zr)) (v2 : Int) (x : zr) (v3 : Int) (f6 : (List (zg × Bool))) (f7 : (List (zh × Bool))) : Option (((List (zg × Bool)) × (List (zh × Bool))) ⊕ (Int × Int)) := zaX (fun s : (Int × (List (zg × Bool)) × (List (zh × Bool))) => zag rv sv v2 x s.1 s.2.1 s.2.2) (v3, f6, f7)
def zS (rv : (List Int)) (sv : (List zr)) (v2 : Int) (f : (List (zg × Bool))) (f2 : (List (zh × Bool))) : Option ((Int × (List (zg × Bool)) × (List (zh × Bool))) ⊕ (Unit ⊕ (Int × Int × Int))) :=
 if (decide (v2 < (sv.length : Int))) then (
  idx sv v2 >>= fun x =>
  zaT (⟨(sv.length : Int), rv, f, f2⟩ : zP) x >>= fun rv3 =>
  if (rv3.1 != 0) then (
   some (.inr (.inr (v2, (-1), rv3.1)))
  ) else (
   zaJ rv sv v2 x 0 rv3.2.1 rv3.2.2 >>= fun q =>
   match q with
   | .inl u => (
    some (.inl ((IntKind.i64.wrap (v2 + 1)), u.1, u.2))
   )
   | .inr u2 => (
    some (.inr (.inr (v2, u2.1, u2.2)))
   )
  )
 ) else (
  some (.inr (.inl ()))
 )
def zbn (rv : (List Int)) (sv : (List zr)) (v2 : Int) (f : (List (zg × Bool))) (f2 : (List (zh × Bool))) : Option (Unit ⊕ (Int × Int × Int)) := zaX (fun s : (Int × (List (zg × Bool)) × (List (zh × Bool))) => zS rv sv s.1 s.2.1 s.2.2) (v2, f, f2)
def zcN (sv : (List zr)) : Option (zV × Int) :=
 if ((decide ((sv.length : Int) < 1)) || (decide ((sv.length : Int) > 100))) then (
  some ((⟨(-1), (-1), 1⟩ : zV), 9)
 ) else (
  zfJ >>= fun rv =>
  zbn rv sv 0 ([] : (List (zg × Bool))) ([] : (List (zh × Bool))) >>= fun q2 =>
  match q2 with
  | .inl u3 => (
   some ((⟨0, 0, 0⟩ : zV), 0)
  )
  | .inr u4 => (
   some ((⟨u4.1, u4.2.1, u4.2.2⟩ : zV), 9)
  )
 )
theorem zgt {rv : (List Int)} {sv : (List zr)} {v2 : Int} {x : zr} {v3 : Int} {f6 : (List (zg × Bool))} {f7 : (List (zh × Bool))} {v3' : Int} {f6' : (List (zg × Bool))} {f7' : (List (zh × Bool))} (h : zag rv sv v2 x v3 f6 f7 = some (.inl (v3', f6', f7'))) : zaJ rv sv v2 x v3 f6 f7 = zaJ rv sv v2 x v3' f6' f7' := zaP (body := fun s : (Int × (List (zg × Bool)) × (List (zh × Bool))) => zag rv sv v2 x s.1 s.2.1 s.2.2) h
theorem zdE {rv : (List Int)} {sv : (List zr)} {v2 : Int} {x : zr} {v3 : Int} {f6 : (List (zg × Bool))} {f7 : (List (zh × Bool))} {oo_ : (((List (zg × Bool)) × (List (zh × Bool))) ⊕ (Int × Int))} (h : zag rv sv v2 x v3 f6 f7 = some (.inr oo_)) : zaJ rv sv v2 x v3 f6 f7 = some oo_ := zaQ (body := fun s : (Int × (List (zg × Bool)) × (List (zh × Bool))) => zag rv sv v2 x s.1 s.2.1 s.2.2) h
theorem zgs {rv : (List Int)} {sv : (List zr)} {v2 : Int} {f : (List (zg × Bool))} {f2 : (List (zh × Bool))} {v2' : Int} {f' : (List (zg × Bool))} {f2' : (List (zh × Bool))} (h : zS rv sv v2 f f2 = some (.inl (v2', f', f2'))) : zbn rv sv v2 f f2 = zbn rv sv v2' f' f2' := zaP (body := fun s : (Int × (List (zg × Bool)) × (List (zh × Bool))) => zS rv sv s.1 s.2.1 s.2.2) h
theorem zaY {rv : (List Int)} {sv : (List zr)} {v2 : Int} {f : (List (zg × Bool))} {f2 : (List (zh × Bool))} {oo_ : (Unit ⊕ (Int × Int × Int))} (h : zS rv sv v2 f f2 = some (.inr oo_)) : zbn rv sv v2 f f2 = some oo_ := zaQ (body := fun s : (Int × (List (zg × Bool)) × (List (zh × Bool))) => zS rv sv s.1 s.2.1 s.2.2) h
def zcO (sv : (List zr)) : Option Bool :=
 zcN sv >>= fun rv =>
 some (rv.2 == 0)
end
end Go.Proofs.Ytnfembipjdohcaa
namespace Go.Proofs.Ytnfembipjdohcaa
open Go
set_option linter.unusedVariables false
noncomputable section
def zcM (k : Int) : Option (Int × Int) :=
 ((
  if (k == 1) then (
   some (k == 1)
  ) else (
   if (k == 2) then (
    some (k == 2)
   ) else (
    if (k == 3) then (
     some (k == 3)
    ) else (
     if (k == 4) then (
      some (k == 4)
     ) else (
      if (k == 5) then (
       some (k == 5)
      ) else (
       if (k == 6) then (
        some (k == 6)
       ) else (
        if (k == 7) then (
         some (k == 7)
        ) else (
         some (k == 8)
        )
       )
      )
     )
    )
   )
  )
  : Option Bool)) >>= fun p =>
 if p then (
  some (0, 0)
 ) else (
  ((
   if (k == 9) then (
    some (k == 9)
   ) else (
    if (k == 10) then (
     some (k == 10)
    ) else (
     some (k == 11)
    )
   )
   : Option Bool)) >>= fun p2 =>
  if p2 then (
   some (4, 0)
  ) else (
   if (k == 12) then (
    if (k == 12) then (
     some (8, 0)
    ) else (
     some (0, 2)
    )
   ) else (
    if (k == 13) then (
     if (k == 13) then (
      some (8, 0)
     ) else (
      some (0, 2)
     )
    ) else (
     if (k == 14) then (
      some (8, 0)
     ) else (
      some (0, 2)
     )
    )
   )
  )
 )
def zdt (k : Int) (wv : Int) : Option Int :=
 zcM k >>= fun rv =>
 if ((rv.2 != 0) || (rv.1 != 0)) then (
  some rv.1
 ) else (
  zdT k wv >>= fun rv2 =>
  zfB rv2.1 >>= fun rv3 =>
  some rv3
 )
end
end Go.Proofs.Ytnfembipjdohcaa
namespace Go.Proofs.Ytnfembipjdohcaa
open Go
set_option linter.unusedVariables false
noncomputable section
def zeL (k : Int) : Option Int :=
 zdt k 0 >>= fun rv =>
 some rv
def zeK (wide : Int) (b : (List UInt8)) : Option (Int × Int) :=
 if (wide == 1) then (
  zcF b >>= fun rv =>
  some (rv.1, rv.2)
 ) else (
  if (decide (wide > (b.length : Int))) then (
   some (0, 3)
  ) else (
   some (wide, 0)
  )
 )
def zaf {σ : Type} (kf : (Rnd σ ((List UInt8) × Int))) (rv : Int) (rest : (List UInt8)) (sg2 : σ) : Option (((List UInt8) × σ) ⊕ (σ ⊕ σ)) :=
 if (decide ((rest.length : Int) > 0)) then (
  zeK rv rest >>= fun rv2 =>
  cut rest 0 rv2.1 >>= fun v3 =>
  kf sg2 (v3, rv2.2) >>= fun y2 =>
  if ((!y2.1) || (rv2.2 != 0)) then (
   some (.inr (.inr y2.2))
  ) else (
   cut rest rv2.1 (rest.length : Int) >>= fun v5 =>
   some (.inl (v5, y2.2))
  )
 ) else (
  some (.inr (.inl sg2))
 )
def zbm {σ : Type} (kf : (Rnd σ ((List UInt8) × Int))) (rv : Int) (rest : (List UInt8)) (sg2 : σ) : Option (σ ⊕ σ) := zaX (fun s : ((List UInt8) × σ) => zaf kf rv s.1 s.2) (rest, sg2)
def zbG {σ : Type} (v : Int) (v2 : (List UInt8)) (kf : Rnd σ ((List UInt8) × Int)) (sg : σ) : Option σ :=
 zeL v >>= fun rv =>
 if (rv == 0) then (
  kf sg (([] : (List UInt8)), 2) >>= fun y =>
  some y.2
 ) else (
  zbm kf rv v2 sg >>= fun q =>
  match q with
  | .inl u => (
   some u
  )
  | .inr u2 => (
   some u2
  )
 )
theorem zgr {σ : Type} {kf : (Rnd σ ((List UInt8) × Int))} {rv : Int} {rest : (List UInt8)} {sg2 : σ} {rest' : (List UInt8)} {sg2' : σ} (h : zaf kf rv rest sg2 = some (.inl (rest', sg2'))) : zbm kf rv rest sg2 = zbm kf rv rest' sg2' := zaP (body := fun s : ((List UInt8) × σ) => zaf kf rv s.1 s.2) h
theorem zcl {σ : Type} {kf : (Rnd σ ((List UInt8) × Int))} {rv : Int} {rest : (List UInt8)} {sg2 : σ} {oo_ : (σ ⊕ σ)} (h : zaf kf rv rest sg2 = some (.inr oo_)) : zbm kf rv rest sg2 = some oo_ := zaQ (body := fun s : ((List UInt8) × σ) => zaf kf rv s.1 s.2) h
def zfl (k : Int) (b : (List UInt8)) : Option (Int × (List UInt8)) :=
 some (k, b)
def zbq  (f : Int) (x : (List UInt8)) (x2 : Int) : Option (Int ⊕ (Int × Int)) :=
 if (x2 != 0) then (
  some (.inr (x2, f))
 ) else (
  some (.inl (IntKind.i64.wrap (f + 1)))
 )
def zeJ (k : Int) (b : (List UInt8)) : Option (Int × Int) :=
 zfl k b >>= fun rv =>
 zbG rv.1 rv.2 (rnd (fun (s : Int) (x : ((List UInt8) × Int)) => zbq s x.1 x.2)) (.inl 0) >>= fun q =>
 match q with
 | .inl u => (
  some (u, 0)
 )
 | .inr j => (
  some (0, j.1)
 )
end
end Go.Proofs.Ytnfembipjdohcaa
namespace Go.Proofs.Ytnfembipjdohcaa
open Go
set_option linter.unusedVariables false
noncomputable section
def zcP (f : ze) (v : Int) : Option Bool :=
 some (f.Number == v)
def zu (sv : (List ze)) (v : Int) (v2 : Int) : Option (Int ⊕ (Unit ⊕ Int)) :=
 if (decide (v2 < (sv.length : Int))) then (
  idx sv v2 >>= fun x =>
  zcP x v >>= fun rv =>
  if rv then (
   some (.inr (.inr v2))
  ) else (
   some (.inl (IntKind.i64.wrap (v2 + 1)))
  )
 ) else (
  some (.inr (.inl ()))
 )
def zy (sv : (List ze)) (v : Int) (v2 : Int) : Option (Unit ⊕ Int) := zaX (fun s : Int => zu sv v s) v2
def zJ (sv : (List ze)) (v : Int) : Option Int :=
 zy sv v 0 >>= fun q =>
 match q with
 | .inl u => (
  some (-1)
 )
 | .inr u2 => (
  some u2
 )
theorem zaK {sv : (List ze)} {v : Int} {v2 : Int} {v2' : Int} (h : zu sv v v2 = some (.inl v2')) : zy sv v v2 = zy sv v v2' := zaP (body := fun s : Int => zu sv v s) h
theorem zae {sv : (List ze)} {v : Int} {v2 : Int} {oo_ : (Unit ⊕ Int)} (h : zu sv v v2 = some (.inr oo_)) : zy sv v v2 = some oo_ := zaQ (body := fun s : Int => zu sv v s) h
def zef (m : zr) (number : Int) : Option Int :=
 zJ m.Fields number >>= fun rv =>
 some rv
def zeg (f : ze) (wire : Int) : Option Bool :=
 (
  if f.Repeated then (
   if (wire == 2) then (
    zcB f.Kind >>= fun rv =>
    some rv
   ) else (
    some false
   )
  ) else (
   some false
  )
 ) >>= fun g =>
 some g
def zeV (k : Int) (wire : Int) : Option Bool :=
 zdK k >>= fun rv =>
 some ((rv.2 == 0) && (rv.1 == wire))
def zcG (m : zr) (hv : zz) : Option zE :=
 zef m hv.number >>= fun rv =>
 if (rv == (-1)) then (
  some (⟨(-1), false, 0⟩ : zE)
 ) else (
  idx m.Fields rv >>= fun x =>
  zeg x hv.wire >>= fun rv2 =>
  (
   if (!rv2) then (
    zeV x.Kind hv.wire >>= fun rv3 =>
    some (!rv3)
   ) else (
    some false
   )
  ) >>= fun g =>
  if g then (
   some (⟨0, false, 6⟩ : zE)
  ) else (
   some (⟨rv, rv2, 0⟩ : zE)
  )
 )
def zeW (m : zr) (b : (List UInt8)) (fromv : Int) (met : (List (zz × zE))) : Option (zb × Int × (List (zz × zE))) :=
 zcC b fromv >>= fun rv =>
 if (rv.2 != 0) then (
  some ((⟨(⟨0, 0, 0, 0, 0⟩ : zo), 0, false⟩ : zb), rv.2, met)
 ) else (
  ((
   if (!(mget met (⟨rv.1.Number, rv.1.Wire⟩ : zz)).isSome) then (
    zcG m (⟨rv.1.Number, rv.1.Wire⟩ : zz) >>= fun rv2 =>
    some ((mput met (⟨rv.1.Number, rv.1.Wire⟩ : zz) rv2), rv2.field, rv2.run, rv2.e)
   ) else (
    some (met, ((mget met (⟨rv.1.Number, rv.1.Wire⟩ : zz)).getD (⟨0, false, 0⟩ : zE)).field, ((mget met (⟨rv.1.Number, rv.1.Wire⟩ : zz)).getD (⟨0, false, 0⟩ : zE)).run, ((mget met (⟨rv.1.Number, rv.1.Wire⟩ : zz)).getD (⟨0, false, 0⟩ : zE)).e)
   )
   : Option ((List (zz × zE)) × Int × Bool × Int))) >>= fun p =>
  if (p.2.2.2 != 0) then (
   some ((⟨(⟨0, 0, 0, 0, 0⟩ : zo), 0, false⟩ : zb), p.2.2.2, p.1)
  ) else (
   some ((⟨rv.1, p.2.1, p.2.2.1⟩ : zb), 0, p.1)
  )
 )
def zeU (m : zr) (b : (List UInt8)) (fromv : Int) : Option (zb × Int) :=
 zeW m b fromv ([] : (List (zz × zE))) >>= fun rv2 =>
 some (rv2.1, rv2.2.1)
end
end Go.Proofs.Ytnfembipjdohcaa
namespace Go.Proofs.Ytnfembipjdohcaa
open Go
set_option linter.unusedVariables false
noncomputable section
def zbL (wv : zG) (message : Int) (fromv : Int) (tov : Int) : Option (zb × Int × (List (zf × zb))) :=
 cut wv.b 0 tov >>= fun v =>
 zcC v fromv >>= fun rv =>
 if (rv.2 != 0) then (
  some ((⟨(⟨0, 0, 0, 0, 0⟩ : zo), 0, false⟩ : zb), rv.2, wv.met)
 ) else (
  if (!(mget wv.met (⟨message, rv.1.Number, rv.1.Wire⟩ : zf)).isSome) then (
   idx wv.s message >>= fun x =>
   zeU x v fromv >>= fun rv2 =>
   if (rv2.2 != 0) then (
    some ((⟨(⟨0, 0, 0, 0, 0⟩ : zo), 0, false⟩ : zb), rv2.2, wv.met)
   ) else (
    some ((⟨rv.1, rv2.1.Field, rv2.1.Run⟩ : zb), 0, (mput wv.met (⟨message, rv.1.Number, rv.1.Wire⟩ : zf) rv2.1))
   )
  ) else (
   some ((⟨rv.1, (((mget wv.met (⟨message, rv.1.Number, rv.1.Wire⟩ : zf)).getD (⟨(⟨0, 0, 0, 0, 0⟩ : zo), 0, false⟩ : zb)).Field), (((mget wv.met (⟨message, rv.1.Number, rv.1.Wire⟩ : zf)).getD (⟨(⟨0, 0, 0, 0, 0⟩ : zo), 0, false⟩ : zb)).Run)⟩ : zb), 0, wv.met)
  )
 )
def zdy (f : ze) (isRun : Bool) (value : (List UInt8)) : Option Int :=
 if isRun then (
  zeJ f.Kind value >>= fun rv =>
  some rv.2
 ) else (
  (
   if (f.Kind == 15) then (
    zdN value >>= fun rv2 =>
    some (!rv2)
   ) else (
    some false
   )
  ) >>= fun g =>
  if g then (
   some 7
  ) else (
   if (f.Kind == 17) then (
    some 8
   ) else (
    some 0
   )
  )
 )
def zH (d : Int) (message : Int) (rec_valid_walk_value : zG → Int → zb → Int → Option (zp × (List (zf × zb)))) (tov : Int) (wv : zG) (wv2 : (List (zf × zb))) (fromv2 : Int) (depth : Int) : Option (((List (zf × zb)) × Int × Int) ⊕ (((List (zf × zb)) × Int) ⊕ ((List (zf × zb)) × Int × Int × Int))) :=
 if (decide (fromv2 < tov)) then (
  zbL (⟨wv.s, wv.b, wv2⟩ : zG) message fromv2 tov >>= fun rv2 =>
  if (rv2.2.1 != 0) then (
   some (.inr (.inr (rv2.2.2, 0, fromv2, rv2.2.1)))
  ) else (
   rec_valid_walk_value (⟨wv.s, wv.b, rv2.2.2⟩ : zG) message rv2.1 d >>= fun rv4 =>
   if (rv4.1.e != 0) then (
    some (.inr (.inr (rv4.2, rv4.1.depth, rv4.1.place, rv4.1.e)))
   ) else (
    some (.inl (rv4.2, rv2.1.Record.To, (if depth < rv4.1.depth then rv4.1.depth else depth)))
   )
  )
 ) else (
  some (.inr (.inl (wv2, depth)))
 )
def zan (d : Int) (message : Int) (rec_valid_walk_value : zG → Int → zb → Int → Option (zp × (List (zf × zb)))) (tov : Int) (wv : zG) (wv2 : (List (zf × zb))) (fromv2 : Int) (depth : Int) : Option (((List (zf × zb)) × Int) ⊕ ((List (zf × zb)) × Int × Int × Int)) := zaX (fun s : ((List (zf × zb)) × Int × Int) => zH d message rec_valid_walk_value tov wv s.1 s.2.1 s.2.2) (wv2, fromv2, depth)
def zaW (rec_valid_walk_message : zG → Int → Int → Int → Int → Option (zp × (List (zf × zb)))) (rec_valid_walk_value : zG → Int → zb → Int → Option (zp × (List (zf × zb)))) (wv : zG) (message : Int) (fromv : Int) (tov : Int) (d : Int) : Option (zp × (List (zf × zb))) :=
 zan d message rec_valid_walk_value tov wv wv.met fromv 0 >>= fun q =>
 match q with
 | .inl u => (
  some ((⟨u.2, 0, 0⟩ : zp), u.1)
 )
 | .inr u2 => (
  some ((⟨u2.2.1, u2.2.2.1, u2.2.2.2⟩ : zp), u2.1)
 )
def zaO (rec_valid_walk_message : zG → Int → Int → Int → Int → Option (zp × (List (zf × zb)))) (rec_valid_walk_value : zG → Int → zb → Int → Option (zp × (List (zf × zb)))) (wv : zG) (message : Int) (v : zb) (d : Int) : Option (zp × (List (zf × zb))) :=
 if (v.Field == (-1)) then (
  some ((⟨0, 0, 0⟩ : zp), wv.met)
 ) else (
  idx wv.s message >>= fun x =>
  idx x.Fields v.Field >>= fun x2 =>
  if ((x2.Kind == 17) && (decide (d > 0))) then (
   rec_valid_walk_message wv x2.Of v.Record.At v.Record.To (IntKind.i64.wrap (d - 1)) >>= fun rv2 =>
   some ((⟨(IntKind.i64.wrap (rv2.1.depth + 1)), rv2.1.place, rv2.1.e⟩ : zp), rv2.2)
  ) else (
   cut wv.b v.Record.At v.Record.To >>= fun v3 =>
   zdy x2 v.Run v3 >>= fun rv3 =>
   if (rv3 != 0) then (
    some ((⟨0, v.Record.From, rv3⟩ : zp), wv.met)
   ) else (
    some ((⟨0, 0, 0⟩ : zp), wv.met)
   )
  )
 )
def zI : Nat → (zG → Int → Int → Int → Int → Option (zp × (List (zf × zb)))) × (zG → Int → zb → Int → Option (zp × (List (zf × zb))))
  | 0 => (fun _ _ _ _ _ => none, fun _ _ _ _ => none)
  | fuel + 1 => (fun wv message fromv tov d => zaW (zI fuel).1 (zI fuel).2 wv message fromv tov d, fun wv message v d => zaO (zI fuel).1 (zI fuel).2 wv message v d)
def zW (fuel : Nat) : zG → Int → Int → Int → Int → Option (zp × (List (zf × zb))) := (zI fuel).1
def zaN (fuel : Nat) : zG → Int → zb → Int → Option (zp × (List (zf × zb))) := (zI fuel).2
theorem zeh {d : Int} {message : Int} {rec_valid_walk_value : zG → Int → zb → Int → Option (zp × (List (zf × zb)))} {tov : Int} {wv : zG} {wv2 : (List (zf × zb))} {fromv2 : Int} {depth : Int} {wv2' : (List (zf × zb))} {fromv2' : Int} {depth' : Int} (h : zH d message rec_valid_walk_value tov wv wv2 fromv2 depth = some (.inl (wv2', fromv2', depth'))) : zan d message rec_valid_walk_value tov wv wv2 fromv2 depth = zan d message rec_valid_walk_value tov wv wv2' fromv2' depth' := zaP (body := fun s : ((List (zf × zb)) × Int × Int) => zH d message rec_valid_walk_value tov wv s.1 s.2.1 s.2.2) h
theorem zaL {d : Int} {message : Int} {rec_valid_walk_value : zG → Int → zb → Int → Option (zp × (List (zf × zb)))} {tov : Int} {wv : zG} {wv2 : (List (zf × zb))} {fromv2 : Int} {depth : Int} {oo_ : (((List (zf × zb)) × Int) ⊕ ((List (zf × zb)) × Int × Int × Int))} (h : zH d message rec_valid_walk_value tov wv wv2 fromv2 depth = some (.inr oo_)) : zan d message rec_valid_walk_value tov wv wv2 fromv2 depth = some oo_ := zaQ (body := fun s : ((List (zf × zb)) × Int × Int) => zH d message rec_valid_walk_value tov wv s.1 s.2.1 s.2.2) h
def zec (sv : (List zr)) (root : Int) (d : Int) : Option Int :=
 zcO sv >>= fun rv =>
 if (!rv) then (
  some 9
 ) else (
  if ((decide (root < 0)) || ((decide (root ≥ (sv.length : Int))) || ((decide (d < 0)) || (decide (d > 64))))) then (
   some 2
  ) else (
   some 0
  )
 )
def zdg (fuel : Nat) (sv : (List zr)) (root : Int) (b : (List UInt8)) (d : Int) : Option zp :=
 zec sv root d >>= fun rv =>
 if (rv != 0) then (
  some (⟨0, 0, rv⟩ : zp)
 ) else (
  zW fuel (⟨sv, b, ([] : (List (zf × zb)))⟩ : zG) root 0 (b.length : Int) d >>= fun rv3 =>
  some rv3.1
 )
def zdx (fuel : Nat) (sv : (List zr)) (root : Int) (b : (List UInt8)) (d : Int) : Option (Int × Int) :=
 zdg fuel sv root b d >>= fun rv =>
 some (rv.place, rv.e)
def zaD (fuel : Nat) (sv : (List zr)) (root : Int) (b : (List UInt8)) (d : Int) : Option Bool :=
 zdx fuel sv root b d >>= fun rv =>
 some (rv.2 == 0)
def zbf (fuel : Nat)  : Option Bool :=
 (
  zaD fuel ([(⟨[109], ([(⟨[97], 1, 17, false, false, 0⟩ : ze)] : (List ze))⟩ : zr)] : (List zr)) 0 ([(10 : UInt8), (2 : UInt8), (10 : UInt8), (0 : UInt8)] : List UInt8) 2 >>= fun rv =>
  if rv then (
   zaD fuel ([(⟨[109], ([(⟨[97], 1, 17, false, false, 0⟩ : ze)] : (List ze))⟩ : zr)] : (List zr)) 0 ([(10 : UInt8), (2 : UInt8), (10 : UInt8), (0 : UInt8)] : List UInt8) 1 >>= fun rv2 =>
   some (!rv2)
  ) else (
   some false
  )
 ) >>= fun g =>
 some g
def zca (fuel : Nat) (sv : (List zr)) (root : Int) (b : (List UInt8)) : Option (Int × Int) :=
 zdg fuel sv root b 64 >>= fun rv =>
 if (rv.e != 0) then (
  some (0, rv.e)
 ) else (
  some (rv.depth, 0)
 )
def zaA (fuel : Nat) (sv : (List zr)) (root : Int) (av : (List UInt8)) (b : (List UInt8)) (d : Int) : Option Bool :=
 zbf fuel >>= fun rv =>
 if (!rv) then (
  some false
 ) else (
  zbx sv >>= fun rv2 =>
  if ((!rv2) || (decide ((IntKind.i64.wrap ((av.length : Int) + (b.length : Int))) > 1500))) then (
   some true
  ) else (
   app 1 ([] : (List UInt8)) av >>= fun v2 =>
   app 1 v2 b >>= fun v3 =>
   zaD fuel sv root av d >>= fun rv3 =>
   zaD fuel sv root b d >>= fun rv4 =>
   zaD fuel sv root v3 d >>= fun rv5 =>
   (
    if rv3 then (
     if (!(rv4 == rv5)) then (
      some true
     ) else (
      if (!rv3) then (
       if rv5 then (
        if rv4 then (
         if ((av.length : Int) == 0) then (
          some true
         ) else (
          if rv3 then (
           if (decide (d < 64)) then (
            zaD fuel sv root av (IntKind.i64.wrap (d + 1)) >>= fun rv6 =>
            some (!rv6)
           ) else (
            some false
           )
          ) else (
           some false
          )
         )
        ) else (
         if rv3 then (
          if (decide (d < 64)) then (
           zaD fuel sv root av (IntKind.i64.wrap (d + 1)) >>= fun rv7 =>
           some (!rv7)
          ) else (
           some false
          )
         ) else (
          some false
         )
        )
       ) else (
        if rv3 then (
         if (decide (d < 64)) then (
          zaD fuel sv root av (IntKind.i64.wrap (d + 1)) >>= fun rv8 =>
          some (!rv8)
         ) else (
          some false
         )
        ) else (
         some false
        )
       )
      ) else (
       if rv3 then (
        if (decide (d < 64)) then (
         zaD fuel sv root av (IntKind.i64.wrap (d + 1)) >>= fun rv9 =>
         some (!rv9)
        ) else (
         some false
        )
       ) else (
        some false
       )
      )
     )
    ) else (
     if (!rv3) then (
      if rv5 then (
       if rv4 then (
        if ((av.length : Int) == 0) then (
         some true
        ) else (
         if rv3 then (
          if (decide (d < 64)) then (
           zaD fuel sv root av (IntKind.i64.wrap (d + 1)) >>= fun rv10 =>
           some (!rv10)
          ) else (
           some false
          )
         ) else (
          some false
         )
        )
       ) else (
        if rv3 then (
         if (decide (d < 64)) then (
          zaD fuel sv root av (IntKind.i64.wrap (d + 1)) >>= fun rv11 =>
          some (!rv11)
         ) else (
          some false
         )
        ) else (
         some false
        )
       )
      ) else (
       if rv3 then (
        if (decide (d < 64)) then (
         zaD fuel sv root av (IntKind.i64.wrap (d + 1)) >>= fun rv12 =>
         some (!rv12)
        ) else (
         some false
        )
       ) else (
        some false
       )
      )
     ) else (
      if rv3 then (
       if (decide (d < 64)) then (
        zaD fuel sv root av (IntKind.i64.wrap (d + 1)) >>= fun rv13 =>
        some (!rv13)
       ) else (
        some false
       )
      ) else (
       some false
      )
     )
    )
   ) >>= fun g =>
   if g then (
    some false
   ) else (
    if ((!rv3) || (!rv4)) then (
     some true
    ) else (
     zca fuel sv root av >>= fun rv14 =>
     zca fuel sv root b >>= fun rv15 =>
     zca fuel sv root v3 >>= fun rv16 =>
     (
      if ((IntKind.i64.wrap ((IntKind.i64.wrap ((IntKind.i64.wrap rv14.2) + (IntKind.i64.wrap rv15.2))) + (IntKind.i64.wrap rv16.2))) == 0) then (
       if (rv16.1 == (if rv14.1 < rv15.1 then rv15.1 else rv14.1)) then (
        if (decide (rv16.1 ≤ d)) then (
         if (rv16.1 == 0) then (
          some true
         ) else (
          zaD fuel sv root v3 (IntKind.i64.wrap (rv16.1 - 1)) >>= fun rv17 =>
          some (!rv17)
         )
        ) else (
         some false
        )
       ) else (
        some false
       )
      ) else (
       some false
      )
     ) >>= fun g2 =>
     some g2
    )
   )
  )
 )
end
end Go.Proofs.Ytnfembipjdohcaa
