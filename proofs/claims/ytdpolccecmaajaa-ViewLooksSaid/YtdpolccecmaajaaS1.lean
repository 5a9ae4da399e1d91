/-
  What the Go functions do, as plain functions. No condition.
-/
import Derived.Test.YtdpolccecmaajaaK2
namespace Go.Proofs.Ytdpolccecmaajaa
open Go
set_option linter.unusedVariables false
abbrev Str := List UInt8
structure zqn where
  a0 : Str
  a1 : Str
  a2 : Str
  a3 : Str
  a4 : Str
  a5 : Str
  a6 : Str
  a7 : Str
  a8 : Str
  a9 : Str
  a10 : Str
  a11 : Str
  a12 : Str
  a13 : Str
  a14 : Str deriving DecidableEq
structure zf where
  name : Str
  wire : Int deriving DecidableEq
def zh : Rp zf := ⟨2, true, fun x => [.str x.name, .int .i64 x.wire], fun _ => rfl, by decide⟩
structure zd where
  Name : Str
  Number : Int
  Kind : Int
  Repeated : Bool
  Packed : Bool
  Of : Int deriving DecidableEq
def za : Rp zd := ⟨6, true, fun x => [.str x.Name, .int .i64 x.Number, .int .i64 x.Kind, .bool x.Repeated, .bool x.Packed, .int .i64 x.Of], fun _ => rfl, by decide⟩
structure zi where
  Name : Str
  Fields : (List zd) deriving DecidableEq
def zk : Rp zi := ⟨2, true, fun x => [.str x.Name, .sl x.Fields.length za.size (x.Fields.flatMap za.lv)], fun _ => rfl, by decide⟩
structure zU where
  Number : Int
  Wire : Int deriving DecidableEq
def zbi : Rp zU := ⟨2, true, fun x => [.int .i64 x.Number, .int .i64 x.Wire], fun _ => rfl, by decide⟩
structure ze where
  Number : Int
  Wire : Int
  From : Int
  At : Int
  To : Int deriving DecidableEq
def zg : Rp ze := ⟨5, true, fun x => [.int .i64 x.Number, .int .i64 x.Wire, .int .i64 x.From, .int .i64 x.At, .int .i64 x.To], fun _ => rfl, by decide⟩
structure zhD where
  message : Int
  name : Str deriving DecidableEq
structure zgB where
  message : Int
  number : Int deriving DecidableEq
structure zhE where
  size : Int
  kinds : (List Int)
  names : (List (zhD × Bool))
  numbers : (List (zgB × Bool))
structure zku where
  Message : Int
  Field : Int
  What : Int deriving DecidableEq
structure zo where
  number : Int
  wire : Int deriving DecidableEq
def zt : Rp zo := ⟨2, true, fun x => [.int .i64 x.number, .int .i64 x.wire], fun _ => rfl, by decide⟩
structure zq where
  field : Int
  run : Bool
  e : Int deriving DecidableEq
def zu : Rp zq := ⟨3, true, fun x => [.int .i64 x.field, .bool x.run, .int .u8 x.e], fun _ => rfl, by decide⟩
structure zb where
  Record : ze
  Field : Int
  Run : Bool deriving DecidableEq
def zc : Rp zb := ⟨7, true, fun x => [.int .i64 x.Record.Number, .int .i64 x.Record.Wire, .int .i64 x.Record.From, .int .i64 x.Record.At, .int .i64 x.Record.To, .int .i64 x.Field, .bool x.Run], fun _ => rfl, by decide⟩
structure zn where
  R : ze
  Field : Int
  Run : Bool deriving DecidableEq
def zp : Rp zn := ⟨7, true, fun x => [.int .i64 x.R.Number, .int .i64 x.R.Wire, .int .i64 x.R.From, .int .i64 x.R.At, .int .i64 x.R.To, .int .i64 x.Field, .bool x.Run], fun _ => rfl, by decide⟩
end Go.Proofs.Ytdpolccecmaajaa
namespace Go.Proofs.Ytdpolccecmaajaa
open Go
set_option linter.unusedVariables false
noncomputable section
def zao (n : Int) : Option (List UInt8) :=
 if (decide (n < 0)) then (
  none
 ) else (
  if (decide ((IntKind.i64.wrap (n - (IntKind.i64.wrap (0 - 0)))) > 0)) then (
   mkO 1 (0 : UInt8) (IntKind.i64.wrap (n - (IntKind.i64.wrap (0 - 0)))) (IntKind.i64.wrap (n - (IntKind.i64.wrap (0 - 0)))) >>= fun v =>
   cut v 0 0 >>= fun v2 =>
   some v2
  ) else (
   some []
  )
 )
def zB (slices : (List (List UInt8))) (size : Int) (v : Int) : Option ((Int × Int) ⊕ Int) :=
 if (decide (v < (slices.length : Int))) then (
  idx slices v >>= fun x =>
  if (decide ((IntKind.i64.wrap (size + (x.length : Int))) < 0)) then (
   none
  ) else (
   some (.inl ((IntKind.i64.wrap (size + (x.length : Int))), (IntKind.i64.wrap (v + 1))))
  )
 ) else (
  some (.inr size)
 )
def zS (slices : (List (List UInt8))) (size : Int) (v : Int) : Option Int := zaF (fun s : (Int × Int) => zB slices s.1 s.2) (size, v)
def zC (slices : (List (List UInt8))) (newslice : (List UInt8)) (v2 : Int) : Option (((List UInt8) × Int) ⊕ (List UInt8)) :=
 if (decide (v2 < (slices.length : Int))) then (
  idx slices v2 >>= fun x2 =>
  app 1 newslice x2 >>= fun v3 =>
  some (.inl (v3, (IntKind.i64.wrap (v2 + 1))))
 ) else (
  some (.inr newslice)
 )
def zT (slices : (List (List UInt8))) (newslice : (List UInt8)) (v2 : Int) : Option (List UInt8) := zaF (fun s : ((List UInt8) × Int) => zC slices s.1 s.2) (newslice, v2)
def zaf (slices : (List (List UInt8))) : Option (List UInt8) :=
 zS slices 0 0 >>= fun q =>
 zao q >>= fun rv =>
 zT slices rv 0 >>= fun q2 =>
 some q2
theorem zcr {slices : (List (List UInt8))} {size : Int} {v : Int} {size' : Int} {v' : Int} (h : zB slices size v = some (.inl (size', v'))) : zS slices size v = zS slices size' v' := zar (body := fun s : (Int × Int) => zB slices s.1 s.2) h
theorem zcs {slices : (List (List UInt8))} {size : Int} {v : Int} {oo_ : Int} (h : zB slices size v = some (.inr oo_)) : zS slices size v = some oo_ := zas (body := fun s : (Int × Int) => zB slices s.1 s.2) h
theorem zct {slices : (List (List UInt8))} {newslice : (List UInt8)} {v2 : Int} {newslice' : (List UInt8)} {v2' : Int} (h : zC slices newslice v2 = some (.inl (newslice', v2'))) : zT slices newslice v2 = zT slices newslice' v2' := zar (body := fun s : ((List UInt8) × Int) => zC slices s.1 s.2) h
theorem zcu {slices : (List (List UInt8))} {newslice : (List UInt8)} {v2 : Int} {oo_ : (List UInt8)} (h : zC slices newslice v2 = some (.inr oo_)) : zT slices newslice v2 = some oo_ := zas (body := fun s : ((List UInt8) × Int) => zC slices s.1 s.2) h
end
end Go.Proofs.Ytdpolccecmaajaa
namespace Go.Proofs.Ytdpolccecmaajaa
open Go
set_option linter.unusedVariables false
noncomputable section
def zaJ (av : (List UInt8)) (b : (List UInt8)) : Option Bool :=
 some (av == b)
end
end Go.Proofs.Ytdpolccecmaajaa
namespace Go.Proofs.Ytdpolccecmaajaa
open Go
set_option linter.unusedVariables false
noncomputable section
def zag (v : (List UInt8)) (wv : Int) (v2 : Int) : Option ((Int × Int) ⊕ (Unit ⊕ (Int × Int × Int))) :=
 if (decide (v2 < (v.length : Int))) then (
  idx v v2 >>= fun x =>
  if ((v2 == 9) && (decide ((x.toNat : Int) > 1))) then (
   some (.inr (.inr (0, 0, 4)))
  ) else (
   shlO .u64 (IntKind.u64.wrap (andI .u8 (x.toNat : Int) 127)) (IntKind.i64.wrap (7 * v2)) >>= fun v4 =>
   if (decide ((x.toNat : Int) < 128)) then (
    some (.inr (.inr ((orI .u64 wv v4), (IntKind.i64.wrap (v2 + 1)), 0)))
   ) else (
    some (.inl ((orI .u64 wv v4), (IntKind.i64.wrap (v2 + 1))))
   )
  )
 ) else (
  some (.inr (.inl ()))
 )
def zbv (v : (List UInt8)) (wv : Int) (v2 : Int) : Option (Unit ⊕ (Int × Int × Int)) := zaF (fun s : (Int × Int) => zag v s.1 s.2) (wv, v2)
def zbQ (b : (List UInt8)) : Option (Int × Int × Int) :=
 cut b 0 (if (10 : Int) < (b.length : Int) then 10 else (b.length : Int)) >>= fun v =>
 zbv v 0 0 >>= fun q =>
 match q with
 | .inl u => (
  some (0, 0, 3)
 )
 | .inr u2 => (
  some (u2.1, u2.2.1, u2.2.2)
 )
theorem zfY {v : (List UInt8)} {wv : Int} {v2 : Int} {wv' : Int} {v2' : Int} (h : zag v wv v2 = some (.inl (wv', v2'))) : zbv v wv v2 = zbv v wv' v2' := zar (body := fun s : (Int × Int) => zag v s.1 s.2) h
theorem zck {v : (List UInt8)} {wv : Int} {v2 : Int} {oo_ : (Unit ⊕ (Int × Int × Int))} (h : zag v wv v2 = some (.inr oo_)) : zbv v wv v2 = some oo_ := zas (body := fun s : (Int × Int) => zag v s.1 s.2) h
def zL (atv : Int) (b : (List UInt8)) (n : Int) : Option (Int ⊕ Int) :=
 (
  if (decide ((IntKind.i64.wrap (atv + n)) < (b.length : Int))) then (
   if (decide (n < 10)) then (
    idx b (IntKind.i64.wrap (atv + n)) >>= fun x =>
    some (decide ((x.toNat : Int) ≥ 128))
   ) else (
    some false
   )
  ) else (
   some false
  )
 ) >>= fun g =>
 if g then (
  some (.inl (IntKind.i64.wrap (n + 1)))
 ) else (
  some (.inr n)
 )
def zat (atv : Int) (b : (List UInt8)) (n : Int) : Option Int := zaF (fun s : Int => zL atv b s) n
def zP (atv : Int) (b : (List UInt8)) (wv : Int) (i : Int) : Option ((Int × Int) ⊕ Int) :=
 if (decide (i ≥ 0)) then (
  idx b (IntKind.i64.wrap (atv + i)) >>= fun x3 =>
  some (.inl ((IntKind.u64.wrap ((IntKind.u64.wrap (128 * wv)) + (IntKind.u64.wrap (Int.tmod (x3.toNat : Int) 128)))), (IntKind.i64.wrap (i - 1))))
 ) else (
  some (.inr wv)
 )
def zau (atv : Int) (b : (List UInt8)) (wv : Int) (i : Int) : Option Int := zaF (fun s : (Int × Int) => zP atv b s.1 s.2) (wv, i)
def zax (b : (List UInt8)) (atv : Int) : Option (Int × Int × Int) :=
 zat atv b 0 >>= fun q =>
 if (q == 10) then (
  some (0, 0, 4)
 ) else (
  if ((IntKind.i64.wrap (atv + q)) == (b.length : Int)) then (
   some (0, 0, 3)
  ) else (
   (
    if (q == 9) then (
     idx b (IntKind.i64.wrap (atv + q)) >>= fun x2 =>
     some (decide ((x2.toNat : Int) > 1))
    ) else (
     some false
    )
   ) >>= fun g2 =>
   if g2 then (
    some (0, 0, 4)
   ) else (
    zau atv b 0 q >>= fun q2 =>
    some (q2, (IntKind.i64.wrap (q + 1)), 0)
   )
  )
 )
theorem zea {atv : Int} {b : (List UInt8)} {n : Int} {n' : Int} (h : zL atv b n = some (.inl n')) : zat atv b n = zat atv b n' := zar (body := fun s : Int => zL atv b s) h
theorem zbj {atv : Int} {b : (List UInt8)} {n : Int} {oo_ : Int} (h : zL atv b n = some (.inr oo_)) : zat atv b n = some oo_ := zas (body := fun s : Int => zL atv b s) h
theorem zeb {atv : Int} {b : (List UInt8)} {wv : Int} {i : Int} {wv' : Int} {i' : Int} (h : zP atv b wv i = some (.inl (wv', i'))) : zau atv b wv i = zau atv b wv' i' := zar (body := fun s : (Int × Int) => zP atv b s.1 s.2) h
theorem zec {atv : Int} {b : (List UInt8)} {wv : Int} {i : Int} {oo_ : Int} (h : zP atv b wv i = some (.inr oo_)) : zau atv b wv i = some oo_ := zas (body := fun s : (Int × Int) => zP atv b s.1 s.2) h
def zdi (b : (List UInt8)) : Option (Int × Int) :=
 zbQ b >>= fun rv =>
 some (rv.2.1, rv.2.2)
end
end Go.Proofs.Ytdpolccecmaajaa
namespace Go.Proofs.Ytdpolccecmaajaa
open Go
set_option linter.unusedVariables false
noncomputable section
def zcc (wire : Int) : Option Bool :=
 if (wire == 0) then (
  if (wire == 0) then (
   some true
  ) else (
   some false
  )
 ) else (
  if (wire == 1) then (
   if (wire == 1) then (
    some true
   ) else (
    some false
   )
  ) else (
   if (wire == 2) then (
    if (wire == 2) then (
     some true
    ) else (
     some false
    )
   ) else (
    if (wire == 5) then (
     some true
    ) else (
     some false
    )
   )
  )
 )
def zeq (t : zU) : Option Bool :=
 (
  if (decide (t.Number ≥ 1)) then (
   if (decide (t.Number ≤ 536870911)) then (
    zcc t.Wire >>= fun rv =>
    some rv
   ) else (
    some false
   )
  ) else (
   some false
  )
 ) >>= fun g =>
 some g
def zfl (b : (List UInt8)) : Option (zU × Int × Int) :=
 zbQ b >>= fun rv =>
 if (rv.2.2 != 0) then (
  some ((⟨0, 0⟩ : zU), 0, rv.2.2)
 ) else (
  zeq (⟨(IntKind.i64.wrap (if (536870912 : Int) < (shrI .u64 rv.1 3) then 536870912 else (shrI .u64 rv.1 3))), (IntKind.i64.wrap (andI .u64 rv.1 7))⟩ : zU) >>= fun rv2 =>
  if (!rv2) then (
   some ((⟨0, 0⟩ : zU), 0, 5)
  ) else (
   some ((⟨(IntKind.i64.wrap (if (536870912 : Int) < (shrI .u64 rv.1 3) then 536870912 else (shrI .u64 rv.1 3))), (IntKind.i64.wrap (andI .u64 rv.1 7))⟩ : zU), rv.2.1, 0)
  )
 )
def zaW (number : Int) (wire : Int) : Option Bool :=
 some ((decide (number ≥ 1)) && ((decide (number ≤ 536870911)) && ((wire == 0) || ((wire == 1) || ((wire == 2) || (wire == 5))))))
def zbe (b : (List UInt8)) (atv : Int) : Option (Int × Int × Int × Int) :=
 zax b atv >>= fun rv =>
 if (rv.2.2 != 0) then (
  some (0, 0, 0, rv.2.2)
 ) else (
  (
   if (decide (rv.1 > 4294967295)) then (
    some true
   ) else (
    zaW (IntKind.i64.wrap (IntKind.u64.wrap (Int.tdiv rv.1 8))) (IntKind.i64.wrap (Int.tmod rv.1 8)) >>= fun rv2 =>
    some (!rv2)
   )
  ) >>= fun g =>
  if g then (
   some (0, 0, 0, 5)
  ) else (
   some ((IntKind.i64.wrap (IntKind.u64.wrap (Int.tdiv rv.1 8))), (IntKind.i64.wrap (Int.tmod rv.1 8)), rv.2.1, 0)
  )
 )
end
end Go.Proofs.Ytdpolccecmaajaa
namespace Go.Proofs.Ytdpolccecmaajaa
open Go
set_option linter.unusedVariables false
noncomputable section
def zdf (wire : Int) (b : (List UInt8)) : Option (Int × Int × Int) :=
 if (wire == 0) then (
  zdi b >>= fun rv =>
  some (0, rv.1, rv.2)
 ) else (
  ((
   if (wire == 1) then (
    some (0, 0, 8)
   ) else (
    if (wire == 5) then (
     some (0, 0, 4)
    ) else (
     if (wire == 2) then (
      zbQ b >>= fun rv2 =>
      some (rv2.2.1, rv2.2.2, rv2.1)
     ) else (
      some (0, 0, 0)
     )
    )
   )
   : Option (Int × Int × Int))) >>= fun p =>
  if (p.2.1 != 0) then (
   some (0, 0, p.2.1)
  ) else (
   if (decide (p.2.2 > (IntKind.u64.wrap (IntKind.i64.wrap ((b.length : Int) - p.1))))) then (
    some (0, 0, 3)
   ) else (
    some (p.1, (IntKind.i64.wrap (p.1 + (IntKind.i64.wrap p.2.2))), 0)
   )
  )
 )
def zde (b : (List UInt8)) (fromv : Int) : Option (ze × Int) :=
 if ((decide (fromv < 0)) || (decide (fromv ≥ (b.length : Int)))) then (
  some ((⟨0, 0, 0, 0, 0⟩ : ze), 2)
 ) else (
  cut b fromv (b.length : Int) >>= fun v2 =>
  zfl v2 >>= fun rv =>
  if (rv.2.2 != 0) then (
   some ((⟨0, 0, 0, 0, 0⟩ : ze), rv.2.2)
  ) else (
   cut b (IntKind.i64.wrap (fromv + rv.2.1)) (b.length : Int) >>= fun v3 =>
   zdf rv.1.Wire v3 >>= fun rv2 =>
   if (rv2.2.2 != 0) then (
    some ((⟨0, 0, 0, 0, 0⟩ : ze), rv2.2.2)
   ) else (
    some ((⟨rv.1.Number, rv.1.Wire, fromv, (IntKind.i64.wrap ((IntKind.i64.wrap (fromv + rv.2.1)) + rv2.1)), (IntKind.i64.wrap ((IntKind.i64.wrap (fromv + rv.2.1)) + rv2.2.1))⟩ : ze), 0)
   )
  )
 )
def zaK (b : (List UInt8)) (fromv : Int) : Option (ze × Int) :=
 if ((decide (fromv < 0)) || (decide (fromv ≥ (b.length : Int)))) then (
  some ((⟨0, 0, 0, 0, 0⟩ : ze), 2)
 ) else (
  zbe b fromv >>= fun rv =>
  if (rv.2.2.2 != 0) then (
   some ((⟨0, 0, 0, 0, 0⟩ : ze), rv.2.2.2)
  ) else (
   ((
    if (rv.2.1 == 5) then (
     some 4
    ) else (
     some 8
    )
    : Option Int)) >>= fun p =>
   ((
    if (rv.2.1 == 0) then (
     zax b (IntKind.i64.wrap (fromv + rv.2.2.1)) >>= fun rv2 =>
     if (rv2.2.2 != 0) then (
      some (.inr rv2.2.2)
     ) else (
      some (.inl rv2.2.1)
     )
    ) else (
     some (.inl p)
    )
    : Option (Int ⊕ Int))) >>= fun p2 =>
   match p2 with
   | .inl u => (
    ((
     if (rv.2.1 == 2) then (
      zax b (IntKind.i64.wrap (fromv + rv.2.2.1)) >>= fun rv3 =>
      if (rv3.2.2 != 0) then (
       some (.inr rv3.2.2)
      ) else (
       if (decide (rv3.1 > (IntKind.u64.wrap (IntKind.i64.wrap ((IntKind.i64.wrap ((b.length : Int) - (IntKind.i64.wrap (fromv + rv.2.2.1)))) - rv3.2.1))))) then (
        some (.inr 3)
       ) else (
        some (.inl ((IntKind.i64.wrap ((IntKind.i64.wrap ((b.length : Int) - (IntKind.i64.wrap (fromv + rv.2.2.1)))) - rv3.2.1)), (IntKind.i64.wrap rv3.1), (IntKind.i64.wrap ((IntKind.i64.wrap (fromv + rv.2.2.1)) + rv3.2.1))))
       )
      )
     ) else (
      some (.inl ((IntKind.i64.wrap ((b.length : Int) - (IntKind.i64.wrap (fromv + rv.2.2.1)))), u, (IntKind.i64.wrap (fromv + rv.2.2.1))))
     )
     : Option ((Int × Int × Int) ⊕ Int))) >>= fun p3 =>
    match p3 with
    | .inl u2 => (
     if (decide (u2.2.1 > u2.1)) then (
      some ((⟨0, 0, 0, 0, 0⟩ : ze), 3)
     ) else (
      some ((⟨rv.1, rv.2.1, fromv, u2.2.2, (IntKind.i64.wrap (u2.2.2 + u2.2.1))⟩ : ze), 0)
     )
    )
    | .inr u3 => (
     some ((⟨0, 0, 0, 0, 0⟩ : ze), u3)
    )
   )
   | .inr u4 => (
    some ((⟨0, 0, 0, 0, 0⟩ : ze), u4)
   )
  )
 )
def zcz (b : (List UInt8)) (fromv : Int) (tov : Int) : Option (List UInt8) :=
 if ((decide (fromv < 0)) || ((decide (fromv > tov)) || (decide (tov > (b.length : Int))))) then (
  some []
 ) else (
  cut b fromv tov >>= fun v2 =>
  zaf ([v2] : (List (List UInt8))) >>= fun rv =>
  some rv
 )
def zcy (b : (List UInt8)) (rv : ze) : Option (List UInt8) :=
 zcz b rv.From rv.To >>= fun rv2 =>
 some rv2
end
end Go.Proofs.Ytdpolccecmaajaa
namespace Go.Proofs.Ytdpolccecmaajaa
open Go
set_option linter.unusedVariables false
noncomputable section
def zeA  : Option (List (Int × zf)) :=
 some (mput (mput (mput (mput (mput (mput (mput (mput (mput (mput (mput (mput (mput (mput (mput (mput (mput ([] : (List (Int × zf))) 1 (⟨[105, 110, 116, 51, 50], 0⟩ : zf)) 2 (⟨[105, 110, 116, 54, 52], 0⟩ : zf)) 3 (⟨[117, 105, 110, 116, 51, 50], 0⟩ : zf)) 4 (⟨[117, 105, 110, 116, 54, 52], 0⟩ : zf)) 5 (⟨[115, 105, 110, 116, 51, 50], 0⟩ : zf)) 6 (⟨[115, 105, 110, 116, 54, 52], 0⟩ : zf)) 7 (⟨[98, 111, 111, 108], 0⟩ : zf)) 8 (⟨[101, 110, 117, 109], 0⟩ : zf)) 9 (⟨[102, 105, 120, 101, 100, 51, 50], 5⟩ : zf)) 10 (⟨[115, 102, 105, 120, 101, 100, 51, 50], 5⟩ : zf)) 11 (⟨[102, 108, 111, 97, 116], 5⟩ : zf)) 12 (⟨[102, 105, 120, 101, 100, 54, 52], 1⟩ : zf)) 13 (⟨[115, 102, 105, 120, 101, 100, 54, 52], 1⟩ : zf)) 14 (⟨[100, 111, 117, 98, 108, 101], 1⟩ : zf)) 15 (⟨[115, 116, 114, 105, 110, 103], 2⟩ : zf)) 16 (⟨[98, 121, 116, 101, 115], 2⟩ : zf)) 17 (⟨[109, 101, 115, 115, 97, 103, 101], 2⟩ : zf))
def zdw (k : Int) : Option (Int × Int) :=
 zeA >>= fun rv =>
 if (!(mget rv k).isSome) then (
  some (0, 2)
 ) else (
  some (((mget rv k).getD (⟨[], 0⟩ : zf)).wire, 0)
 )
def zaX (k : Int) : Option Bool :=
 some ((decide (k ≥ 1)) && (decide (k ≤ 17)))
def zdd (k : Int) : Option Bool :=
 zdw k >>= fun rv =>
 some ((rv.2 == 0) && (rv.1 != 2))
def zbf (k : Int) : Option Int :=
 if (decide (k ≥ 15)) then (
  some 2
 ) else (
  if (decide (k ≥ 12)) then (
   some 1
  ) else (
   if (decide (k ≥ 9)) then (
    some 5
   ) else (
    some 0
   )
  )
 )
def zaN (k : Int) : Option Bool :=
 some ((decide (k ≥ 1)) && (decide (k ≤ 14)))
end
end Go.Proofs.Ytdpolccecmaajaa
namespace Go.Proofs.Ytdpolccecmaajaa
open Go
set_option linter.unusedVariables false
noncomputable section
def zM (m : zi) (number : Int) (i : Int) : Option (Int ⊕ (Unit ⊕ Int)) :=
 if (decide (i < (m.Fields.length : Int))) then (
  idx m.Fields i >>= fun x =>
  if (x.Number == number) then (
   some (.inr (.inr i))
  ) else (
   some (.inl (IntKind.i64.wrap (i + 1)))
  )
 ) else (
  some (.inr (.inl ()))
 )
def zan (m : zi) (number : Int) (i : Int) : Option (Unit ⊕ Int) := zaF (fun s : Int => zM m number s) i
def zaq (m : zi) (number : Int) : Option Int :=
 zan m number 0 >>= fun q =>
 match q with
 | .inl u => (
  some (-1)
 )
 | .inr u2 => (
  some u2
 )
theorem zdT {m : zi} {number : Int} {i : Int} {i' : Int} (h : zM m number i = some (.inl i')) : zan m number i = zan m number i' := zar (body := fun s : Int => zM m number s) h
theorem zbX {m : zi} {number : Int} {i : Int} {oo_ : (Unit ⊕ Int)} (h : zM m number i = some (.inr oo_)) : zan m number i = some oo_ := zas (body := fun s : Int => zM m number s) h
end
end Go.Proofs.Ytdpolccecmaajaa
namespace Go.Proofs.Ytdpolccecmaajaa
open Go
set_option linter.unusedVariables false
noncomputable section
def zcA (f : zd) (v : Int) : Option Bool :=
 some (f.Number == v)
def zj (sv : (List zd)) (v : Int) (v2 : Int) : Option (Int ⊕ (Unit ⊕ Int)) :=
 if (decide (v2 < (sv.length : Int))) then (
  idx sv v2 >>= fun x =>
  zcA x v >>= fun rv =>
  if rv then (
   some (.inr (.inr v2))
  ) else (
   some (.inl (IntKind.i64.wrap (v2 + 1)))
  )
 ) else (
  some (.inr (.inl ()))
 )
def zw (sv : (List zd)) (v : Int) (v2 : Int) : Option (Unit ⊕ Int) := zaF (fun s : Int => zj sv v s) v2
def zG (sv : (List zd)) (v : Int) : Option Int :=
 zw sv v 0 >>= fun q =>
 match q with
 | .inl u => (
  some (-1)
 )
 | .inr u2 => (
  some u2
 )
theorem zaB {sv : (List zd)} {v : Int} {v2 : Int} {v2' : Int} (h : zj sv v v2 = some (.inl v2')) : zw sv v v2 = zw sv v v2' := zar (body := fun s : Int => zj sv v s) h
theorem zX {sv : (List zd)} {v : Int} {v2 : Int} {oo_ : (Unit ⊕ Int)} (h : zj sv v v2 = some (.inr oo_)) : zw sv v v2 = some oo_ := zas (body := fun s : Int => zj sv v s) h
def zdN (m : zi) (number : Int) : Option Int :=
 zG m.Fields number >>= fun rv =>
 some rv
def zdO (f : zd) (wire : Int) : Option Bool :=
 (
  if f.Repeated then (
   if (wire == 2) then (
    zdd f.Kind >>= fun rv =>
    some rv
   ) else (
    some false
   )
  ) else (
   some false
  )
 ) >>= fun g =>
 some g
def zet (k : Int) (wire : Int) : Option Bool :=
 zdw k >>= fun rv =>
 some ((rv.2 == 0) && (rv.1 == wire))
def zcq (m : zi) (hv : zo) : Option zq :=
 zdN m hv.number >>= fun rv =>
 if (rv == (-1)) then (
  some (⟨(-1), false, 0⟩ : zq)
 ) else (
  idx m.Fields rv >>= fun x =>
  zdO x hv.wire >>= fun rv2 =>
  (
   if (!rv2) then (
    zet x.Kind hv.wire >>= fun rv3 =>
    some (!rv3)
   ) else (
    some false
   )
  ) >>= fun g =>
  if g then (
   some (⟨0, false, 6⟩ : zq)
  ) else (
   some (⟨rv, rv2, 0⟩ : zq)
  )
 )
def zdz (m : zi) (b : (List UInt8)) (fromv : Int) (met : (List (zo × zq))) : Option (zb × Int × (List (zo × zq))) :=
 zde b fromv >>= fun rv =>
 if (rv.2 != 0) then (
  some ((⟨(⟨0, 0, 0, 0, 0⟩ : ze), 0, false⟩ : zb), rv.2, met)
 ) else (
  ((
   if (!(mget met (⟨rv.1.Number, rv.1.Wire⟩ : zo)).isSome) then (
    zcq m (⟨rv.1.Number, rv.1.Wire⟩ : zo) >>= fun rv2 =>
    some ((mput met (⟨rv.1.Number, rv.1.Wire⟩ : zo) rv2), rv2.field, rv2.run, rv2.e)
   ) else (
    some (met, ((mget met (⟨rv.1.Number, rv.1.Wire⟩ : zo)).getD (⟨0, false, 0⟩ : zq)).field, ((mget met (⟨rv.1.Number, rv.1.Wire⟩ : zo)).getD (⟨0, false, 0⟩ : zq)).run, ((mget met (⟨rv.1.Number, rv.1.Wire⟩ : zo)).getD (⟨0, false, 0⟩ : zq)).e)
   )
   : Option ((List (zo × zq)) × Int × Bool × Int))) >>= fun p =>
  if (p.2.2.2 != 0) then (
   some ((⟨(⟨0, 0, 0, 0, 0⟩ : ze), 0, false⟩ : zb), p.2.2.2, p.1)
  ) else (
   some ((⟨rv.1, p.2.1, p.2.2.1⟩ : zb), 0, p.1)
  )
 )
def zaw (b : (List UInt8)) (m : zi) (l : (List zb)) (met : (List (zo × zq))) (fromv : Int) : Option (((List zb) × (List (zo × zq)) × Int) ⊕ ((List zb) ⊕ (Int × Int))) :=
 if (decide (fromv < (b.length : Int))) then (
  zdz m b fromv met >>= fun rv2 =>
  if (rv2.2.1 != 0) then (
   some (.inr (.inr (fromv, rv2.2.1)))
  ) else (
   app 56 l ([rv2.1] : (List zb)) >>= fun v =>
   some (.inl (v, rv2.2.2, rv2.1.Record.To))
  )
 ) else (
  some (.inr (.inl l))
 )
def zbR (b : (List UInt8)) (m : zi) (l : (List zb)) (met : (List (zo × zq))) (fromv : Int) : Option ((List zb) ⊕ (Int × Int)) := zaF (fun s : ((List zb) × (List (zo × zq)) × Int) => zaw b m s.1 s.2.1 s.2.2) (l, met, fromv)
def zbC (m : zi) (b : (List UInt8)) : Option ((List zb) × Int × Int) :=
 zbR b m [] ([] : (List (zo × zq))) 0 >>= fun q =>
 match q with
 | .inl u => (
  some (u, 0, 0)
 )
 | .inr u2 => (
  some ([], u2.1, u2.2)
 )
theorem zeR {b : (List UInt8)} {m : zi} {l : (List zb)} {met : (List (zo × zq))} {fromv : Int} {l' : (List zb)} {met' : (List (zo × zq))} {fromv' : Int} (h : zaw b m l met fromv = some (.inl (l', met', fromv'))) : zbR b m l met fromv = zbR b m l' met' fromv' := zar (body := fun s : ((List zb) × (List (zo × zq)) × Int) => zaw b m s.1 s.2.1 s.2.2) h
theorem zdk {b : (List UInt8)} {m : zi} {l : (List zb)} {met : (List (zo × zq))} {fromv : Int} {oo_ : ((List zb) ⊕ (Int × Int))} (h : zaw b m l met fromv = some (.inr oo_)) : zbR b m l met fromv = some oo_ := zas (body := fun s : ((List zb) × (List (zo × zq)) × Int) => zaw b m s.1 s.2.1 s.2.2) h
def zap  : Option Bool :=
 zbC (⟨[], ([(⟨[], 1, 1, true, false, 0⟩ : zd)] : (List zd))⟩ : zi) ([(8 : UInt8), (1 : UInt8), (10 : UInt8), (1 : UInt8), (1 : UInt8), (16 : UInt8), (1 : UInt8)] : List UInt8) >>= fun rv =>
 (
  if ((IntKind.i64.wrap rv.2.2) == 0) then (
   if ((rv.1.length : Int) == 3) then (
    idx rv.1 0 >>= fun x =>
    if (x.Field == 0) then (
     idx rv.1 0 >>= fun x2 =>
     if (!x2.Run) then (
      idx rv.1 1 >>= fun x3 =>
      if x3.Run then (
       idx rv.1 2 >>= fun x4 =>
       some (x4.Field == (-1))
      ) else (
       some false
      )
     ) else (
      some false
     )
    ) else (
     some false
    )
   ) else (
    some false
   )
  ) else (
   some false
  )
 ) >>= fun g =>
 some g
def zal (m : zi) : Option Bool :=
 some (decide ((m.Fields.length : Int) > 300))
def zes (m : zi) (b : (List UInt8)) (fromv : Int) : Option (zb × Int) :=
 zdz m b fromv ([] : (List (zo × zq))) >>= fun rv2 =>
 some (rv2.1, rv2.2.1)
def zaL (m : zi) (b : (List UInt8)) (fromv : Int) : Option (zn × Int) :=
 zaK b fromv >>= fun rv =>
 if (rv.2 != 0) then (
  some ((⟨(⟨0, 0, 0, 0, 0⟩ : ze), 0, false⟩ : zn), rv.2)
 ) else (
  zaq m rv.1.Number >>= fun rv2 =>
  if (decide (rv2 < 0)) then (
   some ((⟨rv.1, (-1), false⟩ : zn), 0)
  ) else (
   idx m.Fields rv2 >>= fun x =>
   (
    if x.Repeated then (
     zaN x.Kind >>= fun rv3 =>
     if rv3 then (
      some (rv.1.Wire == 2)
     ) else (
      some false
     )
    ) else (
     some false
    )
   ) >>= fun g =>
   if g then (
    some ((⟨rv.1, rv2, true⟩ : zn), 0)
   ) else (
    (
     zaX x.Kind >>= fun rv4 =>
     if (!rv4) then (
      some true
     ) else (
      zbf x.Kind >>= fun rv5 =>
      some (rv5 != rv.1.Wire)
     )
    ) >>= fun g2 =>
    if g2 then (
     some ((⟨(⟨0, 0, 0, 0, 0⟩ : ze), 0, false⟩ : zn), 6)
    ) else (
     some ((⟨rv.1, rv2, false⟩ : zn), 0)
    )
   )
  )
 )
def zK (b : (List UInt8)) (m : zi) (out : (List zn)) (atv : Int) : Option (((List zn) × Int) ⊕ ((List zn) ⊕ (Int × Int))) :=
 if (decide (atv < (b.length : Int))) then (
  zaL m b atv >>= fun rv =>
  if (rv.2 != 0) then (
   some (.inr (.inr (atv, rv.2)))
  ) else (
   app 56 out ([rv.1] : (List zn)) >>= fun v3 =>
   some (.inl (v3, rv.1.R.To))
  )
 ) else (
  some (.inr (.inl out))
 )
def zak (b : (List UInt8)) (m : zi) (out : (List zn)) (atv : Int) : Option ((List zn) ⊕ (Int × Int)) := zaF (fun s : ((List zn) × Int) => zK b m s.1 s.2) (out, atv)
def zaU (m : zi) (b : (List UInt8)) : Option ((List zn) × Int × Int) :=
 zak b m [] 0 >>= fun q =>
 match q with
 | .inl u => (
  some (u, 0, 0)
 )
 | .inr u2 => (
  some ([], u2.1, u2.2)
 )
theorem zcn {b : (List UInt8)} {m : zi} {out : (List zn)} {atv : Int} {out' : (List zn)} {atv' : Int} (h : zK b m out atv = some (.inl (out', atv'))) : zak b m out atv = zak b m out' atv' := zar (body := fun s : ((List zn) × Int) => zK b m s.1 s.2) h
theorem zbs {b : (List UInt8)} {m : zi} {out : (List zn)} {atv : Int} {oo_ : ((List zn) ⊕ (Int × Int))} (h : zK b m out atv = some (.inr oo_)) : zak b m out atv = some oo_ := zas (body := fun s : ((List zn) × Int) => zK b m s.1 s.2) h
def zam (av : zb) (b : zn) : Option Bool :=
 some ((decide (av.Record = b.R)) && ((av.Field == b.Field) && (av.Run == b.Run)))
def zH (rv5 : ((List zb) × Int × Int)) (rv6 : ((List zn) × Int × Int)) (i : Int) : Option (Int ⊕ (Unit ⊕ Unit)) :=
 if (decide (i < (rv5.1.length : Int))) then (
  idx rv5.1 i >>= fun x =>
  idx rv6.1 i >>= fun x2 =>
  zam x x2 >>= fun rv8 =>
  if (!rv8) then (
   some (.inr (.inr ()))
  ) else (
   some (.inl (IntKind.i64.wrap (i + 1)))
  )
 ) else (
  some (.inr (.inl ()))
 )
def zZ (rv5 : ((List zb) × Int × Int)) (rv6 : ((List zn) × Int × Int)) (i : Int) : Option (Unit ⊕ Unit) := zaF (fun s : Int => zH rv5 rv6 s) i
def zaO (m : zi) (b : (List UInt8)) (fromv : Int) : Option Bool :=
 zap >>= fun rv =>
 if (!rv) then (
  some false
 ) else (
  zal m >>= fun rv2 =>
  if (rv2 || (decide ((b.length : Int) > 2000))) then (
   some true
  ) else (
   zes m b fromv >>= fun rv3 =>
   zaL m b fromv >>= fun rv4 =>
   zbC m b >>= fun rv5 =>
   zaU m b >>= fun rv6 =>
   (
    if ((IntKind.i64.wrap rv3.2) != rv4.2) then (
     some true
    ) else (
     if ((IntKind.i64.wrap rv5.2.2) != rv6.2.2) then (
      some true
     ) else (
      if (rv5.2.1 != rv6.2.1) then (
       some true
      ) else (
       if ((rv5.1.length : Int) != (rv6.1.length : Int)) then (
        some true
       ) else (
        zam rv3.1 rv4.1 >>= fun rv7 =>
        some (!rv7)
       )
      )
     )
    )
   ) >>= fun g =>
   if g then (
    some false
   ) else (
    zZ rv5 rv6 0 >>= fun q =>
    match q with
    | .inl u => (
     some true
    )
    | .inr u2 => (
     some false
    )
   )
  )
 )
theorem zcS {rv5 : ((List zb) × Int × Int)} {rv6 : ((List zn) × Int × Int)} {i : Int} {i' : Int} (h : zH rv5 rv6 i = some (.inl i')) : zZ rv5 rv6 i = zZ rv5 rv6 i' := zar (body := fun s : Int => zH rv5 rv6 s) h
theorem zcT {rv5 : ((List zb) × Int × Int)} {rv6 : ((List zn) × Int × Int)} {i : Int} {oo_ : (Unit ⊕ Unit)} (h : zH rv5 rv6 i = some (.inr oo_)) : zZ rv5 rv6 i = some oo_ := zas (body := fun s : Int => zH rv5 rv6 s) h
def zbl (number : Int) (rv : ((List zb) × Int × Int)) (l : (List zb)) (v : Int) : Option (((List zb) × Int) ⊕ (List zb)) :=
 if (decide (v < (rv.1.length : Int))) then (
  idx rv.1 v >>= fun x =>
  if (x.Record.Number == number) then (
   app 56 l ([x] : (List zb)) >>= fun v2 =>
   some (.inl (v2, (IntKind.i64.wrap (v + 1))))
  ) else (
   some (.inl (l, (IntKind.i64.wrap (v + 1))))
  )
 ) else (
  some (.inr l)
 )
def zcM (number : Int) (rv : ((List zb) × Int × Int)) (l : (List zb)) (v : Int) : Option (List zb) := zaF (fun s : ((List zb) × Int) => zbl number rv s.1 s.2) (l, v)
def zcQ (m : zi) (b : (List UInt8)) (number : Int) : Option (List zb) :=
 zbC m b >>= fun rv =>
 zcM number rv [] 0 >>= fun q =>
 some q
theorem ziF {number : Int} {rv : ((List zb) × Int × Int)} {l : (List zb)} {v : Int} {l' : (List zb)} {v' : Int} (h : zbl number rv l v = some (.inl (l', v'))) : zcM number rv l v = zcM number rv l' v' := zar (body := fun s : ((List zb) × Int) => zbl number rv s.1 s.2) h
theorem ziG {number : Int} {rv : ((List zb) × Int × Int)} {l : (List zb)} {v : Int} {oo_ : (List zb)} (h : zbl number rv l v = some (.inr oo_)) : zcM number rv l v = some oo_ := zas (body := fun s : ((List zb) × Int) => zbl number rv s.1 s.2) h
def zah (b : (List UInt8)) (rv : ((List zb) × Int × Int)) (l : (List (List UInt8))) (v : Int) : Option (((List (List UInt8)) × Int) ⊕ (List (List UInt8))) :=
 if (decide (v < (rv.1.length : Int))) then (
  idx rv.1 v >>= fun x =>
  if (x.Field == (-1)) then (
   zcy b x.Record >>= fun rv2 =>
   app 24 l ([rv2] : (List (List UInt8))) >>= fun v2 =>
   some (.inl (v2, (IntKind.i64.wrap (v + 1))))
  ) else (
   some (.inl (l, (IntKind.i64.wrap (v + 1))))
  )
 ) else (
  some (.inr l)
 )
def zbd (b : (List UInt8)) (rv : ((List zb) × Int × Int)) (l : (List (List UInt8))) (v : Int) : Option (List (List UInt8)) := zaF (fun s : ((List (List UInt8)) × Int) => zah b rv s.1 s.2) (l, v)
def zaR (m : zi) (b : (List UInt8)) : Option (List (List UInt8)) :=
 zbC m b >>= fun rv =>
 zbd b rv [] 0 >>= fun q =>
 some q
theorem zfC {b : (List UInt8)} {rv : ((List zb) × Int × Int)} {l : (List (List UInt8))} {v : Int} {l' : (List (List UInt8))} {v' : Int} (h : zah b rv l v = some (.inl (l', v'))) : zbd b rv l v = zbd b rv l' v' := zar (body := fun s : ((List (List UInt8)) × Int) => zah b rv s.1 s.2) h
theorem zfD {b : (List UInt8)} {rv : ((List zb) × Int × Int)} {l : (List (List UInt8))} {v : Int} {oo_ : (List (List UInt8))} (h : zah b rv l v = some (.inr oo_)) : zbd b rv l v = some oo_ := zas (body := fun s : ((List (List UInt8)) × Int) => zah b rv s.1 s.2) h
def zaG (b : (List UInt8)) (rv : ((List zb) × Int × Int)) (c : (List UInt8)) (v : Int) : Option (((List UInt8) × Int) ⊕ (List UInt8)) :=
 if (decide (v < (rv.1.length : Int))) then (
  idx rv.1 v >>= fun x =>
  if (x.Field != (-1)) then (
   cut b x.Record.From x.Record.To >>= fun v2 =>
   app 1 c v2 >>= fun v3 =>
   some (.inl (v3, (IntKind.i64.wrap (v + 1))))
  ) else (
   some (.inl (c, (IntKind.i64.wrap (v + 1))))
  )
 ) else (
  some (.inr c)
 )
def zbW (b : (List UInt8)) (rv : ((List zb) × Int × Int)) (c : (List UInt8)) (v : Int) : Option (List UInt8) := zaF (fun s : ((List UInt8) × Int) => zaG b rv s.1 s.2) (c, v)
def zdy (m : zi) (b : (List UInt8)) : Option ((List UInt8) × Int) :=
 zbC m b >>= fun rv =>
 if (rv.2.2 != 0) then (
  some ([], rv.2.2)
 ) else (
  zbW b rv [] 0 >>= fun q =>
  some (q, 0)
 )
theorem zha {b : (List UInt8)} {rv : ((List zb) × Int × Int)} {c : (List UInt8)} {v : Int} {c' : (List UInt8)} {v' : Int} (h : zaG b rv c v = some (.inl (c', v'))) : zbW b rv c v = zbW b rv c' v' := zar (body := fun s : ((List UInt8) × Int) => zaG b rv s.1 s.2) h
theorem zhb {b : (List UInt8)} {rv : ((List zb) × Int × Int)} {c : (List UInt8)} {v : Int} {oo_ : (List UInt8)} (h : zaG b rv c v = some (.inr oo_)) : zbW b rv c v = some oo_ := zas (body := fun s : ((List UInt8) × Int) => zaG b rv s.1 s.2) h
def zfn (m : zi) (b : (List UInt8)) (number : Int) : Option Bool :=
 zcQ m b number >>= fun rv =>
 some (decide ((rv.length : Int) > 0))
def zI (b : (List UInt8)) (number : Int) (rv3 : ((List zn) × Int × Int)) (rv4 : (List zb)) (rv5 : (List (List UInt8))) (n : Int) (k : Int) (want : (List UInt8)) (i : Int) : Option ((Int × Int × (List UInt8) × Int) ⊕ ((Int × Int × (List UInt8)) ⊕ Unit)) :=
 if (decide (i < (rv3.1.length : Int))) then (
  idx rv3.1 i >>= fun x =>
  ((
   if (x.R.Number == number) then (
    (
     if (decide (n ≥ (rv4.length : Int))) then (
      some true
     ) else (
      idx rv4 n >>= fun x2 =>
      idx rv3.1 i >>= fun x3 =>
      zam x2 x3 >>= fun rv7 =>
      some (!rv7)
     )
    ) >>= fun g =>
    if g then (
     some (.inr ())
    ) else (
     some (.inl (IntKind.i64.wrap (n + 1)))
    )
   ) else (
    some (.inl n)
   )
   : Option (Int ⊕ Unit))) >>= fun p =>
  match p with
  | .inl u => (
   idx rv3.1 i >>= fun x4 =>
   if (decide (x4.Field ≥ 0)) then (
    cut b x.R.From x.R.To >>= fun v3 =>
    app 1 want v3 >>= fun v4 =>
    some (.inl (u, k, v4, (IntKind.i64.wrap (i + 1))))
   ) else (
    (
     if (decide (k ≥ (rv5.length : Int))) then (
      some true
     ) else (
      idx rv5 k >>= fun x5 =>
      cut b x.R.From x.R.To >>= fun v5 =>
      zaJ x5 v5 >>= fun rv8 =>
      some (!rv8)
     )
    ) >>= fun g2 =>
    if g2 then (
     some (.inr (.inr ()))
    ) else (
     some (.inl (u, (IntKind.i64.wrap (k + 1)), want, (IntKind.i64.wrap (i + 1))))
    )
   )
  )
  | .inr u2 => (
   some (.inr (.inr ()))
  )
 ) else (
  some (.inr (.inl (n, k, want)))
 )
def zaa (b : (List UInt8)) (number : Int) (rv3 : ((List zn) × Int × Int)) (rv4 : (List zb)) (rv5 : (List (List UInt8))) (n : Int) (k : Int) (want : (List UInt8)) (i : Int) : Option ((Int × Int × (List UInt8)) ⊕ Unit) := zaF (fun s : (Int × Int × (List UInt8) × Int) => zI b number rv3 rv4 rv5 s.1 s.2.1 s.2.2.1 s.2.2.2) (n, k, want, i)
def zaP (m : zi) (b : (List UInt8)) (number : Int) : Option Bool :=
 zap >>= fun rv =>
 if (!rv) then (
  some false
 ) else (
  zal m >>= fun rv2 =>
  if (rv2 || (decide ((b.length : Int) > 2000))) then (
   some true
  ) else (
   zaU m b >>= fun rv3 =>
   zcQ m b number >>= fun rv4 =>
   zaR m b >>= fun rv5 =>
   zdy m b >>= fun rv6 =>
   zaa b number rv3 rv4 rv5 0 0 [] 0 >>= fun q =>
   match q with
   | .inl u3 => (
    (
     if (u3.1 == (rv4.length : Int)) then (
      if (u3.2.1 == (rv5.length : Int)) then (
       zfn m b number >>= fun rv9 =>
       if (rv9 == (decide (u3.1 > 0))) then (
        if ((IntKind.i64.wrap rv6.2) == rv3.2.2) then (
         zaJ rv6.1 u3.2.2 >>= fun rv10 =>
         some rv10
        ) else (
         some false
        )
       ) else (
        some false
       )
      ) else (
       some false
      )
     ) else (
      some false
     )
    ) >>= fun g3 =>
    some g3
   )
   | .inr u4 => (
    some false
   )
  )
 )
theorem zcU {b : (List UInt8)} {number : Int} {rv3 : ((List zn) × Int × Int)} {rv4 : (List zb)} {rv5 : (List (List UInt8))} {n : Int} {k : Int} {want : (List UInt8)} {i : Int} {n' : Int} {k' : Int} {want' : (List UInt8)} {i' : Int} (h : zI b number rv3 rv4 rv5 n k want i = some (.inl (n', k', want', i'))) : zaa b number rv3 rv4 rv5 n k want i = zaa b number rv3 rv4 rv5 n' k' want' i' := zar (body := fun s : (Int × Int × (List UInt8) × Int) => zI b number rv3 rv4 rv5 s.1 s.2.1 s.2.2.1 s.2.2.2) h
theorem zcV {b : (List UInt8)} {number : Int} {rv3 : ((List zn) × Int × Int)} {rv4 : (List zb)} {rv5 : (List (List UInt8))} {n : Int} {k : Int} {want : (List UInt8)} {i : Int} {oo_ : ((Int × Int × (List UInt8)) ⊕ Unit)} (h : zI b number rv3 rv4 rv5 n k want i = some (.inr oo_)) : zaa b number rv3 rv4 rv5 n k want i = some oo_ := zas (body := fun s : (Int × Int × (List UInt8) × Int) => zI b number rv3 rv4 rv5 s.1 s.2.1 s.2.2.1 s.2.2.2) h
def zJ (rv5 : (List (List UInt8))) (n : Int) (i : Int) : Option ((Int × Int) ⊕ Int) :=
 if (decide (i < (rv5.length : Int))) then (
  idx rv5 i >>= fun x =>
  some (.inl ((IntKind.i64.wrap (n + (x.length : Int))), (IntKind.i64.wrap (i + 1))))
 ) else (
  some (.inr n)
 )
def zab (rv5 : (List (List UInt8))) (n : Int) (i : Int) : Option Int := zaF (fun s : (Int × Int) => zJ rv5 s.1 s.2) (n, i)
def zaQ (m : zi) (b : (List UInt8)) (atv : Int) : Option Bool :=
 zap >>= fun rv =>
 if (!rv) then (
  some false
 ) else (
  zal m >>= fun rv2 =>
  if (rv2 || (decide ((b.length : Int) > 2000))) then (
   some true
  ) else (
   zbC m b >>= fun rv3 =>
   if ((IntKind.i64.wrap rv3.2.2) != 0) then (
    some ((rv3.1.length : Int) == 0)
   ) else (
    zdy m b >>= fun rv4 =>
    zaR m b >>= fun rv5 =>
    zab rv5 (rv4.1.length : Int) 0 >>= fun q =>
    (
     if ((IntKind.i64.wrap rv4.2) != 0) then (
      some true
     ) else (
      if (q != (b.length : Int)) then (
       some true
      ) else (
       zaR m rv4.1 >>= fun rv6 =>
       some ((rv6.length : Int) != 0)
      )
     )
    ) >>= fun g =>
    if g then (
     some false
    ) else (
     if ((decide (atv < 0)) || (decide (atv ≥ (m.Fields.length : Int)))) then (
      some true
     ) else (
      cut m.Fields 0 atv >>= fun v4 =>
      app 48 ([] : (List zd)) v4 >>= fun v5 =>
      cut m.Fields (IntKind.i64.wrap (atv + 1)) (m.Fields.length : Int) >>= fun v6 =>
      app 48 v5 v6 >>= fun v7 =>
      idx m.Fields atv >>= fun x2 =>
      zaq (⟨m.Name, v7⟩ : zi) x2.Number >>= fun rv7 =>
      if (decide (rv7 ≥ 0)) then (
       some true
      ) else (
       zbC (⟨m.Name, v7⟩ : zi) b >>= fun rv8 =>
       (
        if ((IntKind.i64.wrap rv8.2.2) == 0) then (
         if ((rv8.1.length : Int) == (rv3.1.length : Int)) then (
          zcQ (⟨m.Name, v7⟩ : zi) b x2.Number >>= fun rv9 =>
          zcQ m b x2.Number >>= fun rv10 =>
          if ((rv9.length : Int) == (rv10.length : Int)) then (
           zaR (⟨m.Name, v7⟩ : zi) b >>= fun rv11 =>
           zcQ m b x2.Number >>= fun rv12 =>
           some ((rv11.length : Int) == (IntKind.i64.wrap ((rv5.length : Int) + (rv12.length : Int))))
          ) else (
           some false
          )
         ) else (
          some false
         )
        ) else (
         some false
        )
       ) >>= fun g2 =>
       some g2
      )
     )
    )
   )
  )
 )
theorem zcW {rv5 : (List (List UInt8))} {n : Int} {i : Int} {n' : Int} {i' : Int} (h : zJ rv5 n i = some (.inl (n', i'))) : zab rv5 n i = zab rv5 n' i' := zar (body := fun s : (Int × Int) => zJ rv5 s.1 s.2) h
theorem zcX {rv5 : (List (List UInt8))} {n : Int} {i : Int} {oo_ : Int} (h : zJ rv5 n i = some (.inr oo_)) : zab rv5 n i = some oo_ := zas (body := fun s : (Int × Int) => zJ rv5 s.1 s.2) h
end
end Go.Proofs.Ytdpolccecmaajaa
