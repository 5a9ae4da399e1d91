/-
  What the Go functions of layer 0 do, as plain functions. No condition.
-/
import Derived.Test.YtnhnanbgphdaeaaSR
namespace Go.Proofs.Ytnhnanbgphdaeaa
open Go
set_option linter.unusedVariables false
noncomputable section
def slices_Grow___byte_byte_ (n : Int) : Option (List UInt8) :=
 if (decide (n < 0)) then (
  none
 ) else (
  if (decide ((IntKind.i64.wrap (n - (IntKind.i64.wrap (0 - 0)))) > 0)) then (
   mkO 1 (0 : UInt8) (IntKind.i64.wrap (n - (IntKind.i64.wrap (0 - 0)))) (IntKind.i64.wrap (n - (IntKind.i64.wrap (0 - 0)))) >>= fun v =>
   cut v 0 0 >>= fun v2 =>
   some v2
  ) else (
   some []
  )
 )
def slices_Concat___byte_byte__b1 (slices : (List (List UInt8))) (size : Int) (v : Int) : Option ((Int × Int) ⊕ Int) :=
 if (decide (v < (slices.length : Int))) then (
  idx slices v >>= fun x =>
  if (decide ((IntKind.i64.wrap (size + (x.length : Int))) < 0)) then (
   none
  ) else (
   some (.inl ((IntKind.i64.wrap (size + (x.length : Int))), (IntKind.i64.wrap (v + 1))))
  )
 ) else (
  some (.inr size)
 )
def slices_Concat___byte_byte__l1 (slices : (List (List UInt8))) (size : Int) (v : Int) : Option Int := whileO (fun s : (Int × Int) => slices_Concat___byte_byte__b1 slices s.1 s.2) (size, v)
def slices_Concat___byte_byte__b2 (slices : (List (List UInt8))) (newslice : (List UInt8)) (v2 : Int) : Option (((List UInt8) × Int) ⊕ (List UInt8)) :=
 if (decide (v2 < (slices.length : Int))) then (
  idx slices v2 >>= fun x2 =>
  app 1 newslice x2 >>= fun v3 =>
  some (.inl (v3, (IntKind.i64.wrap (v2 + 1))))
 ) else (
  some (.inr newslice)
 )
def slices_Concat___byte_byte__l2 (slices : (List (List UInt8))) (newslice : (List UInt8)) (v2 : Int) : Option (List UInt8) := whileO (fun s : ((List UInt8) × Int) => slices_Concat___byte_byte__b2 slices s.1 s.2) (newslice, v2)
def slices_Concat___byte_byte_ (slices : (List (List UInt8))) : Option (List UInt8) :=
 slices_Concat___byte_byte__l1 slices 0 0 >>= fun q =>
 slices_Grow___byte_byte_ q >>= fun rv =>
 slices_Concat___byte_byte__l2 slices rv 0 >>= fun q2 =>
 some q2
theorem slices_Concat___byte_byte__l1_inl {slices : (List (List UInt8))} {size : Int} {v : Int} {size' : Int} {v' : Int} (h : slices_Concat___byte_byte__b1 slices size v = some (.inl (size', v'))) : slices_Concat___byte_byte__l1 slices size v = slices_Concat___byte_byte__l1 slices size' v' := whileO_inl (body := fun s : (Int × Int) => slices_Concat___byte_byte__b1 slices s.1 s.2) h
theorem slices_Concat___byte_byte__l1_inr {slices : (List (List UInt8))} {size : Int} {v : Int} {oo_ : Int} (h : slices_Concat___byte_byte__b1 slices size v = some (.inr oo_)) : slices_Concat___byte_byte__l1 slices size v = some oo_ := whileO_inr (body := fun s : (Int × Int) => slices_Concat___byte_byte__b1 slices s.1 s.2) h
theorem slices_Concat___byte_byte__l2_inl {slices : (List (List UInt8))} {newslice : (List UInt8)} {v2 : Int} {newslice' : (List UInt8)} {v2' : Int} (h : slices_Concat___byte_byte__b2 slices newslice v2 = some (.inl (newslice', v2'))) : slices_Concat___byte_byte__l2 slices newslice v2 = slices_Concat___byte_byte__l2 slices newslice' v2' := whileO_inl (body := fun s : ((List UInt8) × Int) => slices_Concat___byte_byte__b2 slices s.1 s.2) h
theorem slices_Concat___byte_byte__l2_inr {slices : (List (List UInt8))} {newslice : (List UInt8)} {v2 : Int} {oo_ : (List UInt8)} (h : slices_Concat___byte_byte__b2 slices newslice v2 = some (.inr oo_)) : slices_Concat___byte_byte__l2 slices newslice v2 = some oo_ := whileO_inr (body := fun s : ((List UInt8) × Int) => slices_Concat___byte_byte__b2 slices s.1 s.2) h
end
end Go.Proofs.Ytnhnanbgphdaeaa
