/-
  What the Go functions do, as plain functions. No condition.
-/
import Derived.Test.YtglkepeofhonlaaGreatDoorK2
namespace Go.Proofs.YtglkepeofhonlaaGreatDoor
open Go
set_option linter.unusedVariables false
abbrev Str := List UInt8
structure zDp where
  a0 : Str
  a1 : Str
  a2 : Str
  a3 : Str
  a4 : Str
  a5 : Str
  a6 : Str
  a7 : Str
  a8 : Str
  a9 : Str
  a10 : Str
  a11 : Str
  a12 : Str
  a13 : Str
  a14 : Str deriving DecidableEq
structure zk where
  name : Str
  wire : Int deriving DecidableEq
def zr : Rp zk := ⟨2, true, fun x => [.str x.name, .int .i64 x.wire], fun _ => rfl, by decide⟩
structure zb where
  Name : Str
  Number : Int
  Kind : Int
  Repeated : Bool
  Packed : Bool
  Of : Int deriving DecidableEq
def za : Rp zb := ⟨6, true, fun x => [.str x.Name, .int .i64 x.Number, .int .i64 x.Kind, .bool x.Repeated, .bool x.Packed, .int .i64 x.Of], fun _ => rfl, by decide⟩
structure zc where
  Name : Str
  Fields : (List zb) deriving DecidableEq
def zd : Rp zc := ⟨2, true, fun x => [.str x.Name, .sl x.Fields.length za.size (x.Fields.flatMap za.lv)], fun _ => rfl, by decide⟩
structure zBu where
  Number : Int
  Wire : Int deriving DecidableEq
structure zhI where
  Number : Int
  Wire : Int
  From : Int
  At : Int
  To : Int deriving DecidableEq
structure ze where
  message : Int
  name : Str deriving DecidableEq
def zj : Rp ze := ⟨2, true, fun x => [.int .i64 x.message, .str x.name], fun _ => rfl, by decide⟩
structure zf where
  message : Int
  number : Int deriving DecidableEq
def zi : Rp zf := ⟨2, true, fun x => [.int .i64 x.message, .int .i64 x.number], fun _ => rfl, by decide⟩
structure zbj where
  size : Int
  kinds : (List Int)
  names : (List (ze × Bool))
  numbers : (List (zf × Bool))
structure zbw where
  Message : Int
  Field : Int
  What : Int deriving DecidableEq
def zeF : Rp zbw := ⟨3, true, fun x => [.int .i64 x.Message, .int .i64 x.Field, .int .i64 x.What], fun _ => rfl, by decide⟩
structure zBx where
  number : Int
  wire : Int deriving DecidableEq
structure zBw where
  field : Int
  run : Bool
  e : Int deriving DecidableEq
structure zoP where
  Record : zhI
  Field : Int
  Run : Bool deriving DecidableEq
structure zBv where
  R : zhI
  Field : Int
  Run : Bool deriving DecidableEq
structure zmS where
  message : Int
  number : Int
  wire : Int deriving DecidableEq
structure zCU where
  s : (List zc)
  b : (List UInt8)
  met : (List (zmS × zoP))
structure zzO where
  depth : Int
  place : Int
  e : Int deriving DecidableEq
structure zO where
  Ways : (List (List Int)) deriving DecidableEq
def zat : Rp zO := ⟨1, true, fun x => [.sl x.Ways.length (Rp.list (Rp.int .i64)).size (x.Ways.flatMap (Rp.list (Rp.int .i64)).lv)], fun _ => rfl, by decide⟩
structure zI where
  a0 : Int
  a1 : Int deriving DecidableEq
def zae : Rp zI := ⟨2, true, fun x => [.int .i64 x.a0, .int .i64 x.a1], fun _ => rfl, by decide⟩
end Go.Proofs.YtglkepeofhonlaaGreatDoor
namespace Go.Proofs.YtglkepeofhonlaaGreatDoor
open Go
set_option linter.unusedVariables false
noncomputable section
def zaq (sv : (List Int)) (v : Int) (v2 : Int) : Option (Int ⊕ (Unit ⊕ Int)) :=
 if (decide (v2 < (sv.length : Int))) then (
  idx sv v2 >>= fun x =>
  if (v == x) then (
   some (.inr (.inr v2))
  ) else (
   some (.inl (IntKind.i64.wrap (v2 + 1)))
  )
 ) else (
  some (.inr (.inl ()))
 )
def zcb (sv : (List Int)) (v : Int) (v2 : Int) : Option (Unit ⊕ Int) := zah (fun s : Int => zaq sv v s) v2
def zdD (sv : (List Int)) (v : Int) : Option Int :=
 zcb sv v 0 >>= fun q =>
 match q with
 | .inl u => (
  some (-1)
 )
 | .inr u2 => (
  some u2
 )
theorem zjd {sv : (List Int)} {v : Int} {v2 : Int} {v2' : Int} (h : zaq sv v v2 = some (.inl v2')) : zcb sv v v2 = zcb sv v v2' := zD (body := fun s : Int => zaq sv v s) h
theorem zgv {sv : (List Int)} {v : Int} {v2 : Int} {oo_ : (Unit ⊕ Int)} (h : zaq sv v v2 = some (.inr oo_)) : zcb sv v v2 = some oo_ := zC (body := fun s : Int => zaq sv v s) h
def zcI (sv : (List Int)) (v : Int) : Option Bool :=
 zdD sv v >>= fun rv =>
 some (decide (rv ≥ 0))
def zha (x : Int) : Option Bool :=
 some (x != x)
def zgl (x : Int) (y : Int) : Option Int :=
 zha x >>= fun rv =>
 zha y >>= fun rv2 =>
 if rv then (
  if rv2 then (
   some 0
  ) else (
   some (-1)
  )
 ) else (
  if rv2 then (
   some 1
  ) else (
   if (decide (x < y)) then (
    some (-1)
   ) else (
    if (decide (x > y)) then (
     some 1
    ) else (
     some 0
    )
   )
  )
 )
def zdl (sv : Str) : Option (Int × Int) :=
 if (decide ((sv.length : Int) < 1)) then (
  some (65533, 0)
 ) else (
  idx sv 0 >>= fun c =>
  none
 )
def zee (sv : Str) : Option (Int × Int) :=
 (
  if (!(sv == [])) then (
   idx sv 0 >>= fun c =>
   some (decide ((c.toNat : Int) < 128))
  ) else (
   some false
  )
 ) >>= fun g =>
 if g then (
  idx sv 0 >>= fun c2 =>
  some ((IntKind.i32.wrap (c2.toNat : Int)), 1)
 ) else (
  zdl sv >>= fun rv =>
  some (rv.1, rv.2)
 )
def zcP (sv : Str) (c : Int) : Option Int :=
 some (idxB sv (c).toNat.toUInt8)
def zdN (sv : Str) (substr : Str) : Option Int :=
 if (((substr.length : Int) == 0) || (substr == sv)) then (
  some 0
 ) else (
  if ((substr.length : Int) == 1) then (
   idx substr 0 >>= fun c =>
   zcP sv (c.toNat : Int) >>= fun rv =>
   some rv
  ) else (
   if (decide ((substr.length : Int) ≥ (sv.length : Int))) then (
    some (-1)
   ) else (
    none
   )
  )
 )
def zhT (sv : Str) (substr : Str) : Option Int :=
 zdN sv substr >>= fun rv =>
 some rv
def zfD {σ : Type} (kf : (Rnd σ Str)) (f : Str) (sg2 : σ) : Option ((Str × σ) ⊕ (σ ⊕ σ)) :=
 if (decide ((f.length : Int) > 0)) then (
  zee f >>= fun rv =>
  cut f 0 rv.2 >>= fun v4 =>
  kf sg2 v4 >>= fun y =>
  if (!y.1) then (
   some (.inr (.inr y.2))
  ) else (
   cut f rv.2 (f.length : Int) >>= fun v5 =>
   some (.inl (v5, y.2))
  )
 ) else (
  some (.inr (.inl sg2))
 )
def znd {σ : Type} (kf : (Rnd σ Str)) (f : Str) (sg2 : σ) : Option (σ ⊕ σ) := zah (fun s : (Str × σ) => zfD kf s.1 s.2) (f, sg2)
def zaL {σ : Type} (kf : (Rnd σ Str)) (v : Str) (v3 : Int) (f2 : Str) (sg5 : σ) : Option ((Str × σ) ⊕ ((Str × σ) ⊕ σ)) :=
 zhT f2 v >>= fun rv2 =>
 if (decide (rv2 < 0)) then (
  some (.inr (.inl (f2, sg5)))
 ) else (
  cut f2 0 (IntKind.i64.wrap (rv2 + v3)) >>= fun v6 =>
  kf sg5 v6 >>= fun y2 =>
  if (!y2.1) then (
   some (.inr (.inr y2.2))
  ) else (
   cut f2 (IntKind.i64.wrap (rv2 + (v.length : Int))) (f2.length : Int) >>= fun v7 =>
   some (.inl (v7, y2.2))
  )
 )
def zek {σ : Type} (kf : (Rnd σ Str)) (v : Str) (v3 : Int) (f2 : Str) (sg5 : σ) : Option ((Str × σ) ⊕ σ) := zah (fun s : (Str × σ) => zaL kf v v3 s.1 s.2) (f2, sg5)
def zdq {σ : Type} (v : Str) (v2 : Str) (v3 : Int) (kf : Rnd σ Str) (sg : σ) : Option σ :=
 if ((v.length : Int) == 0) then (
  znd kf v2 sg >>= fun q =>
  match q with
  | .inl u => (
   some u
  )
  | .inr u2 => (
   some u2
  )
 ) else (
  zek kf v v3 v2 sg >>= fun q2 =>
  match q2 with
  | .inl u3 => (
   kf u3.2 u3.1 >>= fun y3 =>
   some y3.2
  )
  | .inr u4 => (
   some u4
  )
 )
theorem zkO {σ : Type} {kf : (Rnd σ Str)} {v : Str} {v3 : Int} {f2 : Str} {sg5 : σ} {f2' : Str} {sg5' : σ} (h : zaL kf v v3 f2 sg5 = some (.inl (f2', sg5'))) : zek kf v v3 f2 sg5 = zek kf v v3 f2' sg5' := zD (body := fun s : (Str × σ) => zaL kf v v3 s.1 s.2) h
theorem zfJ {σ : Type} {kf : (Rnd σ Str)} {v : Str} {v3 : Int} {f2 : Str} {sg5 : σ} {oo_ : ((Str × σ) ⊕ σ)} (h : zaL kf v v3 f2 sg5 = some (.inr oo_)) : zek kf v v3 f2 sg5 = some oo_ := zC (body := fun s : (Str × σ) => zaL kf v v3 s.1 s.2) h
def zhy (sv : Str) (sep : Str) (sepSave : Int) : Option (Str × Str × Int) :=
 some (sep, sv, sepSave)
def zhx (sv : Str) (sep : Str) : Option (Str × Str × Int) :=
 zhy sv sep 0 >>= fun rv =>
 some (rv.1, rv.2.1, rv.2.2)
def zS {σ : Type} (kf : (Rnd σ Str)) (v : (List Str)) (v2 : Int) (sg2 : σ) : Option ((Int × σ) ⊕ (σ ⊕ σ)) :=
 if (decide (v2 < (v.length : Int))) then (
  idx v v2 >>= fun x =>
  kf sg2 x >>= fun y =>
  if (!y.1) then (
   some (.inr (.inr y.2))
  ) else (
   some (.inl ((IntKind.i64.wrap (v2 + 1)), y.2))
  )
 ) else (
  some (.inr (.inl sg2))
 )
def zaV {σ : Type} (kf : (Rnd σ Str)) (v : (List Str)) (v2 : Int) (sg2 : σ) : Option (σ ⊕ σ) := zah (fun s : (Int × σ) => zS kf v s.1 s.2) (v2, sg2)
def zaQ {σ : Type} (v : (List Str)) (kf : Rnd σ Str) (sg : σ) : Option σ :=
 zaV kf v 0 sg >>= fun q =>
 match q with
 | .inl u => (
  some u
 )
 | .inr u2 => (
  some u2
 )
theorem zgZ {σ : Type} {kf : (Rnd σ Str)} {v : (List Str)} {v2 : Int} {sg2 : σ} {v2' : Int} {sg2' : σ} (h : zS kf v v2 sg2 = some (.inl (v2', sg2'))) : zaV kf v v2 sg2 = zaV kf v v2' sg2' := zD (body := fun s : (Int × σ) => zS kf v s.1 s.2) h
theorem zex {σ : Type} {kf : (Rnd σ Str)} {v : (List Str)} {v2 : Int} {sg2 : σ} {oo_ : (σ ⊕ σ)} (h : zS kf v v2 sg2 = some (.inr oo_)) : zaV kf v v2 sg2 = some oo_ := zC (body := fun s : (Int × σ) => zS kf v s.1 s.2) h
def zcQ (sv : (List Str)) : Option (List Str) :=
 some sv
def zeS (x : (List Str)) : Option (List Str) := zyO x
def zz  (f : (List Str)) (x : Str) : Option ((List Str) ⊕ Empty) :=
 app 16 f ([x] : (List Str)) >>= fun v2 =>
 some (.inl v2)
def zad (v : (List Str)) : Option (List Str) :=
 zaQ v (rnd (fun (s : (List Str)) (x : Str) => zz s x)) (.inl []) >>= fun q =>
 match q with
 | .inl u => (
  some u
 )
 | .inr j => (
  nomatch j
 )
def zax (v : (List Str)) : Option (List Str) :=
 zad v >>= fun rv =>
 some rv
def zag (v : (List Str)) : Option (List Str) :=
 zax v >>= fun rv =>
 zeS rv >>= fun rv3 =>
 some rv3
def strings_Join (elems : (List Str)) (sep : Str) : Option Str := zyy elems sep
def zZ (s1 : (List Int)) (s2 : (List Int)) (v : Int) : Option (Int ⊕ (Unit ⊕ Int)) :=
 if (decide (v < (s1.length : Int))) then (
  idx s1 v >>= fun x =>
  if (decide (v ≥ (s2.length : Int))) then (
   some (.inr (.inr 1))
  ) else (
   idx s2 v >>= fun x2 =>
   zgl x x2 >>= fun rv =>
   if (rv != 0) then (
    some (.inr (.inr rv))
   ) else (
    some (.inl (IntKind.i64.wrap (v + 1)))
   )
  )
 ) else (
  some (.inr (.inl ()))
 )
def zbO (s1 : (List Int)) (s2 : (List Int)) (v : Int) : Option (Unit ⊕ Int) := zah (fun s : Int => zZ s1 s2 s) v
def zcS (s1 : (List Int)) (s2 : (List Int)) : Option Int :=
 zbO s1 s2 0 >>= fun q =>
 match q with
 | .inl u => (
  if (decide ((s1.length : Int) < (s2.length : Int))) then (
   some (-1)
  ) else (
   some 0
  )
 )
 | .inr u2 => (
  some u2
 )
theorem ziN {s1 : (List Int)} {s2 : (List Int)} {v : Int} {v' : Int} (h : zZ s1 s2 v = some (.inl v')) : zbO s1 s2 v = zbO s1 s2 v' := zD (body := fun s : Int => zZ s1 s2 s) h
theorem zcD {s1 : (List Int)} {s2 : (List Int)} {v : Int} {oo_ : (Unit ⊕ Int)} (h : zZ s1 s2 v = some (.inr oo_)) : zbO s1 s2 v = some oo_ := zC (body := fun s : Int => zZ s1 s2 s) h
def zaj (s1 : (List Int)) (s2 : (List Int)) (v : Int) : Option (Int ⊕ (Unit ⊕ Unit)) :=
 if (decide (v < (s1.length : Int))) then (
  idx s1 v >>= fun x =>
  idx s2 v >>= fun x2 =>
  if (x != x2) then (
   some (.inr (.inr ()))
  ) else (
   some (.inl (IntKind.i64.wrap (v + 1)))
  )
 ) else (
  some (.inr (.inl ()))
 )
def zca (s1 : (List Int)) (s2 : (List Int)) (v : Int) : Option (Unit ⊕ Unit) := zah (fun s : Int => zaj s1 s2 s) v
def zdB (s1 : (List Int)) (s2 : (List Int)) : Option Bool :=
 if ((s1.length : Int) != (s2.length : Int)) then (
  some false
 ) else (
  zca s1 s2 0 >>= fun q =>
  match q with
  | .inl u => (
   some true
  )
  | .inr u2 => (
   some false
  )
 )
theorem zjc {s1 : (List Int)} {s2 : (List Int)} {v : Int} {v' : Int} (h : zaj s1 s2 v = some (.inl v')) : zca s1 s2 v = zca s1 s2 v' := zD (body := fun s : Int => zaj s1 s2 s) h
theorem zgu {s1 : (List Int)} {s2 : (List Int)} {v : Int} {oo_ : (Unit ⊕ Unit)} (h : zaj s1 s2 v = some (.inr oo_)) : zca s1 s2 v = some oo_ := zC (body := fun s : Int => zaj s1 s2 s) h
def zdA (sv : (List Int)) : Option (List Int) :=
 nilO sv (
  some []
 ) (
  app 8 ([] : (List Int)) sv >>= fun v =>
  some v
 )
def zT {σ : Type} (kf : (Rnd σ (List Int))) (v : (List (List Int))) (v2 : Int) (sg2 : σ) : Option ((Int × σ) ⊕ (σ ⊕ σ)) :=
 if (decide (v2 < (v.length : Int))) then (
  idx v v2 >>= fun x =>
  kf sg2 x >>= fun y =>
  if (!y.1) then (
   some (.inr (.inr y.2))
  ) else (
   some (.inl ((IntKind.i64.wrap (v2 + 1)), y.2))
  )
 ) else (
  some (.inr (.inl sg2))
 )
def zbh {σ : Type} (kf : (Rnd σ (List Int))) (v : (List (List Int))) (v2 : Int) (sg2 : σ) : Option (σ ⊕ σ) := zah (fun s : (Int × σ) => zT kf v s.1 s.2) (v2, sg2)
def zbe {σ : Type} (v : (List (List Int))) (kf : Rnd σ (List Int)) (sg : σ) : Option σ :=
 zbh kf v 0 sg >>= fun q =>
 match q with
 | .inl u => (
  some u
 )
 | .inr u2 => (
  some u2
 )
theorem zhw {σ : Type} {kf : (Rnd σ (List Int))} {v : (List (List Int))} {v2 : Int} {sg2 : σ} {v2' : Int} {sg2' : σ} (h : zT kf v v2 sg2 = some (.inl (v2', sg2'))) : zbh kf v v2 sg2 = zbh kf v v2' sg2' := zD (body := fun s : (Int × σ) => zT kf v s.1 s.2) h
theorem zeP {σ : Type} {kf : (Rnd σ (List Int))} {v : (List (List Int))} {v2 : Int} {sg2 : σ} {oo_ : (σ ⊕ σ)} (h : zT kf v v2 sg2 = some (.inr oo_)) : zbh kf v v2 sg2 = some oo_ := zC (body := fun s : (Int × σ) => zT kf v s.1 s.2) h
def zdo (sv : (List (List Int))) : Option (List (List Int)) :=
 some sv
def zB  (f : (List (List Int))) (x : (List Int)) : Option ((List (List Int)) ⊕ Empty) :=
 app 24 f ([x] : (List (List Int))) >>= fun v2 =>
 some (.inl v2)
def zal (v : (List (List Int))) : Option (List (List Int)) :=
 zbe v (rnd (fun (s : (List (List Int))) (x : (List Int)) => zB s x)) (.inl []) >>= fun q =>
 match q with
 | .inl u => (
  some u
 )
 | .inr j => (
  nomatch j
 )
def zaG (v : (List (List Int))) : Option (List (List Int)) :=
 zal v >>= fun rv =>
 some rv
def zbg (x : (List (List Int))) : Option (List (List Int)) := zvm x
def zG (v : (List (List Int))) : Option (List (List Int)) :=
 zaG v >>= fun rv =>
 zbg rv >>= fun rv3 =>
 some rv3
def zcJ (n : Int) : Option (List (List Int)) :=
 if (decide (n < 0)) then (
  none
 ) else (
  if (decide ((IntKind.i64.wrap (n - (IntKind.i64.wrap (0 - 0)))) > 0)) then (
   mkO 24 ([] : (List Int)) (IntKind.i64.wrap (n - (IntKind.i64.wrap (0 - 0)))) (IntKind.i64.wrap (n - (IntKind.i64.wrap (0 - 0)))) >>= fun v =>
   cut v 0 0 >>= fun v2 =>
   some v2
  ) else (
   some []
  )
 )
def zM (slices : (List (List (List Int)))) (size : Int) (v : Int) : Option ((Int × Int) ⊕ Int) :=
 if (decide (v < (slices.length : Int))) then (
  idx slices v >>= fun x =>
  if (decide ((IntKind.i64.wrap (size + (x.length : Int))) < 0)) then (
   none
  ) else (
   some (.inl ((IntKind.i64.wrap (size + (x.length : Int))), (IntKind.i64.wrap (v + 1))))
  )
 ) else (
  some (.inr size)
 )
def zbT (slices : (List (List (List Int)))) (size : Int) (v : Int) : Option Int := zah (fun s : (Int × Int) => zM slices s.1 s.2) (size, v)
def zX (slices : (List (List (List Int)))) (newslice : (List (List Int))) (v2 : Int) : Option (((List (List Int)) × Int) ⊕ (List (List Int))) :=
 if (decide (v2 < (slices.length : Int))) then (
  idx slices v2 >>= fun x2 =>
  app 24 newslice x2 >>= fun v3 =>
  some (.inl (v3, (IntKind.i64.wrap (v2 + 1))))
 ) else (
  some (.inr newslice)
 )
def zbU (slices : (List (List (List Int)))) (newslice : (List (List Int))) (v2 : Int) : Option (List (List Int)) := zah (fun s : ((List (List Int)) × Int) => zX slices s.1 s.2) (newslice, v2)
def zbP (slices : (List (List (List Int)))) : Option (List (List Int)) :=
 zbT slices 0 0 >>= fun q =>
 zcJ q >>= fun rv =>
 zbU slices rv 0 >>= fun q2 =>
 some q2
theorem zfb {slices : (List (List (List Int)))} {size : Int} {v : Int} {size' : Int} {v' : Int} (h : zM slices size v = some (.inl (size', v'))) : zbT slices size v = zbT slices size' v' := zD (body := fun s : (Int × Int) => zM slices s.1 s.2) h
theorem zhQ {slices : (List (List (List Int)))} {size : Int} {v : Int} {oo_ : Int} (h : zM slices size v = some (.inr oo_)) : zbT slices size v = some oo_ := zC (body := fun s : (Int × Int) => zM slices s.1 s.2) h
theorem zfc {slices : (List (List (List Int)))} {newslice : (List (List Int))} {v2 : Int} {newslice' : (List (List Int))} {v2' : Int} (h : zX slices newslice v2 = some (.inl (newslice', v2'))) : zbU slices newslice v2 = zbU slices newslice' v2' := zD (body := fun s : ((List (List Int)) × Int) => zX slices s.1 s.2) h
theorem zhR {slices : (List (List (List Int)))} {newslice : (List (List Int))} {v2 : Int} {oo_ : (List (List Int))} (h : zX slices newslice v2 = some (.inr oo_)) : zbU slices newslice v2 = some oo_ := zC (body := fun s : ((List (List Int)) × Int) => zX slices s.1 s.2) h
def zcC (sv : (List (List Int))) : Option (List (List Int)) :=
 nilO sv (
  some []
 ) (
  app 24 ([] : (List (List Int))) sv >>= fun v =>
  some v
 )
end
end Go.Proofs.YtglkepeofhonlaaGreatDoor
namespace Go.Proofs.YtglkepeofhonlaaGreatDoor
open Go
set_option linter.unusedVariables false
noncomputable section
def ztp (v : (List UInt8)) (wv : Int) (v2 : Int) : Option ((Int × Int) ⊕ (Unit ⊕ (Int × Int × Int))) :=
 if (decide (v2 < (v.length : Int))) then (
  idx v v2 >>= fun x =>
  if ((v2 == 9) && (decide ((x.toNat : Int) > 1))) then (
   some (.inr (.inr (0, 0, 4)))
  ) else (
   shlO .u64 (IntKind.u64.wrap (andI .u8 (x.toNat : Int) 127)) (IntKind.i64.wrap (7 * v2)) >>= fun v4 =>
   if (decide ((x.toNat : Int) < 128)) then (
    some (.inr (.inr ((orI .u64 wv v4), (IntKind.i64.wrap (v2 + 1)), 0)))
   ) else (
    some (.inl ((orI .u64 wv v4), (IntKind.i64.wrap (v2 + 1))))
   )
  )
 ) else (
  some (.inr (.inl ()))
 )
def ztq (v : (List UInt8)) (wv : Int) (v2 : Int) : Option (Unit ⊕ (Int × Int × Int)) := zah (fun s : (Int × Int) => ztp v s.1 s.2) (wv, v2)
def zwZ (b : (List UInt8)) : Option (Int × Int × Int) :=
 cut b 0 (if (10 : Int) < (b.length : Int) then 10 else (b.length : Int)) >>= fun v =>
 ztq v 0 0 >>= fun q =>
 match q with
 | .inl u => (
  some (0, 0, 3)
 )
 | .inr u2 => (
  some (u2.1, u2.2.1, u2.2.2)
 )
def zjm  (b2 : (List UInt8)) (l : (List Int)) : Option (((List UInt8) × (List Int)) ⊕ ((List Int) ⊕ Int)) :=
 if (decide ((b2.length : Int) > 0)) then (
  zwZ b2 >>= fun rv =>
  if (rv.2.2 != 0) then (
   some (.inr (.inr rv.2.2))
  ) else (
   app 8 l ([rv.1] : (List Int)) >>= fun v2 =>
   cut b2 rv.2.1 (b2.length : Int) >>= fun v3 =>
   some (.inl (v3, v2))
  )
 ) else (
  some (.inr (.inl l))
 )
def zoN  (b2 : (List UInt8)) (l : (List Int)) : Option ((List Int) ⊕ Int) := zah (fun s : ((List UInt8) × (List Int)) => zjm s.1 s.2) (b2, l)
theorem zqx  {b2 : (List UInt8)} {l : (List Int)} {oo_ : ((List Int) ⊕ Int)} (h : zjm b2 l = some (.inr oo_)) : zoN b2 l = some oo_ := zC (body := fun s : ((List UInt8) × (List Int)) => zjm s.1 s.2) h
end
end Go.Proofs.YtglkepeofhonlaaGreatDoor
namespace Go.Proofs.YtglkepeofhonlaaGreatDoor
open Go
set_option linter.unusedVariables false
noncomputable section
def zkp  : Option (List (Int × zk)) :=
 some (mput (mput (mput (mput (mput (mput (mput (mput (mput (mput (mput (mput (mput (mput (mput (mput (mput ([] : (List (Int × zk))) 1 (⟨[105, 110, 116, 51, 50], 0⟩ : zk)) 2 (⟨[105, 110, 116, 54, 52], 0⟩ : zk)) 3 (⟨[117, 105, 110, 116, 51, 50], 0⟩ : zk)) 4 (⟨[117, 105, 110, 116, 54, 52], 0⟩ : zk)) 5 (⟨[115, 105, 110, 116, 51, 50], 0⟩ : zk)) 6 (⟨[115, 105, 110, 116, 54, 52], 0⟩ : zk)) 7 (⟨[98, 111, 111, 108], 0⟩ : zk)) 8 (⟨[101, 110, 117, 109], 0⟩ : zk)) 9 (⟨[102, 105, 120, 101, 100, 51, 50], 5⟩ : zk)) 10 (⟨[115, 102, 105, 120, 101, 100, 51, 50], 5⟩ : zk)) 11 (⟨[102, 108, 111, 97, 116], 5⟩ : zk)) 12 (⟨[102, 105, 120, 101, 100, 54, 52], 1⟩ : zk)) 13 (⟨[115, 102, 105, 120, 101, 100, 54, 52], 1⟩ : zk)) 14 (⟨[100, 111, 117, 98, 108, 101], 1⟩ : zk)) 15 (⟨[115, 116, 114, 105, 110, 103], 2⟩ : zk)) 16 (⟨[98, 121, 116, 101, 115], 2⟩ : zk)) 17 (⟨[109, 101, 115, 115, 97, 103, 101], 2⟩ : zk))
def zny  : Option (List Int) :=
 zkp >>= fun rv =>
 zwn rv >>= fun v =>
 some v
def zlG (k : Int) : Option (Int × Int) :=
 zkp >>= fun rv =>
 if (!(mget rv k).isSome) then (
  some (0, 2)
 ) else (
  some (((mget rv k).getD (⟨[], 0⟩ : zk)).wire, 0)
 )
def zfk (k : Int) : Option Bool :=
 some ((decide (k ≥ 1)) && (decide (k ≤ 17)))
def zjw (k : Int) : Option Bool :=
 zlG k >>= fun rv =>
 some ((rv.2 == 0) && (rv.1 != 2))
def zdU (k : Int) : Option Bool :=
 some ((decide (k ≥ 1)) && (decide (k ≤ 14)))
end
end Go.Proofs.YtglkepeofhonlaaGreatDoor
namespace Go.Proofs.YtglkepeofhonlaaGreatDoor
open Go
set_option linter.unusedVariables false
noncomputable section
def zgt (c : Int) : Option Bool :=
 some ((decide (c ≥ 48)) && (decide (c ≤ 57)))
def zgO (c : Int) : Option Bool :=
 some (if (decide (c ≥ 97)) then ((decide (c ≤ 122)) || (if (decide (c ≥ 65)) then ((decide (c ≤ 90)) || (c == 95)) else (c == 95))) else (if (decide (c ≥ 65)) then ((decide (c ≤ 90)) || (c == 95)) else (c == 95)))
def zbZ (name : Str) (v2 : Int) : Option (Int ⊕ (Unit ⊕ Unit)) :=
 if (decide (v2 < (name.length : Int))) then (
  (
   idx name v2 >>= fun c2 =>
   zgO (c2.toNat : Int) >>= fun rv2 =>
   if (!rv2) then (
    idx name v2 >>= fun c3 =>
    zgt (c3.toNat : Int) >>= fun rv3 =>
    some (!rv3)
   ) else (
    some false
   )
  ) >>= fun g2 =>
  if g2 then (
   some (.inr (.inr ()))
  ) else (
   some (.inl (IntKind.i64.wrap (v2 + 1)))
  )
 ) else (
  some (.inr (.inl ()))
 )
def zfg (name : Str) (v2 : Int) : Option (Unit ⊕ Unit) := zah (fun s : Int => zbZ name s) v2
def zgV (name : Str) : Option Bool :=
 (
  if (name == []) then (
   some true
  ) else (
   if (decide ((name.length : Int) > 60)) then (
    some true
   ) else (
    idx name 0 >>= fun c =>
    zgt (c.toNat : Int) >>= fun rv =>
    some rv
   )
  )
 ) >>= fun g =>
 if g then (
  some false
 ) else (
  zfg name 0 >>= fun q =>
  match q with
  | .inl u => (
   some true
  )
  | .inr u2 => (
   some false
  )
 )
theorem znU {name : Str} {v2 : Int} {v2' : Int} (h : zbZ name v2 = some (.inl v2')) : zfg name v2 = zfg name v2' := zD (body := fun s : Int => zbZ name s) h
theorem zjA {name : Str} {v2 : Int} {oo_ : (Unit ⊕ Unit)} (h : zbZ name v2 = some (.inr oo_)) : zfg name v2 = some oo_ := zC (body := fun s : Int => zbZ name s) h
def zgP (n : Int) : Option Bool :=
 some ((decide (n ≥ 1)) && ((decide (n ≤ 536870911)) && ((decide (n < 19000)) || (decide (n > 19999)))))
def zhh (f : zb) : Option Bool :=
 (
  if f.Repeated then (
   zjw f.Kind >>= fun rv =>
   some rv
  ) else (
   some false
  )
 ) >>= fun g =>
 some g
def zfw (c : zbj) (f : zb) : Option Bool :=
 if (f.Kind == 17) then (
  some ((decide (f.Of ≥ 0)) && (decide (f.Of < c.size)))
 ) else (
  some (f.Of == 0)
 )
def zfv (c : zbj) (message : Int) (f : zb) : Option (Int × (List (ze × Bool)) × (List (zf × Bool))) :=
 zgV f.Name >>= fun rv =>
 if (!rv) then (
  some (5, c.names, c.numbers)
 ) else (
  if ((mget c.names (⟨message, f.Name⟩ : ze)).getD false) then (
   some (6, c.names, c.numbers)
  ) else (
   zgP f.Number >>= fun rv2 =>
   if (!rv2) then (
    some (7, c.names, c.numbers)
   ) else (
    if ((mget c.numbers (⟨message, f.Number⟩ : zf)).getD false) then (
     some (8, c.names, c.numbers)
    ) else (
     zcI c.kinds f.Kind >>= fun rv3 =>
     if (!rv3) then (
      some (9, c.names, c.numbers)
     ) else (
      (
       if f.Packed then (
        zhh f >>= fun rv4 =>
        some (!rv4)
       ) else (
        some false
       )
      ) >>= fun g =>
      if g then (
       some (10, c.names, c.numbers)
      ) else (
       zfw c f >>= fun rv5 =>
       if (!rv5) then (
        some (11, c.names, c.numbers)
       ) else (
        some (0, (mput c.names (⟨message, f.Name⟩ : ze) true), (mput c.numbers (⟨message, f.Number⟩ : zf) true))
       )
      )
     )
    )
   )
  )
 )
def zeJ (c : zbj) (m : zc) : Option (Int × (List (ze × Bool)) × (List (zf × Bool))) :=
 zgV m.Name >>= fun rv =>
 if (!rv) then (
  some (2, c.names, c.numbers)
 ) else (
  if ((mget c.names (⟨(-1), m.Name⟩ : ze)).getD false) then (
   some (3, c.names, c.numbers)
  ) else (
   if (decide ((m.Fields.length : Int) > 200)) then (
    some (4, c.names, c.numbers)
   ) else (
    some (0, (mput c.names (⟨(-1), m.Name⟩ : ze) true), c.numbers)
   )
  )
 )
def zbK (i : Int) (sv : (List zc)) (n3 : Int) (k : Int) : Option ((Int × Int) ⊕ Int) :=
 idx sv i >>= fun x3 =>
 if (decide (k < (x3.Fields.length : Int))) then (
  idx sv i >>= fun x4 =>
  idx x4.Fields k >>= fun x5 =>
  some (.inl ((IntKind.i64.wrap (n3 + (IntKind.i64.wrap (Int.tdiv (x5.Name.length : Int) 100)))), (IntKind.i64.wrap (k + 1))))
 ) else (
  some (.inr n3)
 )
def zdS (i : Int) (sv : (List zc)) (n3 : Int) (k : Int) : Option Int := zah (fun s : (Int × Int) => zbK i sv s.1 s.2) (n3, k)
def zbJ (sv : (List zc)) (n : Int) (i : Int) : Option ((Int × Int) ⊕ Int) :=
 if (decide (i < (sv.length : Int))) then (
  idx sv i >>= fun x =>
  idx sv i >>= fun x2 =>
  zdS i sv (IntKind.i64.wrap ((IntKind.i64.wrap ((IntKind.i64.wrap (n + 1)) + (IntKind.i64.wrap (Int.tdiv (x.Name.length : Int) 100)))) + (x2.Fields.length : Int))) 0 >>= fun q =>
  some (.inl (q, (IntKind.i64.wrap (i + 1))))
 ) else (
  some (.inr n)
 )
def zdR (sv : (List zc)) (n : Int) (i : Int) : Option Int := zah (fun s : (Int × Int) => zbJ sv s.1 s.2) (n, i)
def zfd (sv : (List zc)) : Option Bool :=
 zdR sv 0 0 >>= fun q2 =>
 some (decide (q2 ≤ 500))
theorem zlB {i : Int} {sv : (List zc)} {n3 : Int} {k : Int} {n3' : Int} {k' : Int} (h : zbK i sv n3 k = some (.inl (n3', k'))) : zdS i sv n3 k = zdS i sv n3' k' := zD (body := fun s : (Int × Int) => zbK i sv s.1 s.2) h
theorem zlC {i : Int} {sv : (List zc)} {n3 : Int} {k : Int} {oo_ : Int} (h : zbK i sv n3 k = some (.inr oo_)) : zdS i sv n3 k = some oo_ := zC (body := fun s : (Int × Int) => zbK i sv s.1 s.2) h
theorem zlz {sv : (List zc)} {n : Int} {i : Int} {n' : Int} {i' : Int} (h : zbJ sv n i = some (.inl (n', i'))) : zdR sv n i = zdR sv n' i' := zD (body := fun s : (Int × Int) => zbJ sv s.1 s.2) h
theorem zlA {sv : (List zc)} {n : Int} {i : Int} {oo_ : Int} (h : zbJ sv n i = some (.inr oo_)) : zdR sv n i = some oo_ := zC (body := fun s : (Int × Int) => zbJ sv s.1 s.2) h
def zbW (rv : (List Int)) (sv : (List zc)) (v2 : Int) (x : zc) (v3 : Int) (f6 : (List (ze × Bool))) (f7 : (List (zf × Bool))) : Option ((Int × (List (ze × Bool)) × (List (zf × Bool))) ⊕ (((List (ze × Bool)) × (List (zf × Bool))) ⊕ (Int × Int))) :=
 if (decide (v3 < (x.Fields.length : Int))) then (
  idx x.Fields v3 >>= fun x2 =>
  zfv (⟨(sv.length : Int), rv, f6, f7⟩ : zbj) v2 x2 >>= fun rv5 =>
  if (rv5.1 != 0) then (
   some (.inr (.inr (v3, rv5.1)))
  ) else (
   some (.inl ((IntKind.i64.wrap (v3 + 1)), rv5.2.1, rv5.2.2))
  )
 ) else (
  some (.inr (.inl (f6, f7)))
 )
def zec (rv : (List Int)) (sv : (List zc)) (v2 : Int) (x : zc) (v3 : Int) (f6 : (List (ze × Bool))) (f7 : (List (zf × Bool))) : Option (((List (ze × Bool)) × (List (zf × Bool))) ⊕ (Int × Int)) := zah (fun s : (Int × (List (ze × Bool)) × (List (zf × Bool))) => zbW rv sv v2 x s.1 s.2.1 s.2.2) (v3, f6, f7)
def zbs (rv : (List Int)) (sv : (List zc)) (v2 : Int) (f : (List (ze × Bool))) (f2 : (List (zf × Bool))) : Option ((Int × (List (ze × Bool)) × (List (zf × Bool))) ⊕ (Unit ⊕ (Int × Int × Int))) :=
 if (decide (v2 < (sv.length : Int))) then (
  idx sv v2 >>= fun x =>
  zeJ (⟨(sv.length : Int), rv, f, f2⟩ : zbj) x >>= fun rv3 =>
  if (rv3.1 != 0) then (
   some (.inr (.inr (v2, (-1), rv3.1)))
  ) else (
   zec rv sv v2 x 0 rv3.2.1 rv3.2.2 >>= fun q =>
   match q with
   | .inl u => (
    some (.inl ((IntKind.i64.wrap (v2 + 1)), u.1, u.2))
   )
   | .inr u2 => (
    some (.inr (.inr (v2, u2.1, u2.2)))
   )
  )
 ) else (
  some (.inr (.inl ()))
 )
def zfN (rv : (List Int)) (sv : (List zc)) (v2 : Int) (f : (List (ze × Bool))) (f2 : (List (zf × Bool))) : Option (Unit ⊕ (Int × Int × Int)) := zah (fun s : (Int × (List (ze × Bool)) × (List (zf × Bool))) => zbs rv sv s.1 s.2.1 s.2.2) (v2, f, f2)
def ziL (sv : (List zc)) : Option (zbw × Int) :=
 if ((decide ((sv.length : Int) < 1)) || (decide ((sv.length : Int) > 100))) then (
  some ((⟨(-1), (-1), 1⟩ : zbw), 9)
 ) else (
  zny >>= fun rv =>
  zfN rv sv 0 ([] : (List (ze × Bool))) ([] : (List (zf × Bool))) >>= fun q2 =>
  match q2 with
  | .inl u3 => (
   some ((⟨0, 0, 0⟩ : zbw), 0)
  )
  | .inr u4 => (
   some ((⟨u4.1, u4.2.1, u4.2.2⟩ : zbw), 9)
  )
 )
theorem zoC {rv : (List Int)} {sv : (List zc)} {v2 : Int} {x : zc} {v3 : Int} {f6 : (List (ze × Bool))} {f7 : (List (zf × Bool))} {v3' : Int} {f6' : (List (ze × Bool))} {f7' : (List (zf × Bool))} (h : zbW rv sv v2 x v3 f6 f7 = some (.inl (v3', f6', f7'))) : zec rv sv v2 x v3 f6 f7 = zec rv sv v2 x v3' f6' f7' := zD (body := fun s : (Int × (List (ze × Bool)) × (List (zf × Bool))) => zbW rv sv v2 x s.1 s.2.1 s.2.2) h
theorem zjV {rv : (List Int)} {sv : (List zc)} {v2 : Int} {x : zc} {v3 : Int} {f6 : (List (ze × Bool))} {f7 : (List (zf × Bool))} {oo_ : (((List (ze × Bool)) × (List (zf × Bool))) ⊕ (Int × Int))} (h : zbW rv sv v2 x v3 f6 f7 = some (.inr oo_)) : zec rv sv v2 x v3 f6 f7 = some oo_ := zC (body := fun s : (Int × (List (ze × Bool)) × (List (zf × Bool))) => zbW rv sv v2 x s.1 s.2.1 s.2.2) h
theorem zoB {rv : (List Int)} {sv : (List zc)} {v2 : Int} {f : (List (ze × Bool))} {f2 : (List (zf × Bool))} {v2' : Int} {f' : (List (ze × Bool))} {f2' : (List (zf × Bool))} (h : zbs rv sv v2 f f2 = some (.inl (v2', f', f2'))) : zfN rv sv v2 f f2 = zfN rv sv v2' f' f2' := zD (body := fun s : (Int × (List (ze × Bool)) × (List (zf × Bool))) => zbs rv sv s.1 s.2.1 s.2.2) h
theorem zeT {rv : (List Int)} {sv : (List zc)} {v2 : Int} {f : (List (ze × Bool))} {f2 : (List (zf × Bool))} {oo_ : (Unit ⊕ (Int × Int × Int))} (h : zbs rv sv v2 f f2 = some (.inr oo_)) : zfN rv sv v2 f f2 = some oo_ := zC (body := fun s : (Int × (List (ze × Bool)) × (List (zf × Bool))) => zbs rv sv s.1 s.2.1 s.2.2) h
def zhv (sv : (List zc)) : Option Bool :=
 ziL sv >>= fun rv =>
 some (rv.2 == 0)
def zbl (sv : Str) (i : Int) : Option (Int ⊕ (Unit ⊕ Unit)) :=
 if (decide (i < (sv.length : Int))) then (
  idx sv i >>= fun c =>
  if (!(if (decide ((c.toNat : Int) ≥ 65)) then ((decide ((c.toNat : Int) ≤ 90)) || (if (decide ((c.toNat : Int) ≥ 97)) then ((decide ((c.toNat : Int) ≤ 122)) || (((c.toNat : Int) == 95) || ((decide (i > 0)) && ((decide ((c.toNat : Int) ≥ 48)) && (decide ((c.toNat : Int) ≤ 57)))))) else (((c.toNat : Int) == 95) || ((decide (i > 0)) && ((decide ((c.toNat : Int) ≥ 48)) && (decide ((c.toNat : Int) ≤ 57))))))) else (if (decide ((c.toNat : Int) ≥ 97)) then ((decide ((c.toNat : Int) ≤ 122)) || (((c.toNat : Int) == 95) || ((decide (i > 0)) && ((decide ((c.toNat : Int) ≥ 48)) && (decide ((c.toNat : Int) ≤ 57)))))) else (((c.toNat : Int) == 95) || ((decide (i > 0)) && ((decide ((c.toNat : Int) ≥ 48)) && (decide ((c.toNat : Int) ≤ 57)))))))) then (
   some (.inr (.inr ()))
  ) else (
   some (.inl (IntKind.i64.wrap (i + 1)))
  )
 ) else (
  some (.inr (.inl ()))
 )
def zdt (sv : Str) (i : Int) : Option (Unit ⊕ Unit) := zah (fun s : Int => zbl sv s) i
def zdK (sv : Str) : Option Bool :=
 zdt sv 0 >>= fun q =>
 match q with
 | .inl u => (
  some ((decide ((sv.length : Int) ≥ 1)) && (decide ((sv.length : Int) ≤ 60)))
 )
 | .inr u2 => (
  some false
 )
theorem zlj {sv : Str} {i : Int} {i' : Int} (h : zbl sv i = some (.inl i')) : zdt sv i = zdt sv i' := zD (body := fun s : Int => zbl sv s) h
theorem zhJ {sv : Str} {i : Int} {oo_ : (Unit ⊕ Unit)} (h : zbl sv i = some (.inr oo_)) : zdt sv i = some oo_ := zC (body := fun s : Int => zbl sv s) h
def zbr (i : Int) (k : Int) (sv : (List zc)) (x2 : zb) (name : Bool) (number : Bool) (j : Int) : Option ((Bool × Bool × Int) ⊕ (Bool × Bool)) :=
 if (decide (j < k)) then (
  (
   if name then (
    some true
   ) else (
    idx sv i >>= fun x3 =>
    idx x3.Fields j >>= fun x4 =>
    some (x4.Name == x2.Name)
   )
  ) >>= fun g =>
  (
   if number then (
    some true
   ) else (
    idx sv i >>= fun x5 =>
    idx x5.Fields j >>= fun x6 =>
    some (x6.Number == x2.Number)
   )
  ) >>= fun g2 =>
  some (.inl (g, g2, (IntKind.i64.wrap (j + 1))))
 ) else (
  some (.inr (name, number))
 )
def zdc (i : Int) (k : Int) (sv : (List zc)) (x2 : zb) (name : Bool) (number : Bool) (j : Int) : Option (Bool × Bool) := zah (fun s : (Bool × Bool × Int) => zbr i k sv x2 s.1 s.2.1 s.2.2) (name, number, j)
def zfm (sv : (List zc)) (i : Int) (k : Int) : Option Int :=
 idx sv i >>= fun x =>
 idx x.Fields k >>= fun x2 =>
 zdc i k sv x2 false false 0 >>= fun q =>
 zdK x2.Name >>= fun rv =>
 if (!rv) then (
  some 5
 ) else (
  if q.1 then (
   some 6
  ) else (
   if ((decide (x2.Number < 1)) || ((decide (x2.Number > 536870911)) || ((decide (x2.Number ≥ 19000)) && (decide (x2.Number < 20000))))) then (
    some 7
   ) else (
    if q.2 then (
     some 8
    ) else (
     zfk x2.Kind >>= fun rv2 =>
     if (!rv2) then (
      some 9
     ) else (
      (
       if x2.Packed then (
        if x2.Repeated then (
         zdU x2.Kind >>= fun rv3 =>
         some (!rv3)
        ) else (
         some (!false)
        )
       ) else (
        some false
       )
      ) >>= fun g3 =>
      if g3 then (
       some 10
      ) else (
       if (if (x2.Kind == 17) then ((decide (x2.Of < 0)) || ((decide (x2.Of ≥ (sv.length : Int))) || ((x2.Kind != 17) && (x2.Of != 0)))) else ((x2.Kind != 17) && (x2.Of != 0))) then (
        some 11
       ) else (
        some 0
       )
      )
     )
    )
   )
  )
 )
theorem zkH {i : Int} {k : Int} {sv : (List zc)} {x2 : zb} {name : Bool} {number : Bool} {j : Int} {name' : Bool} {number' : Bool} {j' : Int} (h : zbr i k sv x2 name number j = some (.inl (name', number', j'))) : zdc i k sv x2 name number j = zdc i k sv x2 name' number' j' := zD (body := fun s : (Bool × Bool × Int) => zbr i k sv x2 s.1 s.2.1 s.2.2) h
theorem zkI {i : Int} {k : Int} {sv : (List zc)} {x2 : zb} {name : Bool} {number : Bool} {j : Int} {oo_ : (Bool × Bool)} (h : zbr i k sv x2 name number j = some (.inr oo_)) : zdc i k sv x2 name number j = some oo_ := zC (body := fun s : (Bool × Bool × Int) => zbr i k sv x2 s.1 s.2.1 s.2.2) h
def zbq (i : Int) (sv : (List zc)) (twice : Bool) (k : Int) : Option ((Bool × Int) ⊕ Bool) :=
 if (decide (k < i)) then (
  (
   if twice then (
    some true
   ) else (
    idx sv k >>= fun x =>
    idx sv i >>= fun x2 =>
    some (x.Name == x2.Name)
   )
  ) >>= fun g =>
  some (.inl (g, (IntKind.i64.wrap (k + 1))))
 ) else (
  some (.inr twice)
 )
def zda (i : Int) (sv : (List zc)) (twice : Bool) (k : Int) : Option Bool := zah (fun s : (Bool × Int) => zbq i sv s.1 s.2) (twice, k)
def zaY (i : Int) (sv : (List zc)) (k2 : Int) : Option (Int ⊕ (Unit ⊕ (Int × Int))) :=
 idx sv i >>= fun x5 =>
 if (decide (k2 < (x5.Fields.length : Int))) then (
  zfm sv i k2 >>= fun rv2 =>
  if (decide (rv2 > 0)) then (
   some (.inr (.inr (k2, rv2)))
  ) else (
   some (.inl (IntKind.i64.wrap (k2 + 1)))
  )
 ) else (
  some (.inr (.inl ()))
 )
def zdb (i : Int) (sv : (List zc)) (k2 : Int) : Option (Unit ⊕ (Int × Int)) := zah (fun s : Int => zaY i sv s) k2
def zaX (sv : (List zc)) (i : Int) : Option (Int ⊕ (Unit ⊕ (Int × Int × Int))) :=
 if (decide (i < (sv.length : Int))) then (
  zda i sv false 0 >>= fun q =>
  idx sv i >>= fun x3 =>
  zdK x3.Name >>= fun rv =>
  if (!rv) then (
   some (.inr (.inr (i, (-1), 2)))
  ) else (
   if q then (
    some (.inr (.inr (i, (-1), 3)))
   ) else (
    idx sv i >>= fun x4 =>
    if (decide ((x4.Fields.length : Int) > 200)) then (
     some (.inr (.inr (i, (-1), 4)))
    ) else (
     zdb i sv 0 >>= fun q2 =>
     match q2 with
     | .inl u => (
      some (.inl (IntKind.i64.wrap (i + 1)))
     )
     | .inr u2 => (
      some (.inr (.inr (i, u2.1, u2.2)))
     )
    )
   )
  )
 ) else (
  some (.inr (.inl ()))
 )
def zcZ (sv : (List zc)) (i : Int) : Option (Unit ⊕ (Int × Int × Int)) := zah (fun s : Int => zaX sv s) i
def zfl (sv : (List zc)) : Option (Int × Int × Int) :=
 if (((sv.length : Int) == 0) || (decide ((sv.length : Int) > 100))) then (
  some ((-1), (-1), 1)
 ) else (
  zcZ sv 0 >>= fun q3 =>
  match q3 with
  | .inl u3 => (
   some (0, 0, 0)
  )
  | .inr u4 => (
   some (u4.1, u4.2.1, u4.2.2)
  )
 )
theorem zkE {i : Int} {sv : (List zc)} {twice : Bool} {k : Int} {twice' : Bool} {k' : Int} (h : zbq i sv twice k = some (.inl (twice', k'))) : zda i sv twice k = zda i sv twice' k' := zD (body := fun s : (Bool × Int) => zbq i sv s.1 s.2) h
theorem zkF {i : Int} {sv : (List zc)} {twice : Bool} {k : Int} {oo_ : Bool} (h : zbq i sv twice k = some (.inr oo_)) : zda i sv twice k = some oo_ := zC (body := fun s : (Bool × Int) => zbq i sv s.1 s.2) h
theorem zkG {i : Int} {sv : (List zc)} {k2 : Int} {k2' : Int} (h : zaY i sv k2 = some (.inl k2')) : zdb i sv k2 = zdb i sv k2' := zD (body := fun s : Int => zaY i sv s) h
theorem zhz {i : Int} {sv : (List zc)} {k2 : Int} {oo_ : (Unit ⊕ (Int × Int))} (h : zaY i sv k2 = some (.inr oo_)) : zdb i sv k2 = some oo_ := zC (body := fun s : Int => zaY i sv s) h
theorem zkD {sv : (List zc)} {i : Int} {i' : Int} (h : zaX sv i = some (.inl i')) : zcZ sv i = zcZ sv i' := zD (body := fun s : Int => zaX sv s) h
theorem zcR {sv : (List zc)} {i : Int} {oo_ : (Unit ⊕ (Int × Int × Int))} (h : zaX sv i = some (.inr oo_)) : zcZ sv i = some oo_ := zC (body := fun s : Int => zaX sv s) h
def zfW (f : zb) (v : Int) : Option Bool :=
 some (f.Number == v)
def zq (sv : (List zb)) (v : Int) (v2 : Int) : Option (Int ⊕ (Unit ⊕ Int)) :=
 if (decide (v2 < (sv.length : Int))) then (
  idx sv v2 >>= fun x =>
  zfW x v >>= fun rv =>
  if rv then (
   some (.inr (.inr v2))
  ) else (
   some (.inl (IntKind.i64.wrap (v2 + 1)))
  )
 ) else (
  some (.inr (.inl ()))
 )
def zP (sv : (List zb)) (v : Int) (v2 : Int) : Option (Unit ⊕ Int) := zah (fun s : Int => zq sv v s) v2
def zas (sv : (List zb)) (v : Int) : Option Int :=
 zP sv v 0 >>= fun q =>
 match q with
 | .inl u => (
  some (-1)
 )
 | .inr u2 => (
  some u2
 )
theorem zdC {sv : (List zb)} {v : Int} {v2 : Int} {v2' : Int} (h : zq sv v v2 = some (.inl v2')) : zP sv v v2 = zP sv v v2' := zD (body := fun s : Int => zq sv v s) h
theorem zbI {sv : (List zb)} {v : Int} {v2 : Int} {oo_ : (Unit ⊕ Int)} (h : zq sv v v2 = some (.inr oo_)) : zP sv v v2 = some oo_ := zC (body := fun s : Int => zq sv v s) h
def zcE (m : zc) (v : Int) : Option (Int × Bool) :=
 zas m.Fields v >>= fun rv =>
 some ((if rv < 0 then 0 else rv), (decide (rv ≥ 0)))
def zgN (m : zc) (number : Int) : Option (Int × Bool) :=
 zcE m number >>= fun rv =>
 some (rv.1, rv.2)
def zgM (f : zb) (v : Str) : Option Bool :=
 some (f.Name == v)
def zt (sv : (List zb)) (v : Str) (v2 : Int) : Option (Int ⊕ (Unit ⊕ Int)) :=
 if (decide (v2 < (sv.length : Int))) then (
  idx sv v2 >>= fun x =>
  zgM x v >>= fun rv =>
  if rv then (
   some (.inr (.inr v2))
  ) else (
   some (.inl (IntKind.i64.wrap (v2 + 1)))
  )
 ) else (
  some (.inr (.inl ()))
 )
def zQ (sv : (List zb)) (v : Str) (v2 : Int) : Option (Unit ⊕ Int) := zah (fun s : Int => zt sv v s) v2
def zaz (sv : (List zb)) (v : Str) : Option Int :=
 zQ sv v 0 >>= fun q =>
 match q with
 | .inl u => (
  some (-1)
 )
 | .inr u2 => (
  some u2
 )
theorem zdF {sv : (List zb)} {v : Str} {v2 : Int} {v2' : Int} (h : zt sv v v2 = some (.inl v2')) : zQ sv v v2 = zQ sv v v2' := zD (body := fun s : Int => zt sv v s) h
theorem zbM {sv : (List zb)} {v : Str} {v2 : Int} {oo_ : (Unit ⊕ Int)} (h : zt sv v v2 = some (.inr oo_)) : zQ sv v v2 = some oo_ := zC (body := fun s : Int => zt sv v s) h
def zcY (m : zc) (v : Str) : Option (Int × Bool) :=
 zaz m.Fields v >>= fun rv =>
 some ((if rv < 0 then 0 else rv), (decide (rv ≥ 0)))
def zhP (m : zc) (name : Str) : Option (Int × Bool) :=
 zcY m name >>= fun rv =>
 some (rv.1, rv.2)
def zaZ (m : zc) (number : Int) (i : Int) : Option (Int ⊕ (Unit ⊕ Int)) :=
 if (decide (i < (m.Fields.length : Int))) then (
  idx m.Fields i >>= fun x =>
  if (x.Number == number) then (
   some (.inr (.inr i))
  ) else (
   some (.inl (IntKind.i64.wrap (i + 1)))
  )
 ) else (
  some (.inr (.inl ()))
 )
def zdd (m : zc) (number : Int) (i : Int) : Option (Unit ⊕ Int) := zah (fun s : Int => zaZ m number s) i
def zfn (m : zc) (number : Int) : Option Int :=
 zdd m number 0 >>= fun q =>
 match q with
 | .inl u => (
  some (-1)
 )
 | .inr u2 => (
  some u2
 )
theorem zkJ {m : zc} {number : Int} {i : Int} {i' : Int} (h : zaZ m number i = some (.inl i')) : zdd m number i = zdd m number i' := zD (body := fun s : Int => zaZ m number s) h
theorem zhA {m : zc} {number : Int} {i : Int} {oo_ : (Unit ⊕ Int)} (h : zaZ m number i = some (.inr oo_)) : zdd m number i = some oo_ := zC (body := fun s : Int => zaZ m number s) h
def zba (m : zc) (name : Str) (i : Int) : Option (Int ⊕ (Unit ⊕ Int)) :=
 if (decide (i < (m.Fields.length : Int))) then (
  idx m.Fields i >>= fun x =>
  if (x.Name == name) then (
   some (.inr (.inr i))
  ) else (
   some (.inl (IntKind.i64.wrap (i + 1)))
  )
 ) else (
  some (.inr (.inl ()))
 )
def zde (m : zc) (name : Str) (i : Int) : Option (Unit ⊕ Int) := zah (fun s : Int => zba m name s) i
def zfo (m : zc) (name : Str) : Option Int :=
 zde m name 0 >>= fun q =>
 match q with
 | .inl u => (
  some (-1)
 )
 | .inr u2 => (
  some u2
 )
theorem zkK {m : zc} {name : Str} {i : Int} {i' : Int} (h : zba m name i = some (.inl i')) : zde m name i = zde m name i' := zD (body := fun s : Int => zba m name s) h
theorem zhB {m : zc} {name : Str} {i : Int} {oo_ : (Unit ⊕ Int)} (h : zba m name i = some (.inr oo_)) : zde m name i = some oo_ := zC (body := fun s : Int => zba m name s) h
def zaE (av : (List Int)) (b : (List Int)) (i : Int) : Option (Int ⊕ (Unit ⊕ Unit)) :=
 if (decide (i < (av.length : Int))) then (
  idx av i >>= fun x =>
  idx b i >>= fun x2 =>
  if (x != x2) then (
   some (.inr (.inr ()))
  ) else (
   some (.inl (IntKind.i64.wrap (i + 1)))
  )
 ) else (
  some (.inr (.inl ()))
 )
def zcs (av : (List Int)) (b : (List Int)) (i : Int) : Option (Unit ⊕ Unit) := zah (fun s : Int => zaE av b s) i
def zbV (av : (List Int)) (b : (List Int)) : Option Bool :=
 if ((av.length : Int) != (b.length : Int)) then (
  some false
 ) else (
  zcs av b 0 >>= fun q =>
  match q with
  | .inl u => (
   some true
  )
  | .inr u2 => (
   some false
  )
 )
theorem zjJ {av : (List Int)} {b : (List Int)} {i : Int} {i' : Int} (h : zaE av b i = some (.inl i')) : zcs av b i = zcs av b i' := zD (body := fun s : Int => zaE av b s) h
theorem zgI {av : (List Int)} {b : (List Int)} {i : Int} {oo_ : (Unit ⊕ Unit)} (h : zaE av b i = some (.inr oo_)) : zcs av b i = some oo_ := zC (body := fun s : Int => zaE av b s) h
def zfp (sv : (List zc)) : Option Bool :=
 zfl sv >>= fun rv =>
 some (rv.2.2 == 0)
end
end Go.Proofs.YtglkepeofhonlaaGreatDoor
namespace Go.Proofs.YtglkepeofhonlaaGreatDoor
open Go
set_option linter.unusedVariables false
noncomputable section
def zbx (l : (List Str)) (n : Int) (i : Int) : Option ((Int × Int) ⊕ Int) :=
 if (decide (i < (l.length : Int))) then (
  idx l i >>= fun x =>
  some (.inl ((IntKind.i64.wrap ((IntKind.i64.wrap (n + (x.length : Int))) + 1)), (IntKind.i64.wrap (i + 1))))
 ) else (
  some (.inr n)
 )
def zdr (l : (List Str)) (n : Int) (i : Int) : Option Int := zah (fun s : (Int × Int) => zbx l s.1 s.2) (n, i)
def zeN (l : (List Str)) : Option Bool :=
 zdr l 0 0 >>= fun q =>
 some (decide (q > 6000))
theorem zld {l : (List Str)} {n : Int} {i : Int} {n' : Int} {i' : Int} (h : zbx l n i = some (.inl (n', i'))) : zdr l n i = zdr l n' i' := zD (body := fun s : (Int × Int) => zbx l s.1 s.2) h
theorem zle {l : (List Str)} {n : Int} {i : Int} {oo_ : Int} (h : zbx l n i = some (.inr oo_)) : zdr l n i = some oo_ := zC (body := fun s : (Int × Int) => zbx l s.1 s.2) h
def zct (rv2 : (List Str)) (sv : (List zc)) (v2 : Int) : Option (((List zc) × Int) ⊕ (List zc)) :=
 if (decide (v2 < ((zcv rv2).length : Int))) then (
  idx (zcv rv2) v2 >>= fun x =>
  idx sv v2 >>= fun x2 =>
  some (.inl ((sv.set (Int.toNat v2) (⟨x, x2.Fields⟩ : zc)), (IntKind.i64.wrap (v2 + 1))))
 ) else (
  some (.inr sv)
 )
def zff (rv2 : (List Str)) (sv : (List zc)) (v2 : Int) : Option (List zc) := zah (fun s : ((List zc) × Int) => zct rv2 s.1 s.2) (sv, v2)
def zgU (l : (List Str)) : Option Bool :=
 zcQ l >>= fun rv =>
 zag rv >>= fun rv2 =>
 mkO 40 ((⟨[], []⟩ : zc) : zc) ((zcv rv2).length : Int) ((zcv rv2).length : Int) >>= fun v =>
 zff rv2 v 0 >>= fun q =>
 zhv q >>= fun rv3 =>
 some rv3
theorem znN {rv2 : (List Str)} {sv : (List zc)} {v2 : Int} {sv' : (List zc)} {v2' : Int} (h : zct rv2 sv v2 = some (.inl (sv', v2'))) : zff rv2 sv v2 = zff rv2 sv' v2' := zD (body := fun s : ((List zc) × Int) => zct rv2 s.1 s.2) h
theorem znO {rv2 : (List Str)} {sv : (List zc)} {v2 : Int} {oo_ : (List zc)} (h : zct rv2 sv v2 = some (.inr oo_)) : zff rv2 sv v2 = some oo_ := zC (body := fun s : ((List zc) × Int) => zct rv2 s.1 s.2) h
def zeC  (f : (List Str)) (x : Str) : Option ((List Str) ⊕ (List Str)) :=
 if ((f.length : Int) == 65) then (
  some (.inr f)
 ) else (
  app 16 f ([x] : (List Str)) >>= fun v =>
  some (.inl v)
 )
def zku (p : Str) : Option ((List Str) × Int) :=
 zhx p [46] >>= fun rv =>
 zdq rv.1 rv.2.1 rv.2.2 (rnd (fun (s : (List Str)) (x : Str) => zeC s x)) (.inl []) >>= fun q =>
 match q with
 | .inl u => (
  zgU u >>= fun rv2 =>
  if (!rv2) then (
   some ([], 12)
  ) else (
   some (u, 0)
  )
 )
 | .inr j => (
  some ([], 12)
 )
def zaA (p : Str) (out : (List Str)) (fromv : Int) (i : Int) : Option (((List Str) × Int × Int) ⊕ ((List Str) ⊕ Unit)) :=
 if (decide (i ≤ (p.length : Int))) then (
  (
   if (decide (i < (p.length : Int))) then (
    idx p i >>= fun c =>
    some ((c.toNat : Int) != 46)
   ) else (
    some false
   )
  ) >>= fun g =>
  if g then (
   some (.inl (out, fromv, (IntKind.i64.wrap (i + 1))))
  ) else (
   cut p fromv i >>= fun v2 =>
   zdK v2 >>= fun rv =>
   if (!rv) then (
    some (.inr (.inr ()))
   ) else (
    cut p fromv i >>= fun v3 =>
    app 16 out ([v3] : (List Str)) >>= fun v4 =>
    some (.inl (v4, (IntKind.i64.wrap (i + 1)), (IntKind.i64.wrap (i + 1))))
   )
  )
 ) else (
  some (.inr (.inl out))
 )
def zcx (p : Str) (out : (List Str)) (fromv : Int) (i : Int) : Option ((List Str) ⊕ Unit) := zah (fun s : ((List Str) × Int × Int) => zaA p s.1 s.2.1 s.2.2) (out, fromv, i)
def zfq (p : Str) : Option ((List Str) × Bool) :=
 zcx p [] 0 0 >>= fun q =>
 match q with
 | .inl u => (
  if (decide ((u.length : Int) > 65)) then (
   some ([], false)
  ) else (
   some (u, true)
  )
 )
 | .inr u2 => (
  some ([], false)
 )
theorem zfG {p : Str} {out : (List Str)} {fromv : Int} {i : Int} {out' : (List Str)} {fromv' : Int} {i' : Int} (h : zaA p out fromv i = some (.inl (out', fromv', i'))) : zcx p out fromv i = zcx p out' fromv' i' := zD (body := fun s : ((List Str) × Int × Int) => zaA p s.1 s.2.1 s.2.2) h
theorem zfH {p : Str} {out : (List Str)} {fromv : Int} {i : Int} {oo_ : ((List Str) ⊕ Unit)} (h : zaA p out fromv i = some (.inr oo_)) : zcx p out fromv i = some oo_ := zC (body := fun s : ((List Str) × Int × Int) => zaA p s.1 s.2.1 s.2.2) h
def zlM (l : (List Str)) : Option (Str × Int) :=
 (
  if (decide ((l.length : Int) > 65)) then (
   some true
  ) else (
   zgU l >>= fun rv =>
   some (!rv)
  )
 ) >>= fun g =>
 if g then (
  some ([], 12)
 ) else (
  strings_Join l [46] >>= fun rv2 =>
  some (rv2, 0)
 )
def zaO (av : (List Str)) (b : (List Str)) (n : Int) : Option (Int ⊕ Int) :=
 (
  if (n == (av.length : Int)) then (
   some true
  ) else (
   if (n == (b.length : Int)) then (
    some true
   ) else (
    idx av n >>= fun x =>
    idx b n >>= fun x2 =>
    some (!(x == x2))
   )
  )
 ) >>= fun g =>
 if g then (
  some (.inr n)
 ) else (
  some (.inl (IntKind.i64.wrap (n + 1)))
 )
def zcO (av : (List Str)) (b : (List Str)) (n : Int) : Option Int := zah (fun s : Int => zaO av b s) n
def zgi (av : (List Str)) (b : (List Str)) : Option Int :=
 zcO av b 0 >>= fun q =>
 some q
theorem zkl {av : (List Str)} {b : (List Str)} {n : Int} {n' : Int} (h : zaO av b n = some (.inl n')) : zcO av b n = zcO av b n' := zD (body := fun s : Int => zaO av b s) h
theorem zhc {av : (List Str)} {b : (List Str)} {n : Int} {oo_ : Int} (h : zaO av b n = some (.inr oo_)) : zcO av b n = some oo_ := zC (body := fun s : Int => zaO av b s) h
def zfP (av : (List Str)) (b : (List Str)) : Option Bool :=
 (
  if ((av.length : Int) == (b.length : Int)) then (
   zgi av b >>= fun rv =>
   some (rv == (av.length : Int))
  ) else (
   some false
  )
 ) >>= fun g =>
 some g
def zbz (l : (List Str)) (out : Str) (i : Int) : Option ((Str × Int) ⊕ Str) :=
 if (decide (i < (l.length : Int))) then (
  ((
   if (decide (i > 0)) then (
    cat out [46] >>= fun v =>
    some v
   ) else (
    some out
   )
   : Option Str)) >>= fun p =>
  idx l i >>= fun x =>
  cat p x >>= fun v2 =>
  some (.inl (v2, (IntKind.i64.wrap (i + 1))))
 ) else (
  some (.inr out)
 )
def zdu (l : (List Str)) (out : Str) (i : Int) : Option Str := zah (fun s : (Str × Int) => zbz l s.1 s.2) (out, i)
def zfO (l : (List Str)) : Option Str :=
 zdu l [] 0 >>= fun q =>
 some q
theorem zlk {l : (List Str)} {out : Str} {i : Int} {out' : Str} {i' : Int} (h : zbz l out i = some (.inl (out', i'))) : zdu l out i = zdu l out' i' := zD (body := fun s : (Str × Int) => zbz l s.1 s.2) h
theorem zll {l : (List Str)} {out : Str} {i : Int} {oo_ : Str} (h : zbz l out i = some (.inr oo_)) : zdu l out i = some oo_ := zC (body := fun s : (Str × Int) => zbz l s.1 s.2) h
end
end Go.Proofs.YtglkepeofhonlaaGreatDoor
namespace Go.Proofs.YtglkepeofhonlaaGreatDoor
open Go
set_option linter.unusedVariables false
noncomputable section
def zfU (way : (List Int)) (v : Int) : Option Bool :=
 (
  if ((way.length : Int) == 1) then (
   idx way 0 >>= fun x =>
   some (x == v)
  ) else (
   some false
  )
 ) >>= fun g =>
 some g
def zu (sv : (List (List Int))) (v : Int) (v2 : Int) : Option (Int ⊕ (Unit ⊕ Int)) :=
 if (decide (v2 < (sv.length : Int))) then (
  idx sv v2 >>= fun x =>
  zfU x v >>= fun rv =>
  if rv then (
   some (.inr (.inr v2))
  ) else (
   some (.inl (IntKind.i64.wrap (v2 + 1)))
  )
 ) else (
  some (.inr (.inl ()))
 )
def zV (sv : (List (List Int))) (v : Int) (v2 : Int) : Option (Unit ⊕ Int) := zah (fun s : Int => zu sv v s) v2
def zaP (sv : (List (List Int))) (v : Int) : Option Int :=
 zV sv v 0 >>= fun q =>
 match q with
 | .inl u => (
  some (-1)
 )
 | .inr u2 => (
  some u2
 )
theorem zeE {sv : (List (List Int))} {v : Int} {v2 : Int} {v2' : Int} (h : zu sv v v2 = some (.inl v2')) : zV sv v v2 = zV sv v v2' := zD (body := fun s : Int => zu sv v s) h
theorem zce {sv : (List (List Int))} {v : Int} {v2 : Int} {oo_ : (Unit ⊕ Int)} (h : zu sv v v2 = some (.inr oo_)) : zV sv v v2 = some oo_ := zC (body := fun s : Int => zu sv v s) h
def zaH (sv : (List (List Int))) (v : Int) : Option Bool :=
 zaP sv v >>= fun rv =>
 some (decide (rv ≥ 0))
def zfK (m : zO) (number : Int) : Option Bool :=
 zaH m.Ways number >>= fun rv =>
 some rv
def zkf (way : (List Int)) (other : (List Int)) : Option Bool :=
 (
  if (decide ((other.length : Int) > 0)) then (
   if (decide ((other.length : Int) ≤ (way.length : Int))) then (
    cut way 0 (other.length : Int) >>= fun v =>
    zdB v other >>= fun rv =>
    some rv
   ) else (
    some false
   )
  ) else (
   some false
  )
 ) >>= fun g =>
 some g
def zcH (ways : (List (List Int))) (last : (List Int)) (v : Int) : Option (((List Int) × Int) ⊕ (Unit ⊕ Unit)) :=
 if (decide (v < (ways.length : Int))) then (
  idx ways v >>= fun x =>
  (
   zcS last x >>= fun rv =>
   if (decide (rv ≥ 0)) then (
    some true
   ) else (
    zkf x last >>= fun rv2 =>
    some rv2
   )
  ) >>= fun g =>
  if g then (
   some (.inr (.inr ()))
  ) else (
   some (.inl (x, (IntKind.i64.wrap (v + 1))))
  )
 ) else (
  some (.inr (.inl ()))
 )
def zgp (ways : (List (List Int))) (last : (List Int)) (v : Int) : Option (Unit ⊕ Unit) := zah (fun s : ((List Int) × Int) => zcH ways s.1 s.2) (last, v)
def zit (ways : (List (List Int))) : Option Bool :=
 zgp ways [] 0 >>= fun q =>
 match q with
 | .inl u => (
  some true
 )
 | .inr u2 => (
  some false
 )
theorem zpb {ways : (List (List Int))} {last : (List Int)} {v : Int} {last' : (List Int)} {v' : Int} (h : zcH ways last v = some (.inl (last', v'))) : zgp ways last v = zgp ways last' v' := zD (body := fun s : ((List Int) × Int) => zcH ways s.1 s.2) h
theorem zkr {ways : (List (List Int))} {last : (List Int)} {v : Int} {oo_ : (Unit ⊕ Unit)} (h : zcH ways last v = some (.inr oo_)) : zgp ways last v = some oo_ := zC (body := fun s : ((List Int) × Int) => zcH ways s.1 s.2) h
def zdj (ways : (List (List Int))) (l : (List (List Int))) (v2 : Int) : Option (((List (List Int)) × Int) ⊕ (List (List Int))) :=
 if (decide (v2 < (ways.length : Int))) then (
  idx ways v2 >>= fun x =>
  zdA x >>= fun rv =>
  idx l v2 >>= fun x2 =>
  some (.inl ((l.set (Int.toNat v2) rv), (IntKind.i64.wrap (v2 + 1))))
 ) else (
  some (.inr l)
 )
def zgn (ways : (List (List Int))) (l : (List (List Int))) (v2 : Int) : Option (List (List Int)) := zah (fun s : ((List (List Int)) × Int) => zdj ways s.1 s.2) (l, v2)
def zis (ways : (List (List Int))) : Option (List (List Int)) :=
 mkO 24 ([] : (List Int)) (ways.length : Int) (ways.length : Int) >>= fun v =>
 zgn ways v 0 >>= fun q =>
 some q
theorem zoZ {ways : (List (List Int))} {l : (List (List Int))} {v2 : Int} {l' : (List (List Int))} {v2' : Int} (h : zdj ways l v2 = some (.inl (l', v2'))) : zgn ways l v2 = zgn ways l' v2' := zD (body := fun s : ((List (List Int)) × Int) => zdj ways s.1 s.2) h
theorem zpa {ways : (List (List Int))} {l : (List (List Int))} {v2 : Int} {oo_ : (List (List Int))} (h : zdj ways l v2 = some (.inr oo_)) : zgn ways l v2 = some oo_ := zC (body := fun s : ((List (List Int)) × Int) => zdj ways s.1 s.2) h
def zbd (t : (List (zI × Int))) (way : (List Int)) (place : Int) (v : Int) : Option ((Int × Int) ⊕ (Unit ⊕ Bool)) :=
 if (decide (v < (way.length : Int))) then (
  idx way v >>= fun x =>
  if (!(mget t (⟨place, x⟩ : zI)).isSome) then (
   some (.inr (.inr false))
  ) else (
   if (((mget t (⟨place, x⟩ : zI)).getD 0) == (-1)) then (
    some (.inr (.inr true))
   ) else (
    some (.inl (((mget t (⟨place, x⟩ : zI)).getD 0), (IntKind.i64.wrap (v + 1))))
   )
  )
 ) else (
  some (.inr (.inl ()))
 )
def zev (t : (List (zI × Int))) (way : (List Int)) (place : Int) (v : Int) : Option (Unit ⊕ Bool) := zah (fun s : (Int × Int) => zbd t way s.1 s.2) (place, v)
def zeQ (t : (List (zI × Int))) (way : (List Int)) : Option Bool :=
 zev t way 0 0 >>= fun q =>
 match q with
 | .inl u => (
  some false
 )
 | .inr u2 => (
  some u2
 )
theorem zmt {t : (List (zI × Int))} {way : (List Int)} {place : Int} {v : Int} {place' : Int} {v' : Int} (h : zbd t way place v = some (.inl (place', v'))) : zev t way place v = zev t way place' v' := zD (body := fun s : (Int × Int) => zbd t way s.1 s.2) h
theorem zgF {t : (List (zI × Int))} {way : (List Int)} {place : Int} {v : Int} {oo_ : (Unit ⊕ Bool)} (h : zbd t way place v = some (.inr oo_)) : zev t way place v = some oo_ := zC (body := fun s : (Int × Int) => zbd t way s.1 s.2) h
def zbN (way : (List Int)) (t2 : (List (zI × Int))) (place : Int) (v : Int) (f : Int) (f2 : Int) : Option (((List (zI × Int)) × Int × Int × Int × Int) ⊕ ((List (zI × Int)) × Int × Int)) :=
 if (decide (v < (way.length : Int))) then (
  idx way v >>= fun x =>
  if (!(mget t2 (⟨place, x⟩ : zI)).isSome) then (
   some (.inl ((mput t2 (⟨place, x⟩ : zI) (IntKind.i64.wrap ((t2.length : Int) + 1))), ((mget (mput t2 (⟨place, x⟩ : zI) (IntKind.i64.wrap ((t2.length : Int) + 1))) (⟨place, x⟩ : zI)).getD 0), (IntKind.i64.wrap (v + 1)), place, x))
  ) else (
   some (.inl (t2, ((mget t2 (⟨place, x⟩ : zI)).getD 0), (IntKind.i64.wrap (v + 1)), place, x))
  )
 ) else (
  some (.inr (t2, f, f2))
 )
def zfM (way : (List Int)) (t2 : (List (zI × Int))) (place : Int) (v : Int) (f : Int) (f2 : Int) : Option ((List (zI × Int)) × Int × Int) := zah (fun s : ((List (zI × Int)) × Int × Int × Int × Int) => zbN way s.1 s.2.1 s.2.2.1 s.2.2.2.1 s.2.2.2.2) (t2, place, v, f, f2)
def zht (t : (List (zI × Int))) (way : (List Int)) : Option (List (zI × Int)) :=
 zfM way t 0 0 0 0 >>= fun q =>
 some (mput q.1 (⟨q.2.1, q.2.2⟩ : zI) (-1))
theorem zjU {way : (List Int)} {t2 : (List (zI × Int))} {place : Int} {v : Int} {f : Int} {f2 : Int} {t2' : (List (zI × Int))} {place' : Int} {v' : Int} {f' : Int} {f2' : Int} (h : zbN way t2 place v f f2 = some (.inl (t2', place', v', f', f2'))) : zfM way t2 place v f f2 = zfM way t2' place' v' f' f2' := zD (body := fun s : ((List (zI × Int)) × Int × Int × Int × Int) => zbN way s.1 s.2.1 s.2.2.1 s.2.2.2.1 s.2.2.2.2) h
theorem zoz {way : (List Int)} {t2 : (List (zI × Int))} {place : Int} {v : Int} {f : Int} {f2 : Int} {oo_ : ((List (zI × Int)) × Int × Int)} (h : zbN way t2 place v f f2 = some (.inr oo_)) : zfM way t2 place v f f2 = some oo_ := zC (body := fun s : ((List (zI × Int)) × Int × Int × Int × Int) => zbN way s.1 s.2.1 s.2.2.1 s.2.2.2.1 s.2.2.2.2) h
def zfu (rv4 : (List (List Int))) (l : (List (List Int))) (t : (List (zI × Int))) (v : Int) : Option (((List (List Int)) × (List (zI × Int)) × Int) ⊕ (List (List Int))) :=
 if (decide (v < (rv4.length : Int))) then (
  idx rv4 v >>= fun x =>
  (
   if (decide ((x.length : Int) > 0)) then (
    zeQ t x >>= fun rv5 =>
    some (!rv5)
   ) else (
    some false
   )
  ) >>= fun g =>
  if g then (
   zht t x >>= fun rv7 =>
   app 24 l ([x] : (List (List Int))) >>= fun v3 =>
   some (.inl (v3, rv7, (IntKind.i64.wrap (v + 1))))
  ) else (
   some (.inl (l, t, (IntKind.i64.wrap (v + 1))))
  )
 ) else (
  some (.inr l)
 )
def ziV (rv4 : (List (List Int))) (l : (List (List Int))) (t : (List (zI × Int))) (v : Int) : Option (List (List Int)) := zah (fun s : ((List (List Int)) × (List (zI × Int)) × Int) => zfu rv4 s.1 s.2.1 s.2.2) (l, t, v)
def zgE (ways : (List (List Int))) : Option zO :=
 zit ways >>= fun rv =>
 if rv then (
  zis ways >>= fun rv2 =>
  some (⟨rv2⟩ : zO)
 ) else (
  zdo ways >>= fun rv3 =>
  zG rv3 >>= fun rv4 =>
  ziV rv4 [] ([] : (List (zI × Int))) 0 >>= fun q =>
  zis q >>= fun rv8 =>
  some (⟨rv8⟩ : zO)
 )
theorem znE {rv4 : (List (List Int))} {l : (List (List Int))} {t : (List (zI × Int))} {v : Int} {l' : (List (List Int))} {t' : (List (zI × Int))} {v' : Int} (h : zfu rv4 l t v = some (.inl (l', t', v'))) : ziV rv4 l t v = ziV rv4 l' t' v' := zD (body := fun s : ((List (List Int)) × (List (zI × Int)) × Int) => zfu rv4 s.1 s.2.1 s.2.2) h
theorem zsE {rv4 : (List (List Int))} {l : (List (List Int))} {t : (List (zI × Int))} {v : Int} {oo_ : (List (List Int))} (h : zfu rv4 l t v = some (.inr oo_)) : ziV rv4 l t v = some oo_ := zC (body := fun s : ((List (List Int)) × (List (zI × Int)) × Int) => zfu rv4 s.1 s.2.1 s.2.2) h
def zbH (m : zO) (number : Int) (rests : (List (List Int))) (v : Int) : Option (((List (List Int)) × Int) ⊕ (List (List Int))) :=
 if (decide (v < (m.Ways.length : Int))) then (
  idx m.Ways v >>= fun x =>
  (
   if (decide ((x.length : Int) > 1)) then (
    idx x 0 >>= fun x2 =>
    some (x2 == number)
   ) else (
    some false
   )
  ) >>= fun g =>
  if g then (
   cut x 1 (x.length : Int) >>= fun v3 =>
   app 24 rests ([v3] : (List (List Int))) >>= fun v4 =>
   some (.inl (v4, (IntKind.i64.wrap (v + 1))))
  ) else (
   some (.inl (rests, (IntKind.i64.wrap (v + 1))))
  )
 ) else (
  some (.inr rests)
 )
def zeu (m : zO) (number : Int) (rests : (List (List Int))) (v : Int) : Option (List (List Int)) := zah (fun s : ((List (List Int)) × Int) => zbH m number s.1 s.2) (rests, v)
def zgJ (m : zO) (number : Int) : Option (zO × Bool) :=
 zfK m number >>= fun rv =>
 if rv then (
  some ((⟨[]⟩ : zO), false)
 ) else (
  zeu m number [] 0 >>= fun q =>
  zgE q >>= fun rv2 =>
  some (rv2, (decide ((q.length : Int) > 0)))
 )
theorem zmp {m : zO} {number : Int} {rests : (List (List Int))} {v : Int} {rests' : (List (List Int))} {v' : Int} (h : zbH m number rests v = some (.inl (rests', v'))) : zeu m number rests v = zeu m number rests' v' := zD (body := fun s : ((List (List Int)) × Int) => zbH m number s.1 s.2) h
theorem zmq {m : zO} {number : Int} {rests : (List (List Int))} {v : Int} {oo_ : (List (List Int))} (h : zbH m number rests v = some (.inr oo_)) : zeu m number rests v = some oo_ := zC (body := fun s : ((List (List Int)) × Int) => zbH m number s.1 s.2) h
def zby (l : (List (List Int))) (n : Int) (i : Int) : Option ((Int × Int) ⊕ Int) :=
 if (decide (i < (l.length : Int))) then (
  idx l i >>= fun x =>
  some (.inl ((IntKind.i64.wrap ((IntKind.i64.wrap (n + 1)) + (x.length : Int))), (IntKind.i64.wrap (i + 1))))
 ) else (
  some (.inr n)
 )
def zds (l : (List (List Int))) (n : Int) (i : Int) : Option Int := zah (fun s : (Int × Int) => zby l s.1 s.2) (n, i)
def zcz (l : (List (List Int))) : Option Bool :=
 zds l 0 0 >>= fun q =>
 some (decide (q > 300))
theorem zlf {l : (List (List Int))} {n : Int} {i : Int} {n' : Int} {i' : Int} (h : zby l n i = some (.inl (n', i'))) : zds l n i = zds l n' i' := zD (body := fun s : (Int × Int) => zby l s.1 s.2) h
theorem zlg {l : (List (List Int))} {n : Int} {i : Int} {oo_ : Int} (h : zby l n i = some (.inr oo_)) : zds l n i = some oo_ := zC (body := fun s : (Int × Int) => zby l s.1 s.2) h
def ziX (sv : (List zc)) (root : Int) : Option Int :=
 zhv sv >>= fun rv =>
 if (!rv) then (
  some 9
 ) else (
  if ((decide (root < 0)) || (decide (root ≥ (sv.length : Int)))) then (
   some 2
  ) else (
   some 0
  )
 )
def zF (steps : (List Str)) (sv : (List zc)) (l : (List zb)) (v : Int) (f : Str) (f2 : Int) (f3 : Int) (f4 : Bool) (f5 : Bool) (f6 : Int) : Option (((List zb) × Int × Str × Int × Int × Bool × Bool × Int) ⊕ ((List zb) ⊕ Unit)) :=
 if (decide (v < (steps.length : Int))) then (
  idx steps v >>= fun x =>
  if ((f3 != 17) || f4) then (
   some (.inr (.inr ()))
  ) else (
   idx sv f6 >>= fun x2 =>
   zhP x2 x >>= fun rv =>
   if (!rv.2) then (
    some (.inr (.inr ()))
   ) else (
    idx x2.Fields rv.1 >>= fun x3 =>
    app 48 l ([x3] : (List zb)) >>= fun v3 =>
    some (.inl (v3, (IntKind.i64.wrap (v + 1)), x3.Name, x3.Number, x3.Kind, x3.Repeated, x3.Packed, x3.Of))
   )
  )
 ) else (
  some (.inr (.inl l))
 )
def zaM (steps : (List Str)) (sv : (List zc)) (l : (List zb)) (v : Int) (f : Str) (f2 : Int) (f3 : Int) (f4 : Bool) (f5 : Bool) (f6 : Int) : Option ((List zb) ⊕ Unit) := zah (fun s : ((List zb) × Int × Str × Int × Int × Bool × Bool × Int) => zF steps sv s.1 s.2.1 s.2.2.1 s.2.2.2.1 s.2.2.2.2.1 s.2.2.2.2.2.1 s.2.2.2.2.2.2.1 s.2.2.2.2.2.2.2) (l, v, f, f2, f3, f4, f5, f6)
def zcj (sv : (List zc)) (root : Int) (steps : (List Str)) : Option ((List zb) × Bool) :=
 zaM steps sv [] 0 [] 0 17 false false root >>= fun q =>
 match q with
 | .inl u => (
  some (u, true)
 )
 | .inr u2 => (
  some ([], false)
 )
theorem zgK {steps : (List Str)} {sv : (List zc)} {l : (List zb)} {v : Int} {f : Str} {f2 : Int} {f3 : Int} {f4 : Bool} {f5 : Bool} {f6 : Int} {l' : (List zb)} {v' : Int} {f' : Str} {f2' : Int} {f3' : Int} {f4' : Bool} {f5' : Bool} {f6' : Int} (h : zF steps sv l v f f2 f3 f4 f5 f6 = some (.inl (l', v', f', f2', f3', f4', f5', f6'))) : zaM steps sv l v f f2 f3 f4 f5 f6 = zaM steps sv l' v' f' f2' f3' f4' f5' f6' := zD (body := fun s : ((List zb) × Int × Str × Int × Int × Bool × Bool × Int) => zF steps sv s.1 s.2.1 s.2.2.1 s.2.2.2.1 s.2.2.2.2.1 s.2.2.2.2.2.1 s.2.2.2.2.2.2.1 s.2.2.2.2.2.2.2) h
theorem zcl {steps : (List Str)} {sv : (List zc)} {l : (List zb)} {v : Int} {f : Str} {f2 : Int} {f3 : Int} {f4 : Bool} {f5 : Bool} {f6 : Int} {oo_ : ((List zb) ⊕ Unit)} (h : zF steps sv l v f f2 f3 f4 f5 f6 = some (.inr oo_)) : zaM steps sv l v f f2 f3 f4 f5 f6 = some oo_ := zC (body := fun s : ((List zb) × Int × Str × Int × Int × Bool × Bool × Int) => zF steps sv s.1 s.2.1 s.2.2.1 s.2.2.2.1 s.2.2.2.2.1 s.2.2.2.2.2.1 s.2.2.2.2.2.2.1 s.2.2.2.2.2.2.2) h
def zdG (rv2 : ((List zb) × Bool)) (way : (List Int)) (v2 : Int) : Option (((List Int) × Int) ⊕ (List Int)) :=
 if (decide (v2 < (rv2.1.length : Int))) then (
  idx rv2.1 v2 >>= fun x =>
  idx way v2 >>= fun x2 =>
  some (.inl ((way.set (Int.toNat v2) x.Number), (IntKind.i64.wrap (v2 + 1))))
 ) else (
  some (.inr way)
 )
def zgS (rv2 : ((List zb) × Bool)) (way : (List Int)) (v2 : Int) : Option (List Int) := zah (fun s : ((List Int) × Int) => zdG rv2 s.1 s.2) (way, v2)
def zhZ (sv : (List zc)) (root : Int) (p : Str) : Option ((List Int) × Int) :=
 zku p >>= fun rv =>
 if (rv.2 != 0) then (
  some ([], 10)
 ) else (
  zcj sv root rv.1 >>= fun rv2 =>
  if (!rv2.2) then (
   some ([], 10)
  ) else (
   mkO 8 (0 : Int) (rv2.1.length : Int) (rv2.1.length : Int) >>= fun v =>
   zgS rv2 v 0 >>= fun q =>
   some (q, 0)
  )
 )
theorem zpY {rv2 : ((List zb) × Bool)} {way : (List Int)} {v2 : Int} {way' : (List Int)} {v2' : Int} (h : zdG rv2 way v2 = some (.inl (way', v2'))) : zgS rv2 way v2 = zgS rv2 way' v2' := zD (body := fun s : ((List Int) × Int) => zdG rv2 s.1 s.2) h
theorem zpZ {rv2 : ((List zb) × Bool)} {way : (List Int)} {v2 : Int} {oo_ : (List Int)} (h : zdG rv2 way v2 = some (.inr oo_)) : zgS rv2 way v2 = some oo_ := zC (body := fun s : ((List Int) × Int) => zdG rv2 s.1 s.2) h
def zdn (paths : (List Str)) (root : Int) (sv : (List zc)) (ways : (List (List Int))) (v2 : Int) : Option (((List (List Int)) × Int) ⊕ ((List (List Int)) ⊕ Int)) :=
 if (decide (v2 < (paths.length : Int))) then (
  idx paths v2 >>= fun x =>
  zhZ sv root x >>= fun rv2 =>
  if (rv2.2 != 0) then (
   some (.inr (.inr rv2.2))
  ) else (
   idx ways v2 >>= fun x2 =>
   some (.inl ((ways.set (Int.toNat v2) rv2.1), (IntKind.i64.wrap (v2 + 1))))
  )
 ) else (
  some (.inr (.inl ways))
 )
def zhp (paths : (List Str)) (root : Int) (sv : (List zc)) (ways : (List (List Int))) (v2 : Int) : Option ((List (List Int)) ⊕ Int) := zah (fun s : ((List (List Int)) × Int) => zdn paths root sv s.1 s.2) (ways, v2)
def zho (sv : (List zc)) (root : Int) (paths : (List Str)) : Option (zO × Int) :=
 ziX sv root >>= fun rv =>
 if (rv != 0) then (
  some ((⟨[]⟩ : zO), rv)
 ) else (
  if (decide ((paths.length : Int) > 200)) then (
   some ((⟨[]⟩ : zO), 13)
  ) else (
   mkO 24 ([] : (List Int)) (paths.length : Int) (paths.length : Int) >>= fun v =>
   zhp paths root sv v 0 >>= fun q =>
   match q with
   | .inl u => (
    zgE u >>= fun rv3 =>
    some (rv3, 0)
   )
   | .inr u2 => (
    some ((⟨[]⟩ : zO), u2)
   )
  )
 )
theorem zqK {paths : (List Str)} {root : Int} {sv : (List zc)} {ways : (List (List Int))} {v2 : Int} {ways' : (List (List Int))} {v2' : Int} (h : zdn paths root sv ways v2 = some (.inl (ways', v2'))) : zhp paths root sv ways v2 = zhp paths root sv ways' v2' := zD (body := fun s : ((List (List Int)) × Int) => zdn paths root sv s.1 s.2) h
theorem zlL {paths : (List Str)} {root : Int} {sv : (List zc)} {ways : (List (List Int))} {v2 : Int} {oo_ : ((List (List Int)) ⊕ Int)} (h : zdn paths root sv ways v2 = some (.inr oo_)) : zhp paths root sv ways v2 = some oo_ := zC (body := fun s : ((List (List Int)) × Int) => zdn paths root sv s.1 s.2) h
def zcF  : Option Bool :=
 zho ([(⟨[109], ([(⟨[97], 7, 17, false, false, 0⟩ : zb), (⟨[98], 2, 1, false, false, 0⟩ : zb), (⟨[99], 3, 1, false, false, 0⟩ : zb)] : (List zb))⟩ : zc)] : (List zc)) 0 ([[97, 46, 98], [97], [97, 46, 99]] : (List Str)) >>= fun rv =>
 (
  if ((IntKind.i64.wrap rv.2) == 0) then (
   if ((rv.1.Ways.length : Int) == 1) then (
    idx rv.1.Ways 0 >>= fun x =>
    zbV x ([7] : (List Int)) >>= fun rv2 =>
    some rv2
   ) else (
    some false
   )
  ) else (
   some false
  )
 ) >>= fun g =>
 some g
def zhq (sv : (List zc)) (root : Int) (p : Str) : Option ((List Int) × Int) :=
 ziX sv root >>= fun rv =>
 if (rv != 0) then (
  some ([], rv)
 ) else (
  zhZ sv root p >>= fun rv2 =>
  some (rv2.1, rv2.2)
 )
def zdL (sv : (List zc)) (root : Int) : Option Int :=
 zfp sv >>= fun rv =>
 if (!rv) then (
  some 9
 ) else (
  if ((decide (root < 0)) || (decide (root ≥ (sv.length : Int)))) then (
   some 2
  ) else (
   some 0
  )
 )
def zfr (rec_darningref13_Way : (List zc) → Int → (List Str) → Option ((List Int) × Bool)) (sv : (List zc)) (root : Int) (names : (List Str)) : Option ((List Int) × Bool) :=
 idx sv root >>= fun x =>
 idx names 0 >>= fun x2 =>
 zfo x x2 >>= fun rv =>
 if (decide (rv < 0)) then (
  some ([], false)
 ) else (
  idx sv root >>= fun x3 =>
  idx x3.Fields rv >>= fun x4 =>
  if ((names.length : Int) == 1) then (
   some (([x4.Number] : (List Int)), true)
  ) else (
   if (x4.Repeated || (x4.Kind != 17)) then (
    some ([], false)
   ) else (
    cut names 1 (names.length : Int) >>= fun v2 =>
    rec_darningref13_Way sv x4.Of v2 >>= fun rv2 =>
    if (!rv2.2) then (
     some ([], false)
    ) else (
     app 8 ([x4.Number] : (List Int)) rv2.1 >>= fun v3 =>
     some (v3, true)
    )
   )
  )
 )
def zgm : Nat → (List zc) → Int → (List Str) → Option ((List Int) × Bool)
  | 0, _, _, _ => none
  | fuel + 1, sv, root, names => zfr (zgm fuel) sv root names
def zdx (fuel : Nat) (sv : (List zc)) (root : Int) (p : Str) : Option ((List Int) × Int) :=
 zdL sv root >>= fun rv =>
 if (rv != 0) then (
  some ([], rv)
 ) else (
  zfq p >>= fun rv2 =>
  if (!rv2.2) then (
   some ([], 10)
  ) else (
   zgm fuel sv root rv2.1 >>= fun rv3 =>
   if (!rv3.2) then (
    some ([], 10)
   ) else (
    some (rv3.1, 0)
   )
  )
 )
def zcU (way : (List Int)) (withv : (List Int)) : Option Bool :=
 (
  if (decide ((withv.length : Int) ≤ (way.length : Int))) then (
   cut way 0 (withv.length : Int) >>= fun v =>
   zbV v withv >>= fun rv =>
   some rv
  ) else (
   some false
  )
 ) >>= fun g =>
 some g
def zaI (av : (List Int)) (b : (List Int)) (i : Int) : Option (Int ⊕ (Unit ⊕ Bool)) :=
 if ((decide (i < (av.length : Int))) && (decide (i < (b.length : Int)))) then (
  idx av i >>= fun x =>
  idx b i >>= fun x2 =>
  if (x != x2) then (
   idx av i >>= fun x3 =>
   idx b i >>= fun x4 =>
   some (.inr (.inr (decide (x3 < x4))))
  ) else (
   some (.inl (IntKind.i64.wrap (i + 1)))
  )
 ) else (
  some (.inr (.inl ()))
 )
def zcG (av : (List Int)) (b : (List Int)) (i : Int) : Option (Unit ⊕ Bool) := zah (fun s : Int => zaI av b s) i
def zfS (av : (List Int)) (b : (List Int)) : Option Bool :=
 zcG av b 0 >>= fun q =>
 match q with
 | .inl u => (
  some (decide ((av.length : Int) < (b.length : Int)))
 )
 | .inr u2 => (
  some u2
 )
theorem zlo {av : (List Int)} {b : (List Int)} {i : Int} {i' : Int} (h : zaI av b i = some (.inl i')) : zcG av b i = zcG av b i' := zD (body := fun s : Int => zaI av b s) h
theorem zez {av : (List Int)} {b : (List Int)} {i : Int} {oo_ : (Unit ⊕ Bool)} (h : zaI av b i = some (.inr oo_)) : zcG av b i = some oo_ := zC (body := fun s : Int => zaI av b s) h
def zbD (i : Int) (ways : (List (List Int))) (ok : Bool) (k : Int) : Option ((Bool × Int) ⊕ Bool) :=
 if (decide (k < (ways.length : Int))) then (
  (
   if (k != i) then (
    idx ways k >>= fun x2 =>
    if (decide ((x2.length : Int) > 0)) then (
     idx ways i >>= fun x3 =>
     idx ways k >>= fun x4 =>
     zcU x3 x4 >>= fun rv =>
     if rv then (
      idx ways k >>= fun x5 =>
      idx ways i >>= fun x6 =>
      if (decide ((x5.length : Int) < (x6.length : Int))) then (
       some true
      ) else (
       some (decide (k < i))
      )
     ) else (
      some false
     )
    ) else (
     some false
    )
   ) else (
    some false
   )
  ) >>= fun g =>
  if g then (
   some (.inl (false, (IntKind.i64.wrap (k + 1))))
  ) else (
   some (.inl (ok, (IntKind.i64.wrap (k + 1))))
  )
 ) else (
  some (.inr ok)
 )
def zeo (i : Int) (ways : (List (List Int))) (ok : Bool) (k : Int) : Option Bool := zah (fun s : (Bool × Int) => zbD i ways s.1 s.2) (ok, k)
def zbE (i : Int) (out : (List (List Int))) (ways : (List (List Int))) (k2 : Int) : Option (Int ⊕ Int) :=
 (
  if (decide (k2 < (out.length : Int))) then (
   idx out k2 >>= fun x7 =>
   idx ways i >>= fun x8 =>
   zfS x7 x8 >>= fun rv2 =>
   some rv2
  ) else (
   some false
  )
 ) >>= fun g2 =>
 if g2 then (
  some (.inl (IntKind.i64.wrap (k2 + 1)))
 ) else (
  some (.inr k2)
 )
def zep (i : Int) (out : (List (List Int))) (ways : (List (List Int))) (k2 : Int) : Option Int := zah (fun s : Int => zbE i out ways s) k2
def zbS (ways : (List (List Int))) (out : (List (List Int))) (i : Int) : Option (((List (List Int)) × Int) ⊕ (List (List Int))) :=
 if (decide (i < (ways.length : Int))) then (
  idx ways i >>= fun x =>
  zeo i ways (decide ((x.length : Int) > 0)) 0 >>= fun q =>
  if (!q) then (
   some (.inl (out, (IntKind.i64.wrap (i + 1))))
  ) else (
   zep i out ways 0 >>= fun q2 =>
   cut out 0 q2 >>= fun v3 =>
   app 24 ([] : (List (List Int))) v3 >>= fun v4 =>
   idx ways i >>= fun x9 =>
   app 24 v4 ([x9] : (List (List Int))) >>= fun v5 =>
   cut out q2 (out.length : Int) >>= fun v6 =>
   app 24 v5 v6 >>= fun v7 =>
   some (.inl (v7, (IntKind.i64.wrap (i + 1))))
  )
 ) else (
  some (.inr out)
 )
def zen (ways : (List (List Int))) (out : (List (List Int))) (i : Int) : Option (List (List Int)) := zah (fun s : ((List (List Int)) × Int) => zbS ways s.1 s.2) (out, i)
def zcL (ways : (List (List Int))) : Option (List (List Int)) :=
 zen ways [] 0 >>= fun q3 =>
 some q3
theorem ziF {i : Int} {ways : (List (List Int))} {ok : Bool} {k : Int} {ok' : Bool} {k' : Int} (h : zbD i ways ok k = some (.inl (ok', k'))) : zeo i ways ok k = zeo i ways ok' k' := zD (body := fun s : (Bool × Int) => zbD i ways s.1 s.2) h
theorem zmf {i : Int} {ways : (List (List Int))} {ok : Bool} {k : Int} {oo_ : Bool} (h : zbD i ways ok k = some (.inr oo_)) : zeo i ways ok k = some oo_ := zC (body := fun s : (Bool × Int) => zbD i ways s.1 s.2) h
theorem zmg {i : Int} {out : (List (List Int))} {ways : (List (List Int))} {k2 : Int} {k2' : Int} (h : zbE i out ways k2 = some (.inl k2')) : zep i out ways k2 = zep i out ways k2' := zD (body := fun s : Int => zbE i out ways s) h
theorem ziG {i : Int} {out : (List (List Int))} {ways : (List (List Int))} {k2 : Int} {oo_ : Int} (h : zbE i out ways k2 = some (.inr oo_)) : zep i out ways k2 = some oo_ := zC (body := fun s : Int => zbE i out ways s) h
theorem zmd {ways : (List (List Int))} {out : (List (List Int))} {i : Int} {out' : (List (List Int))} {i' : Int} (h : zbS ways out i = some (.inl (out', i'))) : zen ways out i = zen ways out' i' := zD (body := fun s : ((List (List Int)) × Int) => zbS ways s.1 s.2) h
theorem zme {ways : (List (List Int))} {out : (List (List Int))} {i : Int} {oo_ : (List (List Int))} (h : zbS ways out i = some (.inr oo_)) : zen ways out i = some oo_ := zC (body := fun s : ((List (List Int)) × Int) => zbS ways s.1 s.2) h
def zbm (fuel : Nat) (paths : (List Str)) (root : Int) (sv : (List zc)) (ways : (List (List Int))) (i : Int) : Option (((List (List Int)) × Int) ⊕ ((List (List Int)) ⊕ Int)) :=
 if (decide (i < (paths.length : Int))) then (
  idx paths i >>= fun x =>
  zdx fuel sv root x >>= fun rv2 =>
  if (rv2.2 != 0) then (
   some (.inr (.inr rv2.2))
  ) else (
   app 24 ways ([rv2.1] : (List (List Int))) >>= fun v2 =>
   some (.inl (v2, (IntKind.i64.wrap (i + 1))))
  )
 ) else (
  some (.inr (.inl ways))
 )
def zdv (fuel : Nat) (paths : (List Str)) (root : Int) (sv : (List zc)) (ways : (List (List Int))) (i : Int) : Option ((List (List Int)) ⊕ Int) := zah (fun s : ((List (List Int)) × Int) => zbm fuel paths root sv s.1 s.2) (ways, i)
def zfQ (fuel : Nat) (sv : (List zc)) (root : Int) (paths : (List Str)) : Option ((List (List Int)) × Int) :=
 zdL sv root >>= fun rv =>
 if (rv != 0) then (
  some ([], rv)
 ) else (
  if (decide ((paths.length : Int) > 200)) then (
   some ([], 13)
  ) else (
   zdv fuel paths root sv [] 0 >>= fun q =>
   match q with
   | .inl u => (
    zcL u >>= fun rv3 =>
    some (rv3, 0)
   )
   | .inr u2 => (
    some ([], u2)
   )
  )
 )
theorem zlm {fuel : Nat} {paths : (List Str)} {root : Int} {sv : (List zc)} {ways : (List (List Int))} {i : Int} {ways' : (List (List Int))} {i' : Int} (h : zbm fuel paths root sv ways i = some (.inl (ways', i'))) : zdv fuel paths root sv ways i = zdv fuel paths root sv ways' i' := zD (body := fun s : ((List (List Int)) × Int) => zbm fuel paths root sv s.1 s.2) h
theorem zhK {fuel : Nat} {paths : (List Str)} {root : Int} {sv : (List zc)} {ways : (List (List Int))} {i : Int} {oo_ : ((List (List Int)) ⊕ Int)} (h : zbm fuel paths root sv ways i = some (.inr oo_)) : zdv fuel paths root sv ways i = some oo_ := zC (body := fun s : ((List (List Int)) × Int) => zbm fuel paths root sv s.1 s.2) h
def zbn (av : (List (List Int))) (b : (List (List Int))) (i : Int) : Option (Int ⊕ (Unit ⊕ Unit)) :=
 if (decide (i < (av.length : Int))) then (
  idx av i >>= fun x =>
  idx b i >>= fun x2 =>
  zbV x x2 >>= fun rv =>
  if (!rv) then (
   some (.inr (.inr ()))
  ) else (
   some (.inl (IntKind.i64.wrap (i + 1)))
  )
 ) else (
  some (.inr (.inl ()))
 )
def zdy (av : (List (List Int))) (b : (List (List Int))) (i : Int) : Option (Unit ⊕ Unit) := zah (fun s : Int => zbn av b s) i
def zaw (av : (List (List Int))) (b : (List (List Int))) : Option Bool :=
 if ((av.length : Int) != (b.length : Int)) then (
  some false
 ) else (
  zdy av b 0 >>= fun q =>
  match q with
  | .inl u => (
   some true
  )
  | .inr u2 => (
   some false
  )
 )
theorem zln {av : (List (List Int))} {b : (List (List Int))} {i : Int} {i' : Int} (h : zbn av b i = some (.inl i')) : zdy av b i = zdy av b i' := zD (body := fun s : Int => zbn av b s) h
theorem zhM {av : (List (List Int))} {b : (List (List Int))} {i : Int} {oo_ : (Unit ⊕ Unit)} (h : zbn av b i = some (.inr oo_)) : zdy av b i = some oo_ := zC (body := fun s : Int => zbn av b s) h
def zH (steps : (List Int)) (sv : (List zc)) (l : (List zb)) (v : Int) (f : Str) (f2 : Int) (f3 : Int) (f4 : Bool) (f5 : Bool) (f6 : Int) : Option (((List zb) × Int × Str × Int × Int × Bool × Bool × Int) ⊕ ((List zb) ⊕ Unit)) :=
 if (decide (v < (steps.length : Int))) then (
  idx steps v >>= fun x =>
  if ((f3 != 17) || f4) then (
   some (.inr (.inr ()))
  ) else (
   idx sv f6 >>= fun x2 =>
   zgN x2 x >>= fun rv =>
   if (!rv.2) then (
    some (.inr (.inr ()))
   ) else (
    idx x2.Fields rv.1 >>= fun x3 =>
    app 48 l ([x3] : (List zb)) >>= fun v3 =>
    some (.inl (v3, (IntKind.i64.wrap (v + 1)), x3.Name, x3.Number, x3.Kind, x3.Repeated, x3.Packed, x3.Of))
   )
  )
 ) else (
  some (.inr (.inl l))
 )
def zaR (steps : (List Int)) (sv : (List zc)) (l : (List zb)) (v : Int) (f : Str) (f2 : Int) (f3 : Int) (f4 : Bool) (f5 : Bool) (f6 : Int) : Option ((List zb) ⊕ Unit) := zah (fun s : ((List zb) × Int × Str × Int × Int × Bool × Bool × Int) => zH steps sv s.1 s.2.1 s.2.2.1 s.2.2.2.1 s.2.2.2.2.1 s.2.2.2.2.2.1 s.2.2.2.2.2.2.1 s.2.2.2.2.2.2.2) (l, v, f, f2, f3, f4, f5, f6)
def zco (sv : (List zc)) (root : Int) (steps : (List Int)) : Option ((List zb) × Bool) :=
 zaR steps sv [] 0 [] 0 17 false false root >>= fun q =>
 match q with
 | .inl u => (
  some (u, true)
 )
 | .inr u2 => (
  some ([], false)
 )
theorem zgX {steps : (List Int)} {sv : (List zc)} {l : (List zb)} {v : Int} {f : Str} {f2 : Int} {f3 : Int} {f4 : Bool} {f5 : Bool} {f6 : Int} {l' : (List zb)} {v' : Int} {f' : Str} {f2' : Int} {f3' : Int} {f4' : Bool} {f5' : Bool} {f6' : Int} (h : zH steps sv l v f f2 f3 f4 f5 f6 = some (.inl (l', v', f', f2', f3', f4', f5', f6'))) : zaR steps sv l v f f2 f3 f4 f5 f6 = zaR steps sv l' v' f' f2' f3' f4' f5' f6' := zD (body := fun s : ((List zb) × Int × Str × Int × Int × Bool × Bool × Int) => zH steps sv s.1 s.2.1 s.2.2.1 s.2.2.2.1 s.2.2.2.2.1 s.2.2.2.2.2.1 s.2.2.2.2.2.2.1 s.2.2.2.2.2.2.2) h
theorem zcy {steps : (List Int)} {sv : (List zc)} {l : (List zb)} {v : Int} {f : Str} {f2 : Int} {f3 : Int} {f4 : Bool} {f5 : Bool} {f6 : Int} {oo_ : ((List zb) ⊕ Unit)} (h : zH steps sv l v f f2 f3 f4 f5 f6 = some (.inr oo_)) : zaR steps sv l v f f2 f3 f4 f5 f6 = some oo_ := zC (body := fun s : ((List zb) × Int × Str × Int × Int × Bool × Bool × Int) => zH steps sv s.1 s.2.1 s.2.2.1 s.2.2.2.1 s.2.2.2.2.1 s.2.2.2.2.2.1 s.2.2.2.2.2.2.1 s.2.2.2.2.2.2.2) h
def zdk (rv : ((List zb) × Bool)) (names : (List Str)) (v2 : Int) : Option (((List Str) × Int) ⊕ (List Str)) :=
 if (decide (v2 < (rv.1.length : Int))) then (
  idx rv.1 v2 >>= fun x =>
  idx names v2 >>= fun x2 =>
  some (.inl ((names.set (Int.toNat v2) x.Name), (IntKind.i64.wrap (v2 + 1))))
 ) else (
  some (.inr names)
 )
def zgq (rv : ((List zb) × Bool)) (names : (List Str)) (v2 : Int) : Option (List Str) := zah (fun s : ((List Str) × Int) => zdk rv s.1 s.2) (names, v2)
def zjy (sv : (List zc)) (root : Int) (way : (List Int)) : Option (Str × Int) :=
 zco sv root way >>= fun rv =>
 if (!rv.2) then (
  some ([], 10)
 ) else (
  mkO 16 ([] : Str) (rv.1.length : Int) (rv.1.length : Int) >>= fun v =>
  zgq rv v 0 >>= fun q =>
  zlM q >>= fun rv2 =>
  if (rv2.2 != 0) then (
   some ([], 10)
  ) else (
   some (rv2.1, 0)
  )
 )
theorem zpc {rv : ((List zb) × Bool)} {names : (List Str)} {v2 : Int} {names' : (List Str)} {v2' : Int} (h : zdk rv names v2 = some (.inl (names', v2'))) : zgq rv names v2 = zgq rv names' v2' := zD (body := fun s : ((List Str) × Int) => zdk rv s.1 s.2) h
theorem zpd {rv : ((List zb) × Bool)} {names : (List Str)} {v2 : Int} {oo_ : (List Str)} (h : zdk rv names v2 = some (.inr oo_)) : zgq rv names v2 = some oo_ := zC (body := fun s : ((List Str) × Int) => zdk rv s.1 s.2) h
def zcM (m : zO) (root : Int) (sv : (List zc)) (paths : (List Str)) (v2 : Int) : Option (((List Str) × Int) ⊕ ((List Str) ⊕ Int)) :=
 if (decide (v2 < (m.Ways.length : Int))) then (
  idx m.Ways v2 >>= fun x =>
  zjy sv root x >>= fun rv3 =>
  if (rv3.2 != 0) then (
   some (.inr (.inr rv3.2))
  ) else (
   idx paths v2 >>= fun x2 =>
   some (.inl ((paths.set (Int.toNat v2) rv3.1), (IntKind.i64.wrap (v2 + 1))))
  )
 ) else (
  some (.inr (.inl paths))
 )
def zgR (m : zO) (root : Int) (sv : (List zc)) (paths : (List Str)) (v2 : Int) : Option ((List Str) ⊕ Int) := zah (fun s : ((List Str) × Int) => zcM m root sv s.1 s.2) (paths, v2)
def ziW (sv : (List zc)) (root : Int) (m : zO) : Option ((List Str) × Int) :=
 ziX sv root >>= fun rv =>
 if (rv != 0) then (
  some ([], rv)
 ) else (
  zit m.Ways >>= fun rv2 =>
  if (!rv2) then (
   some ([], 10)
  ) else (
   mkO 16 ([] : Str) (m.Ways.length : Int) (m.Ways.length : Int) >>= fun v =>
   zgR m root sv v 0 >>= fun q =>
   match q with
   | .inl u => (
    some (u, 0)
   )
   | .inr u2 => (
    some ([], u2)
   )
  )
 )
theorem zpW {m : zO} {root : Int} {sv : (List zc)} {paths : (List Str)} {v2 : Int} {paths' : (List Str)} {v2' : Int} (h : zcM m root sv paths v2 = some (.inl (paths', v2'))) : zgR m root sv paths v2 = zgR m root sv paths' v2' := zD (body := fun s : ((List Str) × Int) => zcM m root sv s.1 s.2) h
theorem zkW {m : zO} {root : Int} {sv : (List zc)} {paths : (List Str)} {v2 : Int} {oo_ : ((List Str) ⊕ Int)} (h : zcM m root sv paths v2 = some (.inr oo_)) : zgR m root sv paths v2 = some oo_ := zC (body := fun s : ((List Str) × Int) => zcM m root sv s.1 s.2) h
def zaT (sv : (List zc)) (way : (List Int)) (root2 : Int) (names : (List Str)) (i : Int) : Option ((Int × (List Str) × Int) ⊕ ((List Str) ⊕ Unit)) :=
 if (decide (i < (way.length : Int))) then (
  idx sv root2 >>= fun x =>
  idx way i >>= fun x2 =>
  zfn x x2 >>= fun rv =>
  if (decide (rv < 0)) then (
   some (.inr (.inr ()))
  ) else (
   idx sv root2 >>= fun x3 =>
   idx x3.Fields rv >>= fun x4 =>
   app 16 names ([x4.Name] : (List Str)) >>= fun v =>
   if ((decide (i < (IntKind.i64.wrap ((way.length : Int) - 1)))) && (x4.Repeated || (x4.Kind != 17))) then (
    some (.inr (.inr ()))
   ) else (
    some (.inl (x4.Of, v, (IntKind.i64.wrap (i + 1))))
   )
  )
 ) else (
  some (.inr (.inl names))
 )
def zdw (sv : (List zc)) (way : (List Int)) (root2 : Int) (names : (List Str)) (i : Int) : Option ((List Str) ⊕ Unit) := zah (fun s : (Int × (List Str) × Int) => zaT sv way s.1 s.2.1 s.2.2) (root2, names, i)
def zfR (sv : (List zc)) (root : Int) (way : (List Int)) : Option (Str × Bool) :=
 zdw sv way root [] 0 >>= fun q =>
 match q with
 | .inl u => (
  (
   zfO u >>= fun rv2 =>
   if (decide ((u.length : Int) ≥ 1)) then (
    some (rv2, (decide ((u.length : Int) ≤ 65)))
   ) else (
    some (rv2, false)
   )
  ) >>= fun g =>
  some (g.1, g.2)
 )
 | .inr u2 => (
  some ([], false)
 )
theorem zhL {sv : (List zc)} {way : (List Int)} {root2 : Int} {names : (List Str)} {i : Int} {root2' : Int} {names' : (List Str)} {i' : Int} (h : zaT sv way root2 names i = some (.inl (root2', names', i'))) : zdw sv way root2 names i = zdw sv way root2' names' i' := zD (body := fun s : (Int × (List Str) × Int) => zaT sv way s.1 s.2.1 s.2.2) h
theorem zga {sv : (List zc)} {way : (List Int)} {root2 : Int} {names : (List Str)} {i : Int} {oo_ : ((List Str) ⊕ Unit)} (h : zaT sv way root2 names i = some (.inr oo_)) : zdw sv way root2 names i = some oo_ := zC (body := fun s : (Int × (List Str) × Int) => zaT sv way s.1 s.2.1 s.2.2) h
def zar (root : Int) (sv : (List zc)) (ways : (List (List Int))) (want : (List Str)) (ok : Bool) (i : Int) : Option (((List Str) × Bool × Int) ⊕ ((List Str) × Bool)) :=
 if ((decide (i < (ways.length : Int))) && ok) then (
  idx ways i >>= fun x =>
  zfR sv root x >>= fun rv5 =>
  app 16 want ([rv5.1] : (List Str)) >>= fun v3 =>
  some (.inl (v3, rv5.2, (IntKind.i64.wrap (i + 1))))
 ) else (
  some (.inr (want, ok))
 )
def zci (root : Int) (sv : (List zc)) (ways : (List (List Int))) (want : (List Str)) (ok : Bool) (i : Int) : Option ((List Str) × Bool) := zah (fun s : ((List Str) × Bool × Int) => zar root sv ways s.1 s.2.1 s.2.2) (want, ok, i)
def zdT (sv : (List zc)) (root : Int) (ways : (List (List Int))) : Option Bool :=
 ziW sv root (⟨ways⟩ : zO) >>= fun rv =>
 zdL sv root >>= fun rv2 =>
 if (rv2 != 0) then (
  some (((IntKind.i64.wrap rv.2) == rv2) && ((rv.1.length : Int) == 0))
 ) else (
  zcL ways >>= fun rv3 =>
  zaw rv3 ways >>= fun rv4 =>
  zci root sv ways [] rv4 0 >>= fun q =>
  if (!q.2) then (
   some (((IntKind.i64.wrap rv.2) == 10) && ((rv.1.length : Int) == 0))
  ) else (
   (
    if ((IntKind.i64.wrap rv.2) == 0) then (
     zfP rv.1 q.1 >>= fun rv6 =>
     some rv6
    ) else (
     some false
    )
   ) >>= fun g =>
   some g
  )
 )
theorem zkk {root : Int} {sv : (List zc)} {ways : (List (List Int))} {want : (List Str)} {ok : Bool} {i : Int} {want' : (List Str)} {ok' : Bool} {i' : Int} (h : zar root sv ways want ok i = some (.inl (want', ok', i'))) : zci root sv ways want ok i = zci root sv ways want' ok' i' := zD (body := fun s : ((List Str) × Bool × Int) => zar root sv ways s.1 s.2.1 s.2.2) h
theorem zfj {root : Int} {sv : (List zc)} {ways : (List (List Int))} {want : (List Str)} {ok : Bool} {i : Int} {oo_ : ((List Str) × Bool)} (h : zar root sv ways want ok i = some (.inr oo_)) : zci root sv ways want ok i = some oo_ := zC (body := fun s : ((List Str) × Bool × Int) => zar root sv ways s.1 s.2.1 s.2.2) h
def zan (fuel : Nat) (paths : (List Str)) (root : Int) (sv : (List zc)) (i : Int) : Option (Int ⊕ (Unit ⊕ Unit)) :=
 if ((decide (i < (paths.length : Int))) && (decide (i < 8))) then (
  idx paths i >>= fun x =>
  zhq sv root x >>= fun rv5 =>
  idx paths i >>= fun x2 =>
  zdx fuel sv root x2 >>= fun rv6 =>
  zbV rv5.1 rv6.1 >>= fun rv7 =>
  if ((!rv7) || ((IntKind.i64.wrap rv5.2) != rv6.2)) then (
   some (.inr (.inr ()))
  ) else (
   some (.inl (IntKind.i64.wrap (i + 1)))
  )
 ) else (
  some (.inr (.inl ()))
 )
def zcg (fuel : Nat) (paths : (List Str)) (root : Int) (sv : (List zc)) (i : Int) : Option (Unit ⊕ Unit) := zah (fun s : Int => zan fuel paths root sv s) i
def zdI (fuel : Nat) (sv : (List zc)) (root : Int) (paths : (List Str)) (ways : (List (List Int))) : Option Bool :=
 zcF >>= fun rv =>
 if (!rv) then (
  some false
 ) else (
  (
   zfd sv >>= fun rv2 =>
   if (!rv2) then (
    some true
   ) else (
    zeN paths >>= fun rv3 =>
    if rv3 then (
     some true
    ) else (
     zcz ways >>= fun rv4 =>
     some rv4
    )
   )
  ) >>= fun g =>
  if g then (
   some true
  ) else (
   zcg fuel paths root sv 0 >>= fun q =>
   match q with
   | .inl u => (
    zho sv root paths >>= fun rv8 =>
    zfQ fuel sv root paths >>= fun rv9 =>
    zaw rv8.1.Ways rv9.1 >>= fun rv10 =>
    if ((!rv10) || ((IntKind.i64.wrap rv8.2) != rv9.2)) then (
     some false
    ) else (
     (
      zdT sv root rv8.1.Ways >>= fun rv11 =>
      if rv11 then (
       zdT sv root ways >>= fun rv12 =>
       some rv12
      ) else (
       some false
      )
     ) >>= fun g2 =>
     some g2
    )
   )
   | .inr u2 => (
    some false
   )
  )
 )
theorem zjp {fuel : Nat} {paths : (List Str)} {root : Int} {sv : (List zc)} {i : Int} {i' : Int} (h : zan fuel paths root sv i = some (.inl i')) : zcg fuel paths root sv i = zcg fuel paths root sv i' := zD (body := fun s : Int => zan fuel paths root sv s) h
theorem zgw {fuel : Nat} {paths : (List Str)} {root : Int} {sv : (List zc)} {i : Int} {oo_ : (Unit ⊕ Unit)} (h : zan fuel paths root sv i = some (.inr oo_)) : zcg fuel paths root sv i = some oo_ := zC (body := fun s : Int => zan fuel paths root sv s) h
def zkq (other : (List Int)) (v : (List Int)) : Option Bool :=
 zkf v other >>= fun rv =>
 some rv
def zA (sv : (List (List Int))) (v : (List Int)) (v2 : Int) : Option (Int ⊕ (Unit ⊕ Int)) :=
 if (decide (v2 < (sv.length : Int))) then (
  idx sv v2 >>= fun x =>
  zkq x v >>= fun rv =>
  if rv then (
   some (.inr (.inr v2))
  ) else (
   some (.inl (IntKind.i64.wrap (v2 + 1)))
  )
 ) else (
  some (.inr (.inl ()))
 )
def zak (sv : (List (List Int))) (v : (List Int)) (v2 : Int) : Option (Unit ⊕ Int) := zah (fun s : Int => zA sv v s) v2
def zbt (sv : (List (List Int))) (v : (List Int)) : Option Int :=
 zak sv v 0 >>= fun q =>
 match q with
 | .inl u => (
  some (-1)
 )
 | .inr u2 => (
  some u2
 )
theorem zfx {sv : (List (List Int))} {v : (List Int)} {v2 : Int} {v2' : Int} (h : zA sv v v2 = some (.inl v2')) : zak sv v v2 = zak sv v v2' := zD (body := fun s : Int => zA sv v s) h
theorem zcK {sv : (List (List Int))} {v : (List Int)} {v2 : Int} {oo_ : (Unit ⊕ Int)} (h : zA sv v v2 = some (.inr oo_)) : zak sv v v2 = some oo_ := zC (body := fun s : Int => zA sv v s) h
def zbf (sv : (List (List Int))) (v : (List Int)) : Option Bool :=
 zbt sv v >>= fun rv =>
 some (decide (rv ≥ 0))
def zeI (m : zO) (way : (List Int)) : Option Bool :=
 zbf m.Ways way >>= fun rv =>
 some rv
def zao (paths : (List Str)) (root : Int) (rv4 : (zO × Int)) (sv : (List zc)) (i : Int) : Option (Int ⊕ (Unit ⊕ Unit)) :=
 if ((decide (i < (paths.length : Int))) && (decide (i < 20))) then (
  idx paths i >>= fun x =>
  zhq sv root x >>= fun rv8 =>
  (
   if ((IntKind.i64.wrap rv8.2) != 0) then (
    some true
   ) else (
    zeI rv4.1 rv8.1 >>= fun rv9 =>
    some (!rv9)
   )
  ) >>= fun g3 =>
  if g3 then (
   some (.inr (.inr ()))
  ) else (
   some (.inl (IntKind.i64.wrap (i + 1)))
  )
 ) else (
  some (.inr (.inl ()))
 )
def zch (paths : (List Str)) (root : Int) (rv4 : (zO × Int)) (sv : (List zc)) (i : Int) : Option (Unit ⊕ Unit) := zah (fun s : Int => zao paths root rv4 sv s) i
def zdJ (sv : (List zc)) (root : Int) (paths : (List Str)) : Option Bool :=
 zcF >>= fun rv =>
 if (!rv) then (
  some false
 ) else (
  (
   zfd sv >>= fun rv2 =>
   if (!rv2) then (
    some true
   ) else (
    zeN paths >>= fun rv3 =>
    some rv3
   )
  ) >>= fun g =>
  if g then (
   some true
  ) else (
   zho sv root paths >>= fun rv4 =>
   if ((IntKind.i64.wrap rv4.2) != 0) then (
    some ((rv4.1.Ways.length : Int) == 0)
   ) else (
    ziW sv root rv4.1 >>= fun rv5 =>
    zho sv root rv5.1 >>= fun rv6 =>
    (
     if ((IntKind.i64.wrap ((IntKind.i64.wrap rv5.2) + (IntKind.i64.wrap rv6.2))) != 0) then (
      some true
     ) else (
      if ((rv5.1.length : Int) != (rv4.1.Ways.length : Int)) then (
       some true
      ) else (
       if (decide ((rv5.1.length : Int) > (paths.length : Int))) then (
        some true
       ) else (
        zaw rv6.1.Ways rv4.1.Ways >>= fun rv7 =>
        some (!rv7)
       )
      )
     )
    ) >>= fun g2 =>
    if g2 then (
     some false
    ) else (
     zch paths root rv4 sv 0 >>= fun q =>
     match q with
     | .inl u => (
      some true
     )
     | .inr u2 => (
      some false
     )
    )
   )
  )
 )
theorem zjq {paths : (List Str)} {root : Int} {rv4 : (zO × Int)} {sv : (List zc)} {i : Int} {i' : Int} (h : zao paths root rv4 sv i = some (.inl i')) : zch paths root rv4 sv i = zch paths root rv4 sv i' := zD (body := fun s : Int => zao paths root rv4 sv s) h
theorem zgx {paths : (List Str)} {root : Int} {rv4 : (zO × Int)} {sv : (List zc)} {i : Int} {oo_ : (Unit ⊕ Unit)} (h : zao paths root rv4 sv i = some (.inr oo_)) : zch paths root rv4 sv i = some oo_ := zC (body := fun s : Int => zao paths root rv4 sv s) h
def zhf (av : zO) (b : zO) : Option zO :=
 zbP ([av.Ways, b.Ways] : (List (List (List Int)))) >>= fun rv =>
 zgE rv >>= fun rv2 =>
 some rv2
def zgo (way : (List Int)) (v : (List (zI × Int))) : Option Bool :=
 zeQ v way >>= fun rv =>
 some (!rv)
def zx (sv : (List (List Int))) (v : (List (zI × Int))) (v2 : Int) : Option (Int ⊕ (Unit ⊕ Int)) :=
 if (decide (v2 < (sv.length : Int))) then (
  idx sv v2 >>= fun x =>
  zgo x v >>= fun rv =>
  if rv then (
   some (.inr (.inr v2))
  ) else (
   some (.inl (IntKind.i64.wrap (v2 + 1)))
  )
 ) else (
  some (.inr (.inl ()))
 )
def zaa (sv : (List (List Int))) (v : (List (zI × Int))) (v2 : Int) : Option (Unit ⊕ Int) := zah (fun s : Int => zx sv v s) v2
def zay (sv : (List (List Int))) (v : (List (zI × Int))) : Option Int :=
 zaa sv v 0 >>= fun q =>
 match q with
 | .inl u => (
  some (-1)
 )
 | .inr u2 => (
  some u2
 )
theorem zeR {sv : (List (List Int))} {v : (List (zI × Int))} {v2 : Int} {v2' : Int} (h : zx sv v v2 = some (.inl v2')) : zaa sv v v2 = zaa sv v v2' := zD (body := fun s : Int => zx sv v s) h
theorem zcm {sv : (List (List Int))} {v : (List (zI × Int))} {v2 : Int} {oo_ : (Unit ⊕ Int)} (h : zx sv v v2 = some (.inr oo_)) : zaa sv v v2 = some oo_ := zC (body := fun s : Int => zx sv v s) h
def zw (v : (List (zI × Int))) (sv2 : (List (List Int))) (i : Int) (j : Int) : Option (((List (List Int)) × Int × Int) ⊕ ((List (List Int)) × Int)) :=
 if (decide (j < (sv2.length : Int))) then (
  idx sv2 j >>= fun x =>
  zgo x v >>= fun rv2 =>
  if (!rv2) then (
   idx sv2 i >>= fun x2 =>
   some (.inl ((sv2.set (Int.toNat i) x), (IntKind.i64.wrap (i + 1)), (IntKind.i64.wrap (j + 1))))
  ) else (
   some (.inl (sv2, i, (IntKind.i64.wrap (j + 1))))
  )
 ) else (
  some (.inr (sv2, i))
 )
def zap (v : (List (zI × Int))) (sv2 : (List (List Int))) (i : Int) (j : Int) : Option ((List (List Int)) × Int) := zah (fun s : ((List (List Int)) × Int × Int) => zw v s.1 s.2.1 s.2.2) (sv2, i, j)
def zau (sv : (List (List Int))) (v : (List (zI × Int))) : Option (List (List Int)) :=
 zay sv v >>= fun rv =>
 if (rv == (-1)) then (
  some sv
 ) else (
  zap v sv rv (IntKind.i64.wrap (rv + 1)) >>= fun q =>
  cut q.1 q.2 (q.1.length : Int) >>= fun v2 =>
  cut (q.1.take (Int.toNat q.2) ++ List.replicate (q.1.length - (Int.toNat q.2)) ([] : (List Int))) 0 q.2 >>= fun v3 =>
  some v3
 )
theorem zck {v : (List (zI × Int))} {sv2 : (List (List Int))} {i : Int} {j : Int} {sv2' : (List (List Int))} {i' : Int} {j' : Int} (h : zw v sv2 i j = some (.inl (sv2', i', j'))) : zap v sv2 i j = zap v sv2' i' j' := zD (body := fun s : ((List (List Int)) × Int × Int) => zw v s.1 s.2.1 s.2.2) h
theorem zeM {v : (List (zI × Int))} {sv2 : (List (List Int))} {i : Int} {j : Int} {oo_ : ((List (List Int)) × Int)} (h : zw v sv2 i j = some (.inr oo_)) : zap v sv2 i j = some oo_ := zC (body := fun s : ((List (List Int)) × Int × Int) => zw v s.1 s.2.1 s.2.2) h
def zcN (other : zO) (v : Int) (f : (List (zI × Int))) : Option ((Int × (List (zI × Int))) ⊕ (List (zI × Int))) :=
 if (decide (v < (other.Ways.length : Int))) then (
  idx other.Ways v >>= fun x =>
  zht f x >>= fun rv2 =>
  some (.inl ((IntKind.i64.wrap (v + 1)), rv2))
 ) else (
  some (.inr f)
 )
def zfL (other : zO) (v : Int) (f : (List (zI × Int))) : Option (List (zI × Int)) := zah (fun s : (Int × (List (zI × Int))) => zcN other s.1 s.2) (v, f)
def zhr (m : zO) (other : zO) : Option (List (List Int)) :=
 zfL other 0 ([] : (List (zI × Int))) >>= fun q =>
 zcC m.Ways >>= fun rv3 =>
 zau rv3 q >>= fun v2 =>
 some v2
theorem zox {other : zO} {v : Int} {f : (List (zI × Int))} {v' : Int} {f' : (List (zI × Int))} (h : zcN other v f = some (.inl (v', f'))) : zfL other v f = zfL other v' f' := zD (body := fun s : (Int × (List (zI × Int))) => zcN other s.1 s.2) h
theorem zoy {other : zO} {v : Int} {f : (List (zI × Int))} {oo_ : (List (zI × Int))} (h : zcN other v f = some (.inr oo_)) : zfL other v f = some oo_ := zC (body := fun s : (Int × (List (zI × Int))) => zcN other s.1 s.2) h
def zir (av : zO) (b : zO) : Option zO :=
 zgE av.Ways >>= fun rv =>
 zgE b.Ways >>= fun rv2 =>
 zhr rv rv2 >>= fun rv3 =>
 zhr rv2 rv >>= fun rv4 =>
 zbP ([rv3, rv4] : (List (List (List Int)))) >>= fun rv5 =>
 zgE rv5 >>= fun rv6 =>
 some rv6
def zaB (rv4 : zO) (rv8 : zO) (way : (List Int)) (i : Int) : Option (Int ⊕ (Unit ⊕ Unit)) :=
 if (decide (i < (rv4.Ways.length : Int))) then (
  (
   idx rv4.Ways i >>= fun x =>
   app 8 ([] : (List Int)) x >>= fun v3 =>
   app 8 v3 way >>= fun v4 =>
   zeI rv4 v4 >>= fun rv17 =>
   if (!rv17) then (
    some true
   ) else (
    idx rv4.Ways i >>= fun x2 =>
    zeI rv8 x2 >>= fun rv18 =>
    some (!rv18)
   )
  ) >>= fun g3 =>
  if g3 then (
   some (.inr (.inr ()))
  ) else (
   some (.inl (IntKind.i64.wrap (i + 1)))
  )
 ) else (
  some (.inr (.inl ()))
 )
def zcp (rv4 : zO) (rv8 : zO) (way : (List Int)) (i : Int) : Option (Unit ⊕ Unit) := zah (fun s : Int => zaB rv4 rv8 way s) i
def zef (av : (List (List Int))) (b : (List (List Int))) (way : (List Int)) : Option Bool :=
 zcF >>= fun rv =>
 if (!rv) then (
  some false
 ) else (
  (
   zcz av >>= fun rv2 =>
   if rv2 then (
    some true
   ) else (
    zcz b >>= fun rv3 =>
    if rv3 then (
     some true
    ) else (
     some (decide ((way.length : Int) > 100))
    )
   )
  ) >>= fun g =>
  if g then (
   some true
  ) else (
   zgE av >>= fun rv4 =>
   zgE b >>= fun rv5 =>
   zeI rv4 way >>= fun rv6 =>
   zeI rv5 way >>= fun rv7 =>
   zhf rv4 rv5 >>= fun rv8 =>
   zir rv4 rv5 >>= fun rv9 =>
   (
    zeI rv8 way >>= fun rv10 =>
    if rv6 then (
     if (!(rv10 == true)) then (
      some true
     ) else (
      zeI rv9 way >>= fun rv11 =>
      if rv6 then (
       if (!(rv11 == rv7)) then (
        some true
       ) else (
        zeI (⟨av⟩ : zO) way >>= fun rv12 =>
        some (!(rv12 == rv6))
       )
      ) else (
       if (!(rv11 == false)) then (
        some true
       ) else (
        zeI (⟨av⟩ : zO) way >>= fun rv13 =>
        some (!(rv13 == rv6))
       )
      )
     )
    ) else (
     if (!(rv10 == rv7)) then (
      some true
     ) else (
      zeI rv9 way >>= fun rv14 =>
      if rv6 then (
       if (!(rv14 == rv7)) then (
        some true
       ) else (
        zeI (⟨av⟩ : zO) way >>= fun rv15 =>
        some (!(rv15 == rv6))
       )
      ) else (
       if (!(rv14 == false)) then (
        some true
       ) else (
        zeI (⟨av⟩ : zO) way >>= fun rv16 =>
        some (!(rv16 == rv6))
       )
      )
     )
    )
   ) >>= fun g2 =>
   if g2 then (
    some false
   ) else (
    zcp rv4 rv8 way 0 >>= fun q =>
    match q with
    | .inl u => (
     (
      zgE rv4.Ways >>= fun rv19 =>
      zaw rv19.Ways rv4.Ways >>= fun rv20 =>
      if rv20 then (
       zhf rv4 rv4 >>= fun rv21 =>
       zaw rv21.Ways rv4.Ways >>= fun rv22 =>
       if rv22 then (
        zir rv4 rv4 >>= fun rv23 =>
        zaw rv23.Ways rv4.Ways >>= fun rv24 =>
        some rv24
       ) else (
        some false
       )
      ) else (
       some false
      )
     ) >>= fun g4 =>
     some g4
    )
    | .inr u2 => (
     some false
    )
   )
  )
 )
theorem zjD {rv4 : zO} {rv8 : zO} {way : (List Int)} {i : Int} {i' : Int} (h : zaB rv4 rv8 way i = some (.inl i')) : zcp rv4 rv8 way i = zcp rv4 rv8 way i' := zD (body := fun s : Int => zaB rv4 rv8 way s) h
theorem zjE {rv4 : zO} {rv8 : zO} {way : (List Int)} {i : Int} {oo_ : (Unit ⊕ Unit)} (h : zaB rv4 rv8 way i = some (.inr oo_)) : zcp rv4 rv8 way i = some oo_ := zC (body := fun s : Int => zaB rv4 rv8 way s) h
def zbc (m : (List (List Int))) (number : Int) (i : Int) : Option (Int ⊕ (Unit ⊕ Unit)) :=
 if (decide (i < (m.length : Int))) then (
  (
   idx m i >>= fun x =>
   if ((x.length : Int) == 1) then (
    idx m i >>= fun x2 =>
    idx x2 0 >>= fun x3 =>
    some (x3 == number)
   ) else (
    some false
   )
  ) >>= fun g =>
  if g then (
   some (.inr (.inr ()))
  ) else (
   some (.inl (IntKind.i64.wrap (i + 1)))
  )
 ) else (
  some (.inr (.inl ()))
 )
def zdg (m : (List (List Int))) (number : Int) (i : Int) : Option (Unit ⊕ Unit) := zah (fun s : Int => zbc m number s) i
def zfs (m : (List (List Int))) (number : Int) : Option Bool :=
 zdg m number 0 >>= fun q =>
 match q with
 | .inl u => (
  some false
 )
 | .inr u2 => (
  some true
 )
theorem zkN {m : (List (List Int))} {number : Int} {i : Int} {i' : Int} (h : zbc m number i = some (.inl i')) : zdg m number i = zdg m number i' := zD (body := fun s : Int => zbc m number s) h
theorem zhC {m : (List (List Int))} {number : Int} {i : Int} {oo_ : (Unit ⊕ Unit)} (h : zbc m number i = some (.inr oo_)) : zdg m number i = some oo_ := zC (body := fun s : Int => zbc m number s) h
def zbb (m : (List (List Int))) (number : Int) (out : (List (List Int))) (i : Int) : Option (((List (List Int)) × Int) ⊕ (List (List Int))) :=
 if (decide (i < (m.length : Int))) then (
  (
   idx m i >>= fun x =>
   if (decide ((x.length : Int) > 1)) then (
    idx m i >>= fun x2 =>
    idx x2 0 >>= fun x3 =>
    some (x3 == number)
   ) else (
    some false
   )
  ) >>= fun g =>
  if g then (
   idx m i >>= fun x4 =>
   cut x4 1 (x4.length : Int) >>= fun v2 =>
   app 24 out ([v2] : (List (List Int))) >>= fun v3 =>
   some (.inl (v3, (IntKind.i64.wrap (i + 1))))
  ) else (
   some (.inl (out, (IntKind.i64.wrap (i + 1))))
  )
 ) else (
  some (.inr out)
 )
def zdf (m : (List (List Int))) (number : Int) (out : (List (List Int))) (i : Int) : Option (List (List Int)) := zah (fun s : ((List (List Int)) × Int) => zbb m number s.1 s.2) (out, i)
def zer (m : (List (List Int))) (number : Int) : Option (List (List Int)) :=
 zdf m number [] 0 >>= fun q =>
 some q
theorem zkL {m : (List (List Int))} {number : Int} {out : (List (List Int))} {i : Int} {out' : (List (List Int))} {i' : Int} (h : zbb m number out i = some (.inl (out', i'))) : zdf m number out i = zdf m number out' i' := zD (body := fun s : ((List (List Int)) × Int) => zbb m number s.1 s.2) h
theorem zkM {m : (List (List Int))} {number : Int} {out : (List (List Int))} {i : Int} {oo_ : (List (List Int))} (h : zbb m number out i = some (.inr oo_)) : zdf m number out i = some oo_ := zC (body := fun s : ((List (List Int)) × Int) => zbb m number s.1 s.2) h
def zbu (way : (List Int)) (ways : (List (List Int))) (i : Int) : Option (Int ⊕ (Unit ⊕ Unit)) :=
 if (decide (i < (ways.length : Int))) then (
  (
   idx ways i >>= fun x =>
   if (decide ((x.length : Int) > 0)) then (
    idx ways i >>= fun x2 =>
    zcU way x2 >>= fun rv =>
    some rv
   ) else (
    some false
   )
  ) >>= fun g =>
  if g then (
   some (.inr (.inr ()))
  ) else (
   some (.inl (IntKind.i64.wrap (i + 1)))
  )
 ) else (
  some (.inr (.inl ()))
 )
def zdV (way : (List Int)) (ways : (List (List Int))) (i : Int) : Option (Unit ⊕ Unit) := zah (fun s : Int => zbu way ways s) i
def zem (ways : (List (List Int))) (way : (List Int)) : Option Bool :=
 zdV way ways 0 >>= fun q =>
 match q with
 | .inl u => (
  some false
 )
 | .inr u2 => (
  some true
 )
theorem zlD {way : (List Int)} {ways : (List (List Int))} {i : Int} {i' : Int} (h : zbu way ways i = some (.inl i')) : zdV way ways i = zdV way ways i' := zD (body := fun s : Int => zbu way ways s) h
theorem zii {way : (List Int)} {ways : (List (List Int))} {i : Int} {oo_ : (Unit ⊕ Unit)} (h : zbu way ways i = some (.inr oo_)) : zdV way ways i = some oo_ := zC (body := fun s : Int => zbu way ways s) h
def zaC (rv4 : (List (List Int))) (rv5 : (List (List Int))) (meet : (List (List Int))) (i : Int) : Option (((List (List Int)) × Int) ⊕ (List (List Int))) :=
 if (decide (i < (rv4.length : Int))) then (
  idx rv4 i >>= fun x =>
  zem rv5 x >>= fun rv16 =>
  if rv16 then (
   idx rv4 i >>= fun x2 =>
   app 24 meet ([x2] : (List (List Int))) >>= fun v3 =>
   some (.inl (v3, (IntKind.i64.wrap (i + 1))))
  ) else (
   some (.inl (meet, (IntKind.i64.wrap (i + 1))))
  )
 ) else (
  some (.inr meet)
 )
def zcq (rv4 : (List (List Int))) (rv5 : (List (List Int))) (meet : (List (List Int))) (i : Int) : Option (List (List Int)) := zah (fun s : ((List (List Int)) × Int) => zaC rv4 rv5 s.1 s.2) (meet, i)
def zaD (rv4 : (List (List Int))) (rv5 : (List (List Int))) (meet3 : (List (List Int))) (i2 : Int) : Option (((List (List Int)) × Int) ⊕ (List (List Int))) :=
 if (decide (i2 < (rv5.length : Int))) then (
  idx rv5 i2 >>= fun x3 =>
  zem rv4 x3 >>= fun rv17 =>
  if rv17 then (
   idx rv5 i2 >>= fun x4 =>
   app 24 meet3 ([x4] : (List (List Int))) >>= fun v4 =>
   some (.inl (v4, (IntKind.i64.wrap (i2 + 1))))
  ) else (
   some (.inl (meet3, (IntKind.i64.wrap (i2 + 1))))
  )
 ) else (
  some (.inr meet3)
 )
def zcr (rv4 : (List (List Int))) (rv5 : (List (List Int))) (meet3 : (List (List Int))) (i2 : Int) : Option (List (List Int)) := zah (fun s : ((List (List Int)) × Int) => zaD rv4 rv5 s.1 s.2) (meet3, i2)
def zeg (av : (List (List Int))) (b : (List (List Int))) (number : Int) (way : (List Int)) : Option Bool :=
 zcF >>= fun rv =>
 if (!rv) then (
  some false
 ) else (
  (
   zcz av >>= fun rv2 =>
   if rv2 then (
    some true
   ) else (
    zcz b >>= fun rv3 =>
    if rv3 then (
     some true
    ) else (
     some (decide ((way.length : Int) > 100))
    )
   )
  ) >>= fun g =>
  if g then (
   some true
  ) else (
   zcL av >>= fun rv4 =>
   zcL b >>= fun rv5 =>
   zgJ (⟨av⟩ : zO) number >>= fun rv6 =>
   (
    zgE av >>= fun rv7 =>
    zaw rv7.Ways rv4 >>= fun rv8 =>
    if (!rv8) then (
     some true
    ) else (
     zfK (⟨av⟩ : zO) number >>= fun rv9 =>
     zfs rv4 number >>= fun rv10 =>
     if (!(rv9 == rv10)) then (
      some true
     ) else (
      zer rv4 number >>= fun rv11 =>
      zaw rv6.1.Ways rv11 >>= fun rv12 =>
      if (!rv12) then (
       some true
      ) else (
       zer rv4 number >>= fun rv13 =>
       if (!(rv6.2 == (decide ((rv13.length : Int) > 0)))) then (
        some true
       ) else (
        zeI (⟨av⟩ : zO) way >>= fun rv14 =>
        zem av way >>= fun rv15 =>
        some (!(rv14 == rv15))
       )
      )
     )
    )
   ) >>= fun g2 =>
   if g2 then (
    some false
   ) else (
    zcq rv4 rv5 [] 0 >>= fun q =>
    zcr rv4 rv5 q 0 >>= fun q2 =>
    (
     zhf (⟨av⟩ : zO) (⟨b⟩ : zO) >>= fun rv18 =>
     app 24 ([] : (List (List Int))) av >>= fun v5 =>
     app 24 v5 b >>= fun v6 =>
     zcL v6 >>= fun rv19 =>
     zaw rv18.Ways rv19 >>= fun rv20 =>
     if rv20 then (
      zir (⟨av⟩ : zO) (⟨b⟩ : zO) >>= fun rv21 =>
      zcL q2 >>= fun rv22 =>
      zaw rv21.Ways rv22 >>= fun rv23 =>
      some rv23
     ) else (
      some false
     )
    ) >>= fun g3 =>
    some g3
   )
  )
 )
theorem zjF {rv4 : (List (List Int))} {rv5 : (List (List Int))} {meet : (List (List Int))} {i : Int} {meet' : (List (List Int))} {i' : Int} (h : zaC rv4 rv5 meet i = some (.inl (meet', i'))) : zcq rv4 rv5 meet i = zcq rv4 rv5 meet' i' := zD (body := fun s : ((List (List Int)) × Int) => zaC rv4 rv5 s.1 s.2) h
theorem zjG {rv4 : (List (List Int))} {rv5 : (List (List Int))} {meet : (List (List Int))} {i : Int} {oo_ : (List (List Int))} (h : zaC rv4 rv5 meet i = some (.inr oo_)) : zcq rv4 rv5 meet i = some oo_ := zC (body := fun s : ((List (List Int)) × Int) => zaC rv4 rv5 s.1 s.2) h
theorem zjH {rv4 : (List (List Int))} {rv5 : (List (List Int))} {meet3 : (List (List Int))} {i2 : Int} {meet3' : (List (List Int))} {i2' : Int} (h : zaD rv4 rv5 meet3 i2 = some (.inl (meet3', i2'))) : zcr rv4 rv5 meet3 i2 = zcr rv4 rv5 meet3' i2' := zD (body := fun s : ((List (List Int)) × Int) => zaD rv4 rv5 s.1 s.2) h
theorem zjI {rv4 : (List (List Int))} {rv5 : (List (List Int))} {meet3 : (List (List Int))} {i2 : Int} {oo_ : (List (List Int))} (h : zaD rv4 rv5 meet3 i2 = some (.inr oo_)) : zcr rv4 rv5 meet3 i2 = some oo_ := zC (body := fun s : ((List (List Int)) × Int) => zaD rv4 rv5 s.1 s.2) h
end
end Go.Proofs.YtglkepeofhonlaaGreatDoor
