/-
  What the Go functions do, as plain functions. No condition.
-/
import Derived.Test.YtmghlnfhcdjbnaaGreatDoorK2
namespace Go.Proofs.YtmghlnfhcdjbnaaGreatDoor
open Go
set_option linter.unusedVariables false
abbrev Str := List UInt8
structure zqE where
  a0 : Str
  a1 : Str
  a2 : Str
  a3 : Str
  a4 : Str
  a5 : Str
  a6 : Str
  a7 : Str
  a8 : Str
  a9 : Str
  a10 : Str
  a11 : Str
  a12 : Str
  a13 : Str
  a14 : Str deriving DecidableEq
structure zf where
  name : Str
  wire : Int deriving DecidableEq
def zg : Rp zf := ⟨2, true, fun x => [.str x.name, .int .i64 x.wire], fun _ => rfl, by decide⟩
structure zn where
  Name : Str
  Number : Int
  Kind : Int
  Repeated : Bool
  Packed : Bool
  Of : Int deriving DecidableEq
def ze : Rp zn := ⟨6, true, fun x => [.str x.Name, .int .i64 x.Number, .int .i64 x.Kind, .bool x.Repeated, .bool x.Packed, .int .i64 x.Of], fun _ => rfl, by decide⟩
structure zk where
  Name : Str
  Fields : (List zn) deriving DecidableEq
def zt : Rp zk := ⟨2, true, fun x => [.str x.Name, .sl x.Fields.length ze.size (x.Fields.flatMap ze.lv)], fun _ => rfl, by decide⟩
structure zoS where
  Number : Int
  Wire : Int deriving DecidableEq
structure zcC where
  Number : Int
  Wire : Int
  From : Int
  At : Int
  To : Int deriving DecidableEq
structure za where
  message : Int
  name : Str deriving DecidableEq
def zd : Rp za := ⟨2, true, fun x => [.int .i64 x.message, .str x.name], fun _ => rfl, by decide⟩
structure zb where
  message : Int
  number : Int deriving DecidableEq
def zc : Rp zb := ⟨2, true, fun x => [.int .i64 x.message, .int .i64 x.number], fun _ => rfl, by decide⟩
structure zO where
  size : Int
  kinds : (List Int)
  names : (List (za × Bool))
  numbers : (List (zb × Bool))
structure zR where
  Message : Int
  Field : Int
  What : Int deriving DecidableEq
def zaZ : Rp zR := ⟨3, true, fun x => [.int .i64 x.Message, .int .i64 x.Field, .int .i64 x.What], fun _ => rfl, by decide⟩
structure zoV where
  number : Int
  wire : Int deriving DecidableEq
structure zoU where
  field : Int
  run : Bool
  e : Int deriving DecidableEq
structure zga where
  Record : zcC
  Field : Int
  Run : Bool deriving DecidableEq
structure zoT where
  R : zcC
  Field : Int
  Run : Bool deriving DecidableEq
structure zeV where
  message : Int
  number : Int
  wire : Int deriving DecidableEq
structure zqr where
  s : (List zk)
  b : (List UInt8)
  met : (List (zeV × zga))
structure znp where
  depth : Int
  place : Int
  e : Int deriving DecidableEq
end Go.Proofs.YtmghlnfhcdjbnaaGreatDoor
namespace Go.Proofs.YtmghlnfhcdjbnaaGreatDoor
open Go
set_option linter.unusedVariables false
noncomputable section
def zv (sv : (List Int)) (v : Int) (v2 : Int) : Option (Int ⊕ (Unit ⊕ Int)) :=
 if (decide (v2 < (sv.length : Int))) then (
  idx sv v2 >>= fun x =>
  if (v == x) then (
   some (.inr (.inr v2))
  ) else (
   some (.inl (IntKind.i64.wrap (v2 + 1)))
  )
 ) else (
  some (.inr (.inl ()))
 )
def zaa (sv : (List Int)) (v : Int) (v2 : Int) : Option (Unit ⊕ Int) := zav (fun s : Int => zv sv v s) v2
def zaA (sv : (List Int)) (v : Int) : Option Int :=
 zaa sv v 0 >>= fun q =>
 match q with
 | .inl u => (
  some (-1)
 )
 | .inr u2 => (
  some u2
 )
theorem zdk {sv : (List Int)} {v : Int} {v2 : Int} {v2' : Int} (h : zv sv v v2 = some (.inl v2')) : zaa sv v v2 = zaa sv v v2' := zaJ (body := fun s : Int => zv sv v s) h
theorem zbT {sv : (List Int)} {v : Int} {v2 : Int} {oo_ : (Unit ⊕ Int)} (h : zv sv v v2 = some (.inr oo_)) : zaa sv v v2 = some oo_ := zaK (body := fun s : Int => zv sv v s) h
def zam (sv : (List Int)) (v : Int) : Option Bool :=
 zaA sv v >>= fun rv =>
 some (decide (rv ≥ 0))
def zau (sv : Str) : Option (Int × Int) :=
 if (decide ((sv.length : Int) < 1)) then (
  some (65533, 0)
 ) else (
  idx sv 0 >>= fun c =>
  none
 )
def zaP (sv : Str) : Option (Int × Int) :=
 (
  if (!(sv == [])) then (
   idx sv 0 >>= fun c =>
   some (decide ((c.toNat : Int) < 128))
  ) else (
   some false
  )
 ) >>= fun g =>
 if g then (
  idx sv 0 >>= fun c2 =>
  some ((IntKind.i32.wrap (c2.toNat : Int)), 1)
 ) else (
  zau sv >>= fun rv =>
  some (rv.1, rv.2)
 )
def zao (sv : Str) (c : Int) : Option Int :=
 some (idxB sv (c).toNat.toUInt8)
def zaG (sv : Str) (substr : Str) : Option Int :=
 if (((substr.length : Int) == 0) || (substr == sv)) then (
  some 0
 ) else (
  if ((substr.length : Int) == 1) then (
   idx substr 0 >>= fun c =>
   zao sv (c.toNat : Int) >>= fun rv =>
   some rv
  ) else (
   if (decide ((substr.length : Int) ≥ (sv.length : Int))) then (
    some (-1)
   ) else (
    none
   )
  )
 )
def zcH (sv : Str) (substr : Str) : Option Int :=
 zaG sv substr >>= fun rv =>
 some rv
def zbx {σ : Type} (kf : (Rnd σ Str)) (f : Str) (sg2 : σ) : Option ((Str × σ) ⊕ (σ ⊕ σ)) :=
 if (decide ((f.length : Int) > 0)) then (
  zaP f >>= fun rv =>
  cut f 0 rv.2 >>= fun v4 =>
  kf sg2 v4 >>= fun y =>
  if (!y.1) then (
   some (.inr (.inr y.2))
  ) else (
   cut f rv.2 (f.length : Int) >>= fun v5 =>
   some (.inl (v5, y.2))
  )
 ) else (
  some (.inr (.inl sg2))
 )
def zfc {σ : Type} (kf : (Rnd σ Str)) (f : Str) (sg2 : σ) : Option (σ ⊕ σ) := zav (fun s : (Str × σ) => zbx kf s.1 s.2) (f, sg2)
def zG {σ : Type} (kf : (Rnd σ Str)) (v : Str) (v3 : Int) (f2 : Str) (sg5 : σ) : Option ((Str × σ) ⊕ ((Str × σ) ⊕ σ)) :=
 zcH f2 v >>= fun rv2 =>
 if (decide (rv2 < 0)) then (
  some (.inr (.inl (f2, sg5)))
 ) else (
  cut f2 0 (IntKind.i64.wrap (rv2 + v3)) >>= fun v6 =>
  kf sg5 v6 >>= fun y2 =>
  if (!y2.1) then (
   some (.inr (.inr y2.2))
  ) else (
   cut f2 (IntKind.i64.wrap (rv2 + (v.length : Int))) (f2.length : Int) >>= fun v7 =>
   some (.inl (v7, y2.2))
  )
 )
def zaS {σ : Type} (kf : (Rnd σ Str)) (v : Str) (v3 : Int) (f2 : Str) (sg5 : σ) : Option ((Str × σ) ⊕ σ) := zav (fun s : (Str × σ) => zG kf v v3 s.1 s.2) (f2, sg5)
def zaw {σ : Type} (v : Str) (v2 : Str) (v3 : Int) (kf : Rnd σ Str) (sg : σ) : Option σ :=
 if ((v.length : Int) == 0) then (
  zfc kf v2 sg >>= fun q =>
  match q with
  | .inl u => (
   some u
  )
  | .inr u2 => (
   some u2
  )
 ) else (
  zaS kf v v3 v2 sg >>= fun q2 =>
  match q2 with
  | .inl u3 => (
   kf u3.2 u3.1 >>= fun y3 =>
   some y3.2
  )
  | .inr u4 => (
   some u4
  )
 )
theorem zdZ {σ : Type} {kf : (Rnd σ Str)} {v : Str} {v3 : Int} {f2 : Str} {sg5 : σ} {f2' : Str} {sg5' : σ} (h : zG kf v v3 f2 sg5 = some (.inl (f2', sg5'))) : zaS kf v v3 f2 sg5 = zaS kf v v3 f2' sg5' := zaJ (body := fun s : (Str × σ) => zG kf v v3 s.1 s.2) h
theorem zbB {σ : Type} {kf : (Rnd σ Str)} {v : Str} {v3 : Int} {f2 : Str} {sg5 : σ} {oo_ : ((Str × σ) ⊕ σ)} (h : zG kf v v3 f2 sg5 = some (.inr oo_)) : zaS kf v v3 f2 sg5 = some oo_ := zaK (body := fun s : (Str × σ) => zG kf v v3 s.1 s.2) h
def zcx (sv : Str) (sep : Str) (sepSave : Int) : Option (Str × Str × Int) :=
 some (sep, sv, sepSave)
def zcw (sv : Str) (sep : Str) : Option (Str × Str × Int) :=
 zcx sv sep 0 >>= fun rv =>
 some (rv.1, rv.2.1, rv.2.2)
def zo {σ : Type} (kf : (Rnd σ Str)) (v : (List Str)) (v2 : Int) (sg2 : σ) : Option ((Int × σ) ⊕ (σ ⊕ σ)) :=
 if (decide (v2 < (v.length : Int))) then (
  idx v v2 >>= fun x =>
  kf sg2 x >>= fun y =>
  if (!y.1) then (
   some (.inr (.inr y.2))
  ) else (
   some (.inl ((IntKind.i64.wrap (v2 + 1)), y.2))
  )
 ) else (
  some (.inr (.inl sg2))
 )
def zJ {σ : Type} (kf : (Rnd σ Str)) (v : (List Str)) (v2 : Int) (sg2 : σ) : Option (σ ⊕ σ) := zav (fun s : (Int × σ) => zo kf v s.1 s.2) (v2, sg2)
def zI {σ : Type} (v : (List Str)) (kf : Rnd σ Str) (sg : σ) : Option σ :=
 zJ kf v 0 sg >>= fun q =>
 match q with
 | .inl u => (
  some u
 )
 | .inr u2 => (
  some u2
 )
theorem zci {σ : Type} {kf : (Rnd σ Str)} {v : (List Str)} {v2 : Int} {sg2 : σ} {v2' : Int} {sg2' : σ} (h : zo kf v v2 sg2 = some (.inl (v2', sg2'))) : zJ kf v v2 sg2 = zJ kf v v2' sg2' := zaJ (body := fun s : (Int × σ) => zo kf v s.1 s.2) h
theorem zaX {σ : Type} {kf : (Rnd σ Str)} {v : (List Str)} {v2 : Int} {sg2 : σ} {oo_ : (σ ⊕ σ)} (h : zo kf v v2 sg2 = some (.inr oo_)) : zJ kf v v2 sg2 = some oo_ := zaK (body := fun s : (Int × σ) => zo kf v s.1 s.2) h
def zap (sv : (List Str)) : Option (List Str) :=
 some sv
def zbg (x : (List Str)) : Option (List Str) := zmN x
def zh  (f : (List Str)) (x : Str) : Option ((List Str) ⊕ Empty) :=
 app 16 f ([x] : (List Str)) >>= fun v2 =>
 some (.inl v2)
def zp (v : (List Str)) : Option (List Str) :=
 zI v (rnd (fun (s : (List Str)) (x : Str) => zh s x)) (.inl []) >>= fun q =>
 match q with
 | .inl u => (
  some u
 )
 | .inr j => (
  nomatch j
 )
def zC (v : (List Str)) : Option (List Str) :=
 zp v >>= fun rv =>
 some rv
def zq (v : (List Str)) : Option (List Str) :=
 zC v >>= fun rv =>
 zbg rv >>= fun rv3 =>
 some rv3
def zaT (sv : Str) (prefixv : Str) : Option Bool :=
 (
  if (decide ((sv.length : Int) ≥ (prefixv.length : Int))) then (
   cut sv 0 (prefixv.length : Int) >>= fun v =>
   some (v == prefixv)
  ) else (
   some false
  )
 ) >>= fun g =>
 some g
def zcZ (sv : Str) (prefixv : Str) : Option Bool :=
 zaT sv prefixv >>= fun rv =>
 some rv
def strings_Join (elems : (List Str)) (sep : Str) : Option Str := zmC elems sep
def zi (c : Int) (sv : Str) (i : Int) : Option (Int ⊕ (Unit ⊕ Int)) :=
 if (decide (i ≥ 0)) then (
  idx sv i >>= fun c2 =>
  if ((c2.toNat : Int) == c) then (
   some (.inr (.inr i))
  ) else (
   some (.inl (IntKind.i64.wrap (i - 1)))
  )
 ) else (
  some (.inr (.inl ()))
 )
def zF (c : Int) (sv : Str) (i : Int) : Option (Unit ⊕ Int) := zav (fun s : Int => zi c sv s) i
def zB (sv : Str) (c : Int) : Option Int :=
 zF c sv (IntKind.i64.wrap ((sv.length : Int) - 1)) >>= fun q =>
 match q with
 | .inl u => (
  some (-1)
 )
 | .inr u2 => (
  some u2
 )
theorem zaC {c : Int} {sv : Str} {i : Int} {i' : Int} (h : zi c sv i = some (.inl i')) : zF c sv i = zF c sv i' := zaJ (body := fun s : Int => zi c sv s) h
theorem zaD {c : Int} {sv : Str} {i : Int} {oo_ : (Unit ⊕ Int)} (h : zi c sv i = some (.inr oo_)) : zF c sv i = some oo_ := zaK (body := fun s : Int => zi c sv s) h
def zW (sep : Str) (hash : Int) (i : Int) : Option ((Int × Int) ⊕ Int) :=
 if (decide (i ≥ 0)) then (
  idx sep i >>= fun c =>
  some (.inl ((IntKind.u32.wrap ((IntKind.u32.wrap (hash * 16777619)) + (IntKind.u32.wrap (c.toNat : Int)))), (IntKind.i64.wrap (i - 1))))
 ) else (
  some (.inr hash)
 )
def zcm (sep : Str) (hash : Int) (i : Int) : Option Int := zav (fun s : (Int × Int) => zW sep s.1 s.2) (hash, i)
def zX  (pow : Int) (sq : Int) (i2 : Int) : Option ((Int × Int × Int) ⊕ Int) :=
 if (decide (i2 > 0)) then (
  if ((andI .i64 i2 1) != 0) then (
   some (.inl ((IntKind.u32.wrap (pow * sq)), (IntKind.u32.wrap (sq * sq)), (shrI .i64 i2 1)))
  ) else (
   some (.inl (pow, (IntKind.u32.wrap (sq * sq)), (shrI .i64 i2 1)))
  )
 ) else (
  some (.inr pow)
 )
def zcn  (pow : Int) (sq : Int) (i2 : Int) : Option Int := zav (fun s : (Int × Int × Int) => zX s.1 s.2.1 s.2.2) (pow, sq, i2)
def zas (sep : Str) : Option (Int × Int) :=
 zcm sep 0 (IntKind.i64.wrap ((sep.length : Int) - 1)) >>= fun q =>
 zcn 1 16777619 (sep.length : Int) >>= fun q2 =>
 some (q, q2)
def zM (sep : Str) (sv : Str) (hv : Int) (i : Int) : Option ((Int × Int) ⊕ Int) :=
 if (decide (i ≥ (IntKind.i64.wrap ((sv.length : Int) - (sep.length : Int))))) then (
  idx sv i >>= fun c =>
  some (.inl ((IntKind.u32.wrap ((IntKind.u32.wrap (hv * 16777619)) + (IntKind.u32.wrap (c.toNat : Int)))), (IntKind.i64.wrap (i - 1))))
 ) else (
  some (.inr hv)
 )
def zbI (sep : Str) (sv : Str) (hv : Int) (i : Int) : Option Int := zav (fun s : (Int × Int) => zM sep sv s.1 s.2) (hv, i)
def zN (rv : (Int × Int)) (sep : Str) (sv : Str) (hv3 : Int) (i2 : Int) : Option ((Int × Int) ⊕ (Unit ⊕ Int)) :=
 if (decide (i2 ≥ 0)) then (
  idx sv i2 >>= fun c2 =>
  idx sv (IntKind.i64.wrap (i2 + (sep.length : Int))) >>= fun c3 =>
  (
   if ((IntKind.u32.wrap ((IntKind.u32.wrap ((IntKind.u32.wrap (hv3 * 16777619)) + (IntKind.u32.wrap (c2.toNat : Int)))) - (IntKind.u32.wrap (rv.2 * (IntKind.u32.wrap (c3.toNat : Int)))))) == rv.1) then (
    cut sv i2 (IntKind.i64.wrap (i2 + (sep.length : Int))) >>= fun v4 =>
    some (v4 == sep)
   ) else (
    some false
   )
  ) >>= fun g2 =>
  if g2 then (
   some (.inr (.inr i2))
  ) else (
   some (.inl ((IntKind.u32.wrap ((IntKind.u32.wrap ((IntKind.u32.wrap (hv3 * 16777619)) + (IntKind.u32.wrap (c2.toNat : Int)))) - (IntKind.u32.wrap (rv.2 * (IntKind.u32.wrap (c3.toNat : Int)))))), (IntKind.i64.wrap (i2 - 1))))
  )
 ) else (
  some (.inr (.inl ()))
 )
def zbJ (rv : (Int × Int)) (sep : Str) (sv : Str) (hv3 : Int) (i2 : Int) : Option (Unit ⊕ Int) := zav (fun s : (Int × Int) => zN rv sep sv s.1 s.2) (hv3, i2)
def zad (sv : Str) (sep : Str) : Option Int :=
 zas sep >>= fun rv =>
 zbI sep sv 0 (IntKind.i64.wrap ((sv.length : Int) - 1)) >>= fun q =>
 (
  if (q == rv.1) then (
   cut sv (IntKind.i64.wrap ((sv.length : Int) - (sep.length : Int))) (sv.length : Int) >>= fun v =>
   some (v == sep)
  ) else (
   some false
  )
 ) >>= fun g =>
 if g then (
  some (IntKind.i64.wrap ((sv.length : Int) - (sep.length : Int)))
 ) else (
  zbJ rv sep sv q (IntKind.i64.wrap ((IntKind.i64.wrap ((sv.length : Int) - (sep.length : Int))) - 1)) >>= fun q2 =>
  match q2 with
  | .inl u => (
   some (-1)
  )
  | .inr u2 => (
   some u2
  )
 )
def zaI (sv : Str) (substr : Str) : Option Int :=
 if ((substr.length : Int) == 0) then (
  some (sv.length : Int)
 ) else (
  if ((substr.length : Int) == 1) then (
   idx substr 0 >>= fun c =>
   zB sv (c.toNat : Int) >>= fun rv =>
   some rv
  ) else (
   if ((substr.length : Int) == (sv.length : Int)) then (
    if (substr == sv) then (
     some 0
    ) else (
     some (-1)
    )
   ) else (
    if (decide ((substr.length : Int) > (sv.length : Int))) then (
     some (-1)
    ) else (
     zad sv substr >>= fun rv2 =>
     some rv2
    )
   )
  )
 )
end
end Go.Proofs.YtmghlnfhcdjbnaaGreatDoor
namespace Go.Proofs.YtmghlnfhcdjbnaaGreatDoor
open Go
set_option linter.unusedVariables false
noncomputable section
def zdO  : Option (List (Int × zf)) :=
 some (mput (mput (mput (mput (mput (mput (mput (mput (mput (mput (mput (mput (mput (mput (mput (mput (mput ([] : (List (Int × zf))) 1 (⟨[105, 110, 116, 51, 50], 0⟩ : zf)) 2 (⟨[105, 110, 116, 54, 52], 0⟩ : zf)) 3 (⟨[117, 105, 110, 116, 51, 50], 0⟩ : zf)) 4 (⟨[117, 105, 110, 116, 54, 52], 0⟩ : zf)) 5 (⟨[115, 105, 110, 116, 51, 50], 0⟩ : zf)) 6 (⟨[115, 105, 110, 116, 54, 52], 0⟩ : zf)) 7 (⟨[98, 111, 111, 108], 0⟩ : zf)) 8 (⟨[101, 110, 117, 109], 0⟩ : zf)) 9 (⟨[102, 105, 120, 101, 100, 51, 50], 5⟩ : zf)) 10 (⟨[115, 102, 105, 120, 101, 100, 51, 50], 5⟩ : zf)) 11 (⟨[102, 108, 111, 97, 116], 5⟩ : zf)) 12 (⟨[102, 105, 120, 101, 100, 54, 52], 1⟩ : zf)) 13 (⟨[115, 102, 105, 120, 101, 100, 54, 52], 1⟩ : zf)) 14 (⟨[100, 111, 117, 98, 108, 101], 1⟩ : zf)) 15 (⟨[115, 116, 114, 105, 110, 103], 2⟩ : zf)) 16 (⟨[98, 121, 116, 101, 115], 2⟩ : zf)) 17 (⟨[109, 101, 115, 115, 97, 103, 101], 2⟩ : zf))
def zfr  : Option (List Int) :=
 zdO >>= fun rv =>
 zkP rv >>= fun v =>
 some v
def zev (k : Int) : Option (Int × Int) :=
 zdO >>= fun rv =>
 if (!(mget rv k).isSome) then (
  some (0, 2)
 ) else (
  some (((mget rv k).getD (⟨[], 0⟩ : zf)).wire, 0)
 )
def zdu (k : Int) : Option Bool :=
 zev k >>= fun rv =>
 some ((rv.2 == 0) && (rv.1 != 2))
end
end Go.Proofs.YtmghlnfhcdjbnaaGreatDoor
namespace Go.Proofs.YtmghlnfhcdjbnaaGreatDoor
open Go
set_option linter.unusedVariables false
noncomputable section
def zbS (c : Int) : Option Bool :=
 some ((decide (c ≥ 48)) && (decide (c ≤ 57)))
def zca (c : Int) : Option Bool :=
 some (if (decide (c ≥ 97)) then ((decide (c ≤ 122)) || (if (decide (c ≥ 65)) then ((decide (c ≤ 90)) || (c == 95)) else (c == 95))) else (if (decide (c ≥ 65)) then ((decide (c ≤ 90)) || (c == 95)) else (c == 95)))
def zZ (name : Str) (v2 : Int) : Option (Int ⊕ (Unit ⊕ Unit)) :=
 if (decide (v2 < (name.length : Int))) then (
  (
   idx name v2 >>= fun c2 =>
   zca (c2.toNat : Int) >>= fun rv2 =>
   if (!rv2) then (
    idx name v2 >>= fun c3 =>
    zbS (c3.toNat : Int) >>= fun rv3 =>
    some (!rv3)
   ) else (
    some false
   )
  ) >>= fun g2 =>
  if g2 then (
   some (.inr (.inr ()))
  ) else (
   some (.inl (IntKind.i64.wrap (v2 + 1)))
  )
 ) else (
  some (.inr (.inl ()))
 )
def zbn (name : Str) (v2 : Int) : Option (Unit ⊕ Unit) := zav (fun s : Int => zZ name s) v2
def zce (name : Str) : Option Bool :=
 (
  if (name == []) then (
   some true
  ) else (
   if (decide ((name.length : Int) > 60)) then (
    some true
   ) else (
    idx name 0 >>= fun c =>
    zbS (c.toNat : Int) >>= fun rv =>
    some rv
   )
  )
 ) >>= fun g =>
 if g then (
  some false
 ) else (
  zbn name 0 >>= fun q =>
  match q with
  | .inl u => (
   some true
  )
  | .inr u2 => (
   some false
  )
 )
theorem zfz {name : Str} {v2 : Int} {v2' : Int} (h : zZ name v2 = some (.inl v2')) : zbn name v2 = zbn name v2' := zaJ (body := fun s : Int => zZ name s) h
theorem zdx {name : Str} {v2 : Int} {oo_ : (Unit ⊕ Unit)} (h : zZ name v2 = some (.inr oo_)) : zbn name v2 = some oo_ := zaK (body := fun s : Int => zZ name s) h
def zcb (n : Int) : Option Bool :=
 some ((decide (n ≥ 1)) && ((decide (n ≤ 536870911)) && ((decide (n < 19000)) || (decide (n > 19999)))))
def zcq (f : zn) : Option Bool :=
 (
  if f.Repeated then (
   zdu f.Kind >>= fun rv =>
   some rv
  ) else (
   some false
  )
 ) >>= fun g =>
 some g
def zbu (c : zO) (f : zn) : Option Bool :=
 if (f.Kind == 17) then (
  some ((decide (f.Of ≥ 0)) && (decide (f.Of < c.size)))
 ) else (
  some (f.Of == 0)
 )
def zbt (c : zO) (message : Int) (f : zn) : Option (Int × (List (za × Bool)) × (List (zb × Bool))) :=
 zce f.Name >>= fun rv =>
 if (!rv) then (
  some (5, c.names, c.numbers)
 ) else (
  if ((mget c.names (⟨message, f.Name⟩ : za)).getD false) then (
   some (6, c.names, c.numbers)
  ) else (
   zcb f.Number >>= fun rv2 =>
   if (!rv2) then (
    some (7, c.names, c.numbers)
   ) else (
    if ((mget c.numbers (⟨message, f.Number⟩ : zb)).getD false) then (
     some (8, c.names, c.numbers)
    ) else (
     zam c.kinds f.Kind >>= fun rv3 =>
     if (!rv3) then (
      some (9, c.names, c.numbers)
     ) else (
      (
       if f.Packed then (
        zcq f >>= fun rv4 =>
        some (!rv4)
       ) else (
        some false
       )
      ) >>= fun g =>
      if g then (
       some (10, c.names, c.numbers)
      ) else (
       zbu c f >>= fun rv5 =>
       if (!rv5) then (
        some (11, c.names, c.numbers)
       ) else (
        some (0, (mput c.names (⟨message, f.Name⟩ : za) true), (mput c.numbers (⟨message, f.Number⟩ : zb) true))
       )
      )
     )
    )
   )
  )
 )
def zbc (c : zO) (m : zk) : Option (Int × (List (za × Bool)) × (List (zb × Bool))) :=
 zce m.Name >>= fun rv =>
 if (!rv) then (
  some (2, c.names, c.numbers)
 ) else (
  if ((mget c.names (⟨(-1), m.Name⟩ : za)).getD false) then (
   some (3, c.names, c.numbers)
  ) else (
   if (decide ((m.Fields.length : Int) > 200)) then (
    some (4, c.names, c.numbers)
   ) else (
    some (0, (mput c.names (⟨(-1), m.Name⟩ : za) true), c.numbers)
   )
  )
 )
def zY (rv : (List Int)) (sv : (List zk)) (v2 : Int) (x : zk) (v3 : Int) (f6 : (List (za × Bool))) (f7 : (List (zb × Bool))) : Option ((Int × (List (za × Bool)) × (List (zb × Bool))) ⊕ (((List (za × Bool)) × (List (zb × Bool))) ⊕ (Int × Int))) :=
 if (decide (v3 < (x.Fields.length : Int))) then (
  idx x.Fields v3 >>= fun x2 =>
  zbt (⟨(sv.length : Int), rv, f6, f7⟩ : zO) v2 x2 >>= fun rv5 =>
  if (rv5.1 != 0) then (
   some (.inr (.inr (v3, rv5.1)))
  ) else (
   some (.inl ((IntKind.i64.wrap (v3 + 1)), rv5.2.1, rv5.2.2))
  )
 ) else (
  some (.inr (.inl (f6, f7)))
 )
def zaO (rv : (List Int)) (sv : (List zk)) (v2 : Int) (x : zk) (v3 : Int) (f6 : (List (za × Bool))) (f7 : (List (zb × Bool))) : Option (((List (za × Bool)) × (List (zb × Bool))) ⊕ (Int × Int)) := zav (fun s : (Int × (List (za × Bool)) × (List (zb × Bool))) => zY rv sv v2 x s.1 s.2.1 s.2.2) (v3, f6, f7)
def zQ (rv : (List Int)) (sv : (List zk)) (v2 : Int) (f : (List (za × Bool))) (f2 : (List (zb × Bool))) : Option ((Int × (List (za × Bool)) × (List (zb × Bool))) ⊕ (Unit ⊕ (Int × Int × Int))) :=
 if (decide (v2 < (sv.length : Int))) then (
  idx sv v2 >>= fun x =>
  zbc (⟨(sv.length : Int), rv, f, f2⟩ : zO) x >>= fun rv3 =>
  if (rv3.1 != 0) then (
   some (.inr (.inr (v2, (-1), rv3.1)))
  ) else (
   zaO rv sv v2 x 0 rv3.2.1 rv3.2.2 >>= fun q =>
   match q with
   | .inl u => (
    some (.inl ((IntKind.i64.wrap (v2 + 1)), u.1, u.2))
   )
   | .inr u2 => (
    some (.inr (.inr (v2, u2.1, u2.2)))
   )
  )
 ) else (
  some (.inr (.inl ()))
 )
def zbC (rv : (List Int)) (sv : (List zk)) (v2 : Int) (f : (List (za × Bool))) (f2 : (List (zb × Bool))) : Option (Unit ⊕ (Int × Int × Int)) := zav (fun s : (Int × (List (za × Bool)) × (List (zb × Bool))) => zQ rv sv s.1 s.2.1 s.2.2) (v2, f, f2)
def zcX (sv : (List zk)) : Option (zR × Int) :=
 if ((decide ((sv.length : Int) < 1)) || (decide ((sv.length : Int) > 100))) then (
  some ((⟨(-1), (-1), 1⟩ : zR), 9)
 ) else (
  zfr >>= fun rv =>
  zbC rv sv 0 ([] : (List (za × Bool))) ([] : (List (zb × Bool))) >>= fun q2 =>
  match q2 with
  | .inl u3 => (
   some ((⟨0, 0, 0⟩ : zR), 0)
  )
  | .inr u4 => (
   some ((⟨u4.1, u4.2.1, u4.2.2⟩ : zR), 9)
  )
 )
theorem zfN {rv : (List Int)} {sv : (List zk)} {v2 : Int} {x : zk} {v3 : Int} {f6 : (List (za × Bool))} {f7 : (List (zb × Bool))} {v3' : Int} {f6' : (List (za × Bool))} {f7' : (List (zb × Bool))} (h : zY rv sv v2 x v3 f6 f7 = some (.inl (v3', f6', f7'))) : zaO rv sv v2 x v3 f6 f7 = zaO rv sv v2 x v3' f6' f7' := zaJ (body := fun s : (Int × (List (za × Bool)) × (List (zb × Bool))) => zY rv sv v2 x s.1 s.2.1 s.2.2) h
theorem zdE {rv : (List Int)} {sv : (List zk)} {v2 : Int} {x : zk} {v3 : Int} {f6 : (List (za × Bool))} {f7 : (List (zb × Bool))} {oo_ : (((List (za × Bool)) × (List (zb × Bool))) ⊕ (Int × Int))} (h : zY rv sv v2 x v3 f6 f7 = some (.inr oo_)) : zaO rv sv v2 x v3 f6 f7 = some oo_ := zaK (body := fun s : (Int × (List (za × Bool)) × (List (zb × Bool))) => zY rv sv v2 x s.1 s.2.1 s.2.2) h
theorem zfM {rv : (List Int)} {sv : (List zk)} {v2 : Int} {f : (List (za × Bool))} {f2 : (List (zb × Bool))} {v2' : Int} {f' : (List (za × Bool))} {f2' : (List (zb × Bool))} (h : zQ rv sv v2 f f2 = some (.inl (v2', f', f2'))) : zbC rv sv v2 f f2 = zbC rv sv v2' f' f2' := zaJ (body := fun s : (Int × (List (za × Bool)) × (List (zb × Bool))) => zQ rv sv s.1 s.2.1 s.2.2) h
theorem zbi {rv : (List Int)} {sv : (List zk)} {v2 : Int} {f : (List (za × Bool))} {f2 : (List (zb × Bool))} {oo_ : (Unit ⊕ (Int × Int × Int))} (h : zQ rv sv v2 f f2 = some (.inr oo_)) : zbC rv sv v2 f f2 = some oo_ := zaK (body := fun s : (Int × (List (za × Bool)) × (List (zb × Bool))) => zQ rv sv s.1 s.2.1 s.2.2) h
def zcY (sv : (List zk)) : Option Bool :=
 zcX sv >>= fun rv =>
 some (rv.2 == 0)
def zP (sv : Str) (i : Int) : Option (Int ⊕ (Unit ⊕ Unit)) :=
 if (decide (i < (sv.length : Int))) then (
  idx sv i >>= fun c =>
  if (!(if (decide ((c.toNat : Int) ≥ 65)) then ((decide ((c.toNat : Int) ≤ 90)) || (if (decide ((c.toNat : Int) ≥ 97)) then ((decide ((c.toNat : Int) ≤ 122)) || (((c.toNat : Int) == 95) || ((decide (i > 0)) && ((decide ((c.toNat : Int) ≥ 48)) && (decide ((c.toNat : Int) ≤ 57)))))) else (((c.toNat : Int) == 95) || ((decide (i > 0)) && ((decide ((c.toNat : Int) ≥ 48)) && (decide ((c.toNat : Int) ≤ 57))))))) else (if (decide ((c.toNat : Int) ≥ 97)) then ((decide ((c.toNat : Int) ≤ 122)) || (((c.toNat : Int) == 95) || ((decide (i > 0)) && ((decide ((c.toNat : Int) ≥ 48)) && (decide ((c.toNat : Int) ≤ 57)))))) else (((c.toNat : Int) == 95) || ((decide (i > 0)) && ((decide ((c.toNat : Int) ≥ 48)) && (decide ((c.toNat : Int) ≤ 57)))))))) then (
   some (.inr (.inr ()))
  ) else (
   some (.inl (IntKind.i64.wrap (i + 1)))
  )
 ) else (
  some (.inr (.inl ()))
 )
def zay (sv : Str) (i : Int) : Option (Unit ⊕ Unit) := zav (fun s : Int => zP sv s) i
def zbe (sv : Str) : Option Bool :=
 zay sv 0 >>= fun q =>
 match q with
 | .inl u => (
  some ((decide ((sv.length : Int) ≥ 1)) && (decide ((sv.length : Int) ≤ 60)))
 )
 | .inr u2 => (
  some false
 )
theorem zei {sv : Str} {i : Int} {i' : Int} (h : zP sv i = some (.inl i')) : zay sv i = zay sv i' := zaJ (body := fun s : Int => zP sv s) h
theorem zcD {sv : Str} {i : Int} {oo_ : (Unit ⊕ Unit)} (h : zP sv i = some (.inr oo_)) : zay sv i = some oo_ := zaK (body := fun s : Int => zP sv s) h
end
end Go.Proofs.YtmghlnfhcdjbnaaGreatDoor
namespace Go.Proofs.YtmghlnfhcdjbnaaGreatDoor
open Go
set_option linter.unusedVariables false
noncomputable section
def zS (l : (List Str)) (n : Int) (i : Int) : Option ((Int × Int) ⊕ Int) :=
 if (decide (i < (l.length : Int))) then (
  idx l i >>= fun x =>
  some (.inl ((IntKind.i64.wrap ((IntKind.i64.wrap (n + (x.length : Int))) + 1)), (IntKind.i64.wrap (i + 1))))
 ) else (
  some (.inr n)
 )
def zax (l : (List Str)) (n : Int) (i : Int) : Option Int := zav (fun s : (Int × Int) => zS l s.1 s.2) (n, i)
def zbD (l : (List Str)) : Option Bool :=
 zax l 0 0 >>= fun q =>
 some (decide (q > 6000))
theorem zeg {l : (List Str)} {n : Int} {i : Int} {n' : Int} {i' : Int} (h : zS l n i = some (.inl (n', i'))) : zax l n i = zax l n' i' := zaJ (body := fun s : (Int × Int) => zS l s.1 s.2) h
theorem zeh {l : (List Str)} {n : Int} {i : Int} {oo_ : Int} (h : zS l n i = some (.inr oo_)) : zax l n i = some oo_ := zaK (body := fun s : (Int × Int) => zS l s.1 s.2) h
def zaf (rv2 : (List Str)) (sv : (List zk)) (v2 : Int) : Option (((List zk) × Int) ⊕ (List zk)) :=
 if (decide (v2 < ((zag rv2).length : Int))) then (
  idx (zag rv2) v2 >>= fun x =>
  idx sv v2 >>= fun x2 =>
  some (.inl ((sv.set (Int.toNat v2) (⟨x, x2.Fields⟩ : zk)), (IntKind.i64.wrap (v2 + 1))))
 ) else (
  some (.inr sv)
 )
def zbm (rv2 : (List Str)) (sv : (List zk)) (v2 : Int) : Option (List zk) := zav (fun s : ((List zk) × Int) => zaf rv2 s.1 s.2) (sv, v2)
def zcc (l : (List Str)) : Option Bool :=
 zap l >>= fun rv =>
 zq rv >>= fun rv2 =>
 mkO 40 ((⟨[], []⟩ : zk) : zk) ((zag rv2).length : Int) ((zag rv2).length : Int) >>= fun v =>
 zbm rv2 v 0 >>= fun q =>
 zcY q >>= fun rv3 =>
 some rv3
theorem zfw {rv2 : (List Str)} {sv : (List zk)} {v2 : Int} {sv' : (List zk)} {v2' : Int} (h : zaf rv2 sv v2 = some (.inl (sv', v2'))) : zbm rv2 sv v2 = zbm rv2 sv' v2' := zaJ (body := fun s : ((List zk) × Int) => zaf rv2 s.1 s.2) h
theorem zfx {rv2 : (List Str)} {sv : (List zk)} {v2 : Int} {oo_ : (List zk)} (h : zaf rv2 sv v2 = some (.inr oo_)) : zbm rv2 sv v2 = some oo_ := zaK (body := fun s : ((List zk) × Int) => zaf rv2 s.1 s.2) h
def zaY  (f : (List Str)) (x : Str) : Option ((List Str) ⊕ (List Str)) :=
 if ((f.length : Int) == 65) then (
  some (.inr f)
 ) else (
  app 16 f ([x] : (List Str)) >>= fun v =>
  some (.inl v)
 )
def zdh (p : Str) : Option ((List Str) × Int) :=
 zcw p [46] >>= fun rv =>
 zaw rv.1 rv.2.1 rv.2.2 (rnd (fun (s : (List Str)) (x : Str) => zaY s x)) (.inl []) >>= fun q =>
 match q with
 | .inl u => (
  zcc u >>= fun rv2 =>
  if (!rv2) then (
   some ([], 12)
  ) else (
   some (u, 0)
  )
 )
 | .inr j => (
  some ([], 12)
 )
def zaV (p : Str) : Option Bool :=
 zdh p >>= fun rv =>
 some (rv.2 == 0)
def zdS (p : Str) (q : Str) : Option Bool :=
 (
  zaV p >>= fun rv =>
  if rv then (
   zaV q >>= fun rv2 =>
   if rv2 then (
    cat p [46] >>= fun v =>
    cat q [46] >>= fun v2 =>
    zcZ v v2 >>= fun rv3 =>
    some rv3
   ) else (
    some false
   )
  ) else (
   some false
  )
 ) >>= fun g =>
 some g
def zbp  : Option Bool :=
 (
  zdS [97, 46, 98, 46, 99] [97, 46, 98] >>= fun rv =>
  if rv then (
   zdS [97, 46, 98, 99] [97, 46, 98] >>= fun rv2 =>
   if (!rv2) then (
    zaV [97] >>= fun rv3 =>
    some rv3
   ) else (
    some false
   )
  ) else (
   some false
  )
 ) >>= fun g =>
 some g
def zD (p : Str) (out : (List Str)) (fromv : Int) (i : Int) : Option (((List Str) × Int × Int) ⊕ ((List Str) ⊕ Unit)) :=
 if (decide (i ≤ (p.length : Int))) then (
  (
   if (decide (i < (p.length : Int))) then (
    idx p i >>= fun c =>
    some ((c.toNat : Int) != 46)
   ) else (
    some false
   )
  ) >>= fun g =>
  if g then (
   some (.inl (out, fromv, (IntKind.i64.wrap (i + 1))))
  ) else (
   cut p fromv i >>= fun v2 =>
   zbe v2 >>= fun rv =>
   if (!rv) then (
    some (.inr (.inr ()))
   ) else (
    cut p fromv i >>= fun v3 =>
    app 16 out ([v3] : (List Str)) >>= fun v4 =>
    some (.inl (v4, (IntKind.i64.wrap (i + 1)), (IntKind.i64.wrap (i + 1))))
   )
  )
 ) else (
  some (.inr (.inl out))
 )
def zaj (p : Str) (out : (List Str)) (fromv : Int) (i : Int) : Option ((List Str) ⊕ Unit) := zav (fun s : ((List Str) × Int × Int) => zD p s.1 s.2.1 s.2.2) (out, fromv, i)
def zbr (p : Str) : Option ((List Str) × Bool) :=
 zaj p [] 0 0 >>= fun q =>
 match q with
 | .inl u => (
  if (decide ((u.length : Int) > 65)) then (
   some ([], false)
  ) else (
   some (u, true)
  )
 )
 | .inr u2 => (
  some ([], false)
 )
theorem zbz {p : Str} {out : (List Str)} {fromv : Int} {i : Int} {out' : (List Str)} {fromv' : Int} {i' : Int} (h : zD p out fromv i = some (.inl (out', fromv', i'))) : zaj p out fromv i = zaj p out' fromv' i' := zaJ (body := fun s : ((List Str) × Int × Int) => zD p s.1 s.2.1 s.2.2) h
theorem zbA {p : Str} {out : (List Str)} {fromv : Int} {i : Int} {oo_ : ((List Str) ⊕ Unit)} (h : zD p out fromv i = some (.inr oo_)) : zaj p out fromv i = some oo_ := zaK (body := fun s : ((List Str) × Int × Int) => zD p s.1 s.2.1 s.2.2) h
def zew (l : (List Str)) : Option (Str × Int) :=
 (
  if (decide ((l.length : Int) > 65)) then (
   some true
  ) else (
   zcc l >>= fun rv =>
   some (!rv)
  )
 ) >>= fun g =>
 if g then (
  some ([], 12)
 ) else (
  strings_Join l [46] >>= fun rv2 =>
  some (rv2, 0)
 )
def zdw (p : Str) : Option (Str × Bool) :=
 zaI p [46] >>= fun rv =>
 (
  if (decide (rv < 0)) then (
   some true
  ) else (
   zaV p >>= fun rv2 =>
   some (!rv2)
  )
 ) >>= fun g =>
 if g then (
  some ([], false)
 ) else (
  cut p 0 rv >>= fun v2 =>
  some (v2, true)
 )
def zH (av : (List Str)) (b : (List Str)) (n : Int) : Option (Int ⊕ Int) :=
 (
  if (n == (av.length : Int)) then (
   some true
  ) else (
   if (n == (b.length : Int)) then (
    some true
   ) else (
    idx av n >>= fun x =>
    idx b n >>= fun x2 =>
    some (!(x == x2))
   )
  )
 ) >>= fun g =>
 if g then (
  some (.inr n)
 ) else (
  some (.inl (IntKind.i64.wrap (n + 1)))
 )
def zan (av : (List Str)) (b : (List Str)) (n : Int) : Option Int := zav (fun s : Int => zH av b s) n
def zbL (av : (List Str)) (b : (List Str)) : Option Int :=
 zan av b 0 >>= fun q =>
 some q
theorem zdM {av : (List Str)} {b : (List Str)} {n : Int} {n' : Int} (h : zH av b n = some (.inl n')) : zan av b n = zan av b n' := zaJ (body := fun s : Int => zH av b s) h
theorem zcj {av : (List Str)} {b : (List Str)} {n : Int} {oo_ : Int} (h : zH av b n = some (.inr oo_)) : zan av b n = some oo_ := zaK (body := fun s : Int => zH av b s) h
def zbE (av : (List Str)) (b : (List Str)) : Option Bool :=
 (
  if ((av.length : Int) == (b.length : Int)) then (
   zbL av b >>= fun rv =>
   some (rv == (av.length : Int))
  ) else (
   some false
  )
 ) >>= fun g =>
 some g
def zT (l : (List Str)) (out : Str) (i : Int) : Option ((Str × Int) ⊕ Str) :=
 if (decide (i < (l.length : Int))) then (
  ((
   if (decide (i > 0)) then (
    cat out [46] >>= fun v =>
    some v
   ) else (
    some out
   )
   : Option Str)) >>= fun p =>
  idx l i >>= fun x =>
  cat p x >>= fun v2 =>
  some (.inl (v2, (IntKind.i64.wrap (i + 1))))
 ) else (
  some (.inr out)
 )
def zaz (l : (List Str)) (out : Str) (i : Int) : Option Str := zav (fun s : (Str × Int) => zT l s.1 s.2) (out, i)
def zaF (l : (List Str)) : Option Str :=
 zaz l [] 0 >>= fun q =>
 some q
theorem zej {l : (List Str)} {out : Str} {i : Int} {out' : Str} {i' : Int} (h : zT l out i = some (.inl (out', i'))) : zaz l out i = zaz l out' i' := zaJ (body := fun s : (Str × Int) => zT l s.1 s.2) h
theorem zek {l : (List Str)} {out : Str} {i : Int} {oo_ : Str} (h : zT l out i = some (.inr oo_)) : zaz l out i = some oo_ := zaK (body := fun s : (Str × Int) => zT l s.1 s.2) h
def zK (l : (List Str)) (i : Int) : Option (Int ⊕ (Unit ⊕ Unit)) :=
 if (decide (i < (l.length : Int))) then (
  idx l i >>= fun x =>
  zbe x >>= fun rv =>
  if (!rv) then (
   some (.inr (.inr ()))
  ) else (
   some (.inl (IntKind.i64.wrap (i + 1)))
  )
 ) else (
  some (.inr (.inl ()))
 )
def zar (l : (List Str)) (i : Int) : Option (Unit ⊕ Unit) := zav (fun s : Int => zK l s) i
def zbq (l : (List Str)) : Option Bool :=
 zar l 0 >>= fun q =>
 match q with
 | .inl u => (
  some ((decide ((l.length : Int) ≥ 1)) && (decide ((l.length : Int) ≤ 65)))
 )
 | .inr u2 => (
  some false
 )
theorem zdY {l : (List Str)} {i : Int} {i' : Int} (h : zK l i = some (.inl i')) : zar l i = zar l i' := zaJ (body := fun s : Int => zK l s) h
theorem zcy {l : (List Str)} {i : Int} {oo_ : (Unit ⊕ Unit)} (h : zK l i = some (.inr oo_)) : zar l i = some oo_ := zaK (body := fun s : Int => zK l s) h
def zbd (p : Str) (l : (List Str)) : Option Bool :=
 zbp >>= fun rv =>
 if (!rv) then (
  some false
 ) else (
  (
   if (decide ((p.length : Int) > 6000)) then (
    some true
   ) else (
    zbD l >>= fun rv2 =>
    some rv2
   )
  ) >>= fun g =>
  if g then (
   some true
  ) else (
   zdh p >>= fun rv3 =>
   zbr p >>= fun rv4 =>
   zew l >>= fun rv5 =>
   zdw p >>= fun rv6 =>
   (
    zbE rv3.1 rv4.1 >>= fun rv7 =>
    if (!rv7) then (
     some true
    ) else (
     zaV p >>= fun rv8 =>
     if (!(rv8 == rv4.2)) then (
      some true
     ) else (
      if rv4.2 then (
       if ((IntKind.i64.wrap rv3.2) != 0) then (
        some true
       ) else (
        if (!rv4.2) then (
         some ((IntKind.i64.wrap rv3.2) != 12)
        ) else (
         some false
        )
       )
      ) else (
       if (!rv4.2) then (
        some ((IntKind.i64.wrap rv3.2) != 12)
       ) else (
        some false
       )
      )
     )
    )
   ) >>= fun g2 =>
   if g2 then (
    some false
   ) else (
    ((
     if (decide ((rv4.1.length : Int) > 1)) then (
      cut rv4.1 0 (IntKind.i64.wrap ((rv4.1.length : Int) - 1)) >>= fun v3 =>
      zaF v3 >>= fun rv9 =>
      some rv9
     ) else (
      some []
     )
     : Option Str)) >>= fun p2 =>
    if ((!(rv6.1 == p2)) || (!(rv6.2 == (decide ((rv4.1.length : Int) > 1))))) then (
     some false
    ) else (
     zbq l >>= fun rv10 =>
     if (!rv10) then (
      some (((IntKind.i64.wrap rv5.2) == 12) && (rv5.1 == []))
     ) else (
      (
       if ((IntKind.i64.wrap rv5.2) == 0) then (
        zaF l >>= fun rv11 =>
        some (rv5.1 == rv11)
       ) else (
        some false
       )
      ) >>= fun g3 =>
      some g3
     )
    )
   )
  )
 )
end
end Go.Proofs.YtmghlnfhcdjbnaaGreatDoor
