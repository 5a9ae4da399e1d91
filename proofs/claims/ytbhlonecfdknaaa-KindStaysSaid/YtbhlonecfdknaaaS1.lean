/-
  What the Go functions do, as plain functions. No condition.
-/
import Derived.Test.YtbhlonecfdknaaaK1
namespace Go.Proofs.Ytbhlonecfdknaaa
open Go
set_option linter.unusedVariables false
abbrev Str := List UInt8
structure T_name_wire where
  name : Str
  wire : Int deriving DecidableEq
def R_name_wire : Rp T_name_wire := ⟨2, true, fun x => [.str x.name, .int .i64 x.wire], fun _ => rfl, by decide⟩
end Go.Proofs.Ytbhlonecfdknaaa
namespace Go.Proofs.Ytbhlonecfdknaaa
open Go
set_option linter.unusedVariables false
noncomputable section
def bits_Low32 (wv : Int) : Option Int :=
 some (IntKind.u32.wrap wv)
def bits_Sign32 (wv : Int) : Option Int :=
 bits_Low32 wv >>= fun rv =>
 some (IntKind.i32.wrap rv)
def bits_Wide32 (n : Int) : Option Int :=
 some (IntKind.u64.wrap (IntKind.i64.wrap n))
def bits_Zag (wv : Int) : Option Int :=
 some (xorI .i64 (IntKind.i64.wrap (shrI .u64 wv 1)) (shrI .i64 (IntKind.i64.wrap (shlI .u64 wv 63)) 63))
def darningref01_Sign32 (wv : Int) : Option Int :=
 if (decide ((IntKind.i64.wrap (Int.tmod wv 4294967296)) ≥ 2147483648)) then (
  some (IntKind.i64.wrap ((IntKind.i64.wrap (Int.tmod wv 4294967296)) - 4294967296))
 ) else (
  some (IntKind.i64.wrap (Int.tmod wv 4294967296))
 )
def darningref01_Wide (n : Int) : Option Int :=
 if (decide (n ≥ 0)) then (
  some (IntKind.u64.wrap n)
 ) else (
  some (IntKind.u64.wrap (18446744073709551615 - (IntKind.u64.wrap (IntKind.i64.wrap (0 - (IntKind.i64.wrap (n + 1)))))))
 )
def darningref01_Zag (wv : Int) : Option Int :=
 if ((Int.tmod wv 2) == 1) then (
  some (IntKind.i64.wrap ((IntKind.i64.wrap (0 - (IntKind.i64.wrap (IntKind.u64.wrap (Int.tdiv wv 2))))) - 1))
 ) else (
  some (IntKind.i64.wrap (IntKind.u64.wrap (Int.tdiv wv 2)))
 )
end
end Go.Proofs.Ytbhlonecfdknaaa
namespace Go.Proofs.Ytbhlonecfdknaaa
open Go
set_option linter.unusedVariables false
noncomputable section
def kind_truth (wv : Int) : Option Int :=
 some (if (1 : Int) < wv then 1 else wv)
def kind_Canon (k : Int) (wv : Int) : Option (Int × Int) :=
 ((
  if (k == 1) then (
   some (k == 1)
  ) else (
   some (k == 8)
  )
  : Option Bool)) >>= fun p =>
 if p then (
  bits_Sign32 wv >>= fun rv =>
  bits_Wide32 rv >>= fun rv2 =>
  some (rv2, 0)
 ) else (
  ((
   if (k == 3) then (
    some (k == 3)
   ) else (
    if (k == 5) then (
     some (k == 5)
    ) else (
     if (k == 9) then (
      some (k == 9)
     ) else (
      if (k == 10) then (
       some (k == 10)
      ) else (
       some (k == 11)
      )
     )
    )
   )
   : Option Bool)) >>= fun p2 =>
  if p2 then (
   bits_Low32 wv >>= fun rv3 =>
   some ((IntKind.u64.wrap rv3), 0)
  ) else (
   if (k == 7) then (
    kind_truth wv >>= fun rv4 =>
    some (rv4, 0)
   ) else (
    ((
     if (k == 2) then (
      some (k == 2)
     ) else (
      if (k == 4) then (
       some (k == 4)
      ) else (
       if (k == 6) then (
        some (k == 6)
       ) else (
        if (k == 12) then (
         some (k == 12)
        ) else (
         if (k == 13) then (
          some (k == 13)
         ) else (
          some (k == 14)
         )
        )
       )
      )
     )
     : Option Bool)) >>= fun p3 =>
    if p3 then (
     some (wv, 0)
    ) else (
     some (0, 2)
    )
   )
  )
 )
def darninglaw06_alive  : Option Bool :=
 kind_Canon 1 4294967295 >>= fun rv =>
 kind_Canon 7 7 >>= fun rv2 =>
 some (((IntKind.i64.wrap ((IntKind.i64.wrap rv.2) + (IntKind.i64.wrap rv2.2))) == 0) && ((rv.1 == 18446744073709551615) && (rv2.1 == 1)))
def kind_kinds  : Option (List (Int × T_name_wire)) :=
 some (mput (mput (mput (mput (mput (mput (mput (mput (mput (mput (mput (mput (mput (mput (mput (mput (mput ([] : (List (Int × T_name_wire))) 1 (⟨[105, 110, 116, 51, 50], 0⟩ : T_name_wire)) 2 (⟨[105, 110, 116, 54, 52], 0⟩ : T_name_wire)) 3 (⟨[117, 105, 110, 116, 51, 50], 0⟩ : T_name_wire)) 4 (⟨[117, 105, 110, 116, 54, 52], 0⟩ : T_name_wire)) 5 (⟨[115, 105, 110, 116, 51, 50], 0⟩ : T_name_wire)) 6 (⟨[115, 105, 110, 116, 54, 52], 0⟩ : T_name_wire)) 7 (⟨[98, 111, 111, 108], 0⟩ : T_name_wire)) 8 (⟨[101, 110, 117, 109], 0⟩ : T_name_wire)) 9 (⟨[102, 105, 120, 101, 100, 51, 50], 5⟩ : T_name_wire)) 10 (⟨[115, 102, 105, 120, 101, 100, 51, 50], 5⟩ : T_name_wire)) 11 (⟨[102, 108, 111, 97, 116], 5⟩ : T_name_wire)) 12 (⟨[102, 105, 120, 101, 100, 54, 52], 1⟩ : T_name_wire)) 13 (⟨[115, 102, 105, 120, 101, 100, 54, 52], 1⟩ : T_name_wire)) 14 (⟨[100, 111, 117, 98, 108, 101], 1⟩ : T_name_wire)) 15 (⟨[115, 116, 114, 105, 110, 103], 2⟩ : T_name_wire)) 16 (⟨[98, 121, 116, 101, 115], 2⟩ : T_name_wire)) 17 (⟨[109, 101, 115, 115, 97, 103, 101], 2⟩ : T_name_wire))
def kind_Parse_b1 (name : Str) (ev : (Int × T_name_wire))  : Option (Unit ⊕ (Unit ⊕ Int)) :=
 if (ev.2.name == name) then (
  some (.inr (.inr ev.1))
 ) else (
  some (.inl ())
 )
def kind_Parse_e1 (name : Str)  : (Unit ⊕ Int) := (.inl ())
def kind_Parse_l1 (name : Str) (left : List (Int × T_name_wire))  : Option (Unit ⊕ Int) := rangeO (fun s : Unit => kind_Parse_e1 name) (fun (s : Unit) (ev : (Int × T_name_wire)) => kind_Parse_b1 name ev) () left
def kind_Parse (name : Str) : Option (Int × Int) :=
 kind_kinds >>= fun rv =>
 orders rv fun left =>
 kind_Parse_l1 name left >>= fun q =>
 match q with
 | .inl u => (
  some (0, 11)
 )
 | .inr u2 => (
  some (u2, 0)
 )
theorem kind_Parse_l1_inl {name : Str}   {ev : (Int × T_name_wire)} {left : List (Int × T_name_wire)} (h : kind_Parse_b1 name ev = some (.inl ())) : kind_Parse_l1 name (ev :: left) = kind_Parse_l1 name left := rangeO_inl (b0 := fun s : Unit => kind_Parse_e1 name) (b1 := fun (s : Unit) (ev : (Int × T_name_wire)) => kind_Parse_b1 name ev) h
theorem kind_Parse_l1_inr {name : Str}  {ev : (Int × T_name_wire)} {left : List (Int × T_name_wire)} {oo_ : (Unit ⊕ Int)} (h : kind_Parse_b1 name ev = some (.inr oo_)) : kind_Parse_l1 name (ev :: left) = some oo_ := rangeO_inr (b0 := fun s : Unit => kind_Parse_e1 name) (b1 := fun (s : Unit) (ev : (Int × T_name_wire)) => kind_Parse_b1 name ev) h
def darningref06_Names  : Option (List Str) :=
 some ([[], [105, 110, 116, 51, 50], [105, 110, 116, 54, 52], [117, 105, 110, 116, 51, 50], [117, 105, 110, 116, 54, 52], [115, 105, 110, 116, 51, 50], [115, 105, 110, 116, 54, 52], [98, 111, 111, 108], [101, 110, 117, 109], [102, 105, 120, 101, 100, 51, 50], [115, 102, 105, 120, 101, 100, 51, 50], [102, 108, 111, 97, 116], [102, 105, 120, 101, 100, 54, 52], [115, 102, 105, 120, 101, 100, 54, 52], [100, 111, 117, 98, 108, 101], [115, 116, 114, 105, 110, 103], [98, 121, 116, 101, 115], [109, 101, 115, 115, 97, 103, 101]] : (List Str))
def kind_All  : Option (List Int) :=
 kind_kinds >>= fun rv =>
 keysO rv >>= fun v =>
 some v
def kind_Wire (k : Int) : Option (Int × Int) :=
 kind_kinds >>= fun rv =>
 if (!(mget rv k).isSome) then (
  some (0, 2)
 ) else (
  some (((mget rv k).getD (⟨[], 0⟩ : T_name_wire)).wire, 0)
 )
def darningref06_Right (k : Int) : Option Bool :=
 some ((decide (k ≥ 1)) && (decide (k ≤ 17)))
def kind_Right (k : Int) : Option Bool :=
 kind_kinds >>= fun rv =>
 some ((mget rv k).isSome)
def kind_Name (k : Int) : Option Str :=
 kind_kinds >>= fun rv =>
 some (((mget rv k).getD (⟨[], 0⟩ : T_name_wire)).name)
def kind_Number (k : Int) : Option Bool :=
 kind_Wire k >>= fun rv =>
 some ((rv.2 == 0) && (rv.1 != 2))
def darningref06_Wire (k : Int) : Option Int :=
 if (decide (k ≥ 15)) then (
  some 2
 ) else (
  if (decide (k ≥ 12)) then (
   some 1
  ) else (
   if (decide (k ≥ 9)) then (
    some 5
   ) else (
    some 0
   )
  )
 )
def darningref06_Number (k : Int) : Option Bool :=
 some ((decide (k ≥ 1)) && (decide (k ≤ 14)))
def darninglaw06_KindForms_b1 (name : Str) (want : Int) (i : Int) : Option ((Int × Int) ⊕ Int) :=
 if (decide (i ≤ 17)) then (
  darningref06_Names >>= fun rv3 =>
  idx rv3 i >>= fun x =>
  if (x == name) then (
   some (.inl (i, (IntKind.i64.wrap (i + 1))))
  ) else (
   some (.inl (want, (IntKind.i64.wrap (i + 1))))
  )
 ) else (
  some (.inr want)
 )
def darninglaw06_KindForms_l1 (name : Str) (want : Int) (i : Int) : Option Int := whileO (fun s : (Int × Int) => darninglaw06_KindForms_b1 name s.1 s.2) (want, i)
def darninglaw06_KindForms (k : Int) (name : Str) : Option Bool :=
 darninglaw06_alive >>= fun rv =>
 if (!rv) then (
  some false
 ) else (
  if (decide ((name.length : Int) > 500)) then (
   some true
  ) else (
   kind_Parse name >>= fun rv2 =>
   darninglaw06_KindForms_l1 name 0 1 >>= fun q =>
   (
    if (rv2.1 != q) then (
     some true
    ) else (
     if (!(((IntKind.i64.wrap rv2.2) == 0) == (decide (q > 0)))) then (
      some true
     ) else (
      if ((IntKind.i64.wrap rv2.2) != 0) then (
       if ((IntKind.i64.wrap rv2.2) != 11) then (
        some true
       ) else (
        kind_All >>= fun rv4 =>
        if ((rv4.length : Int) != 17) then (
         some true
        ) else (
         kind_All >>= fun rv5 =>
         idx rv5 16 >>= fun x2 =>
         if (x2 != 17) then (
          some true
         ) else (
          kind_All >>= fun rv6 =>
          idx rv6 0 >>= fun x3 =>
          some (x3 != 1)
         )
        )
       )
      ) else (
       kind_All >>= fun rv7 =>
       if ((rv7.length : Int) != 17) then (
        some true
       ) else (
        kind_All >>= fun rv8 =>
        idx rv8 16 >>= fun x4 =>
        if (x4 != 17) then (
         some true
        ) else (
         kind_All >>= fun rv9 =>
         idx rv9 0 >>= fun x5 =>
         some (x5 != 1)
        )
       )
      )
     )
    )
   ) >>= fun g =>
   if g then (
    some false
   ) else (
    kind_Wire k >>= fun rv10 =>
    darningref06_Right k >>= fun rv11 =>
    if (!rv11) then (
     (
      kind_Right k >>= fun rv12 =>
      if (!rv12) then (
       kind_Name k >>= fun rv13 =>
       if (rv13 == []) then (
        if ((IntKind.i64.wrap rv10.2) == 2) then (
         if (rv10.1 == 0) then (
          kind_Number k >>= fun rv14 =>
          some (!rv14)
         ) else (
          some false
         )
        ) else (
         some false
        )
       ) else (
        some false
       )
      ) else (
       some false
      )
     ) >>= fun g2 =>
     some g2
    ) else (
     (
      kind_Right k >>= fun rv15 =>
      if rv15 then (
       kind_Name k >>= fun rv16 =>
       darningref06_Names >>= fun rv17 =>
       idx rv17 k >>= fun x6 =>
       if (rv16 == x6) then (
        if ((IntKind.i64.wrap rv10.2) == 0) then (
         darningref06_Wire k >>= fun rv18 =>
         if (rv10.1 == rv18) then (
          kind_Number k >>= fun rv19 =>
          darningref06_Number k >>= fun rv20 =>
          some (rv19 == rv20)
         ) else (
          some false
         )
        ) else (
         some false
        )
       ) else (
        some false
       )
      ) else (
       some false
      )
     ) >>= fun g3 =>
     some g3
    )
   )
  )
 )
theorem darninglaw06_KindForms_l1_inl {name : Str} {want : Int} {i : Int} {want' : Int} {i' : Int} (h : darninglaw06_KindForms_b1 name want i = some (.inl (want', i'))) : darninglaw06_KindForms_l1 name want i = darninglaw06_KindForms_l1 name want' i' := whileO_inl (body := fun s : (Int × Int) => darninglaw06_KindForms_b1 name s.1 s.2) h
theorem darninglaw06_KindForms_l1_inr {name : Str} {want : Int} {i : Int} {oo_ : Int} (h : darninglaw06_KindForms_b1 name want i = some (.inr oo_)) : darninglaw06_KindForms_l1 name want i = some oo_ := whileO_inr (body := fun s : (Int × Int) => darninglaw06_KindForms_b1 name s.1 s.2) h
def kind_Signed (k : Int) (wv : Int) : Option (Int × Int) :=
 kind_Canon k wv >>= fun rv =>
 ((
  if (k == 1) then (
   some (k == 1)
  ) else (
   if (k == 2) then (
    some (k == 2)
   ) else (
    if (k == 8) then (
     some (k == 8)
    ) else (
     some (k == 13)
    )
   )
  )
  : Option Bool)) >>= fun p =>
 if p then (
  some ((IntKind.i64.wrap rv.1), 0)
 ) else (
  if (k == 10) then (
   bits_Sign32 rv.1 >>= fun rv2 =>
   some ((IntKind.i64.wrap rv2), 0)
  ) else (
   ((
    if (k == 5) then (
     some (k == 5)
    ) else (
     some (k == 6)
    )
    : Option Bool)) >>= fun p2 =>
   if p2 then (
    bits_Zag rv.1 >>= fun rv3 =>
    some (rv3, 0)
   ) else (
    some (0, 2)
   )
  )
 )
def darninglaw06_KindStays (k : Int) (l : Int) (wv : Int) : Option Bool :=
 darninglaw06_alive >>= fun rv =>
 if (!rv) then (
  some false
 ) else (
  kind_Canon k wv >>= fun rv2 =>
  ((
   if ((IntKind.i64.wrap rv2.2) == 0) then (
    kind_Canon k rv2.1 >>= fun rv3 =>
    kind_Signed k wv >>= fun rv4 =>
    kind_Signed k rv2.1 >>= fun rv5 =>
    if (((IntKind.i64.wrap rv3.2) != 0) || ((rv3.1 != rv2.1) || ((rv4.1 != rv5.1) || (rv4.2 != rv5.2)))) then (
     some (.inr ())
    ) else (
     some (.inl ())
    )
   ) else (
    some (.inl ())
   )
   : Option (Unit ⊕ Unit))) >>= fun p =>
  match p with
  | .inl u => (
   (
    kind_Right k >>= fun rv6 =>
    if (!rv6) then (
     some true
    ) else (
     kind_Right l >>= fun rv7 =>
     some (!rv7)
    )
   ) >>= fun g =>
   if g then (
    some true
   ) else (
    kind_Name k >>= fun rv8 =>
    kind_Parse rv8 >>= fun rv9 =>
    (
     if ((IntKind.i64.wrap rv9.2) == 0) then (
      if (rv9.1 == k) then (
       kind_Name k >>= fun rv10 =>
       kind_Name l >>= fun rv11 =>
       some ((rv10 == rv11) == (k == l))
      ) else (
       some false
      )
     ) else (
      some false
     )
    ) >>= fun g2 =>
    some g2
   )
  )
  | .inr u2 => (
   some false
  )
 )
def darningref06_Signed (k : Int) (wv : Int) : Option (Int × Bool) :=
 ((
  if (k == 1) then (
   some (k == 1)
  ) else (
   if (k == 8) then (
    some (k == 8)
   ) else (
    some (k == 10)
   )
  )
  : Option Bool)) >>= fun p =>
 if p then (
  darningref01_Sign32 wv >>= fun rv =>
  some (rv, true)
 ) else (
  ((
   if (k == 2) then (
    some (k == 2)
   ) else (
    some (k == 13)
   )
   : Option Bool)) >>= fun p2 =>
  if p2 then (
   if (decide (wv < 9223372036854775808)) then (
    some ((IntKind.i64.wrap wv), true)
   ) else (
    some ((IntKind.i64.wrap ((IntKind.i64.wrap (0 - (IntKind.i64.wrap (IntKind.u64.wrap (18446744073709551615 - wv))))) - 1)), true)
   )
  ) else (
   if (k == 5) then (
    darningref01_Zag (Int.tmod wv 4294967296) >>= fun rv2 =>
    some (rv2, true)
   ) else (
    if (k == 6) then (
     darningref01_Zag wv >>= fun rv3 =>
     some (rv3, true)
    ) else (
     some (0, false)
    )
   )
  )
 )
def darningref06_Canon (k : Int) (wv : Int) : Option Int :=
 ((
  if (k == 1) then (
   some (k == 1)
  ) else (
   some (k == 8)
  )
  : Option Bool)) >>= fun p =>
 if p then (
  darningref01_Sign32 wv >>= fun rv =>
  darningref01_Wide rv >>= fun rv2 =>
  some rv2
 ) else (
  ((
   if (k == 3) then (
    some (k == 3)
   ) else (
    if (k == 5) then (
     some (k == 5)
    ) else (
     if (k == 9) then (
      some (k == 9)
     ) else (
      if (k == 10) then (
       some (k == 10)
      ) else (
       some (k == 11)
      )
     )
    )
   )
   : Option Bool)) >>= fun p2 =>
  if p2 then (
   some (Int.tmod wv 4294967296)
  ) else (
   if (k == 7) then (
    if (decide (wv > 0)) then (
     some 1
    ) else (
     some 0
    )
   ) else (
    some wv
   )
  )
 )
def darninglaw06_KindWords (k : Int) (wv : Int) : Option Bool :=
 darninglaw06_alive >>= fun rv =>
 if (!rv) then (
  some false
 ) else (
  kind_Canon k wv >>= fun rv2 =>
  kind_Signed k wv >>= fun rv3 =>
  darningref06_Signed k wv >>= fun rv4 =>
  darningref06_Number k >>= fun rv5 =>
  if (!rv5) then (
   some (((IntKind.i64.wrap rv2.2) == 2) && ((rv2.1 == 0) && (((IntKind.i64.wrap rv3.2) == 2) && (rv3.1 == 0))))
  ) else (
   (
    if ((IntKind.i64.wrap rv2.2) == 0) then (
     darningref06_Canon k wv >>= fun rv6 =>
     if (rv2.1 == rv6) then (
      if (rv3.1 == rv4.1) then (
       if rv4.2 then (
        if ((IntKind.i64.wrap rv3.2) == 0) then (
         some true
        ) else (
         if (!rv4.2) then (
          some ((IntKind.i64.wrap rv3.2) == 2)
         ) else (
          some false
         )
        )
       ) else (
        if (!rv4.2) then (
         some ((IntKind.i64.wrap rv3.2) == 2)
        ) else (
         some false
        )
       )
      ) else (
       some false
      )
     ) else (
      some false
     )
    ) else (
     some false
    )
   ) >>= fun g =>
   some g
  )
 )
end
end Go.Proofs.Ytbhlonecfdknaaa
