/-
  What the Go functions of layer 3 do, as plain functions. No condition.
-/
import Derived.Test.YtnhnanbgphdaeaaS02
namespace Go.Proofs.Ytnhnanbgphdaeaa
open Go
set_option linter.unusedVariables false
noncomputable section
def tag_rightWire (wire : Int) : Option Bool :=
 if (wire == 0) then (
  if (wire == 0) then (
   some true
  ) else (
   some false
  )
 ) else (
  if (wire == 1) then (
   if (wire == 1) then (
    some true
   ) else (
    some false
   )
  ) else (
   if (wire == 2) then (
    if (wire == 2) then (
     some true
    ) else (
     some false
    )
   ) else (
    if (wire == 5) then (
     some true
    ) else (
     some false
    )
   )
  )
 )
def tag_Right (t : T_Number_Wire) : Option Bool :=
 (
  if (decide (t.Number ≥ 1)) then (
   if (decide (t.Number ≤ 536870911)) then (
    tag_rightWire t.Wire >>= fun rv =>
    some rv
   ) else (
    some false
   )
  ) else (
   some false
  )
 ) >>= fun g =>
 some g
def tag_Read (b : (List UInt8)) : Option (T_Number_Wire × Int × Int) :=
 varint_Read b >>= fun rv =>
 if (rv.2.2 != 0) then (
  some ((⟨0, 0⟩ : T_Number_Wire), 0, rv.2.2)
 ) else (
  tag_Right (⟨(IntKind.i64.wrap (if (536870912 : Int) < (shrI .u64 rv.1 3) then 536870912 else (shrI .u64 rv.1 3))), (IntKind.i64.wrap (andI .u64 rv.1 7))⟩ : T_Number_Wire) >>= fun rv2 =>
  if (!rv2) then (
   some ((⟨0, 0⟩ : T_Number_Wire), 0, 5)
  ) else (
   some ((⟨(IntKind.i64.wrap (if (536870912 : Int) < (shrI .u64 rv.1 3) then 536870912 else (shrI .u64 rv.1 3))), (IntKind.i64.wrap (andI .u64 rv.1 7))⟩ : T_Number_Wire), rv.2.1, 0)
  )
 )
def darninglaw03_alive  : Option Bool :=
 tag_Read ([(8 : UInt8)] : List UInt8) >>= fun rv =>
 tag_Read ([(18 : UInt8)] : List UInt8) >>= fun rv2 =>
 some ((decide (rv.1 = (⟨1, 0⟩ : T_Number_Wire))) && ((rv.2.1 == 1) && ((decide (rv2.1 = (⟨2, 2⟩ : T_Number_Wire))) && ((IntKind.i64.wrap ((IntKind.i64.wrap rv.2.2) + (IntKind.i64.wrap rv2.2.2))) == 0))))
def tag_word (t : T_Number_Wire) : Option Int :=
 some (orI .u64 (shlI .u64 (IntKind.u64.wrap t.Number) 3) (IntKind.u64.wrap t.Wire))
def tag_Put (b : (List UInt8)) (t : T_Number_Wire) : Option ((List UInt8) × Int) :=
 tag_Right t >>= fun rv =>
 if (!rv) then (
  some ([], 2)
 ) else (
  tag_word t >>= fun rv2 =>
  varint_Put b rv2 >>= fun rv3 =>
  some (rv3, 0)
 )
def tag_Size (t : T_Number_Wire) : Option Int :=
 tag_Right t >>= fun rv =>
 if (!rv) then (
  some 0
 ) else (
  tag_word t >>= fun rv2 =>
  varint_Put ([] : (List UInt8)) rv2 >>= fun rv3 =>
  some (rv3.length : Int)
 )
def darninglaw03_TagBack (t : T_Number_Wire) (more : (List UInt8)) : Option Bool :=
 darninglaw03_alive >>= fun rv =>
 if (!rv) then (
  some false
 ) else (
  if (decide ((more.length : Int) > 2000)) then (
   some true
  ) else (
   tag_Read more >>= fun rv2 =>
   (
    if ((IntKind.i64.wrap rv2.2.2) == 0) then (
     tag_Right rv2.1 >>= fun rv3 =>
     some (!rv3)
    ) else (
     some false
    )
   ) >>= fun g =>
   if g then (
    some false
   ) else (
    tag_Put ([] : (List UInt8)) t >>= fun rv4 =>
    if ((IntKind.i64.wrap rv4.2) != 0) then (
     tag_Right t >>= fun rv5 =>
     some (!rv5)
    ) else (
     app 1 ([] : (List UInt8)) rv4.1 >>= fun v2 =>
     app 1 v2 more >>= fun v3 =>
     tag_Read v3 >>= fun rv6 =>
     (
      if ((IntKind.i64.wrap rv6.2.2) == 0) then (
       if (decide (rv6.1 = t)) then (
        if (rv6.2.1 == (rv4.1.length : Int)) then (
         tag_Size t >>= fun rv7 =>
         if (rv6.2.1 == rv7) then (
          some (decide (rv6.2.1 ≤ 5))
         ) else (
          some false
         )
        ) else (
         some false
        )
       ) else (
        some false
       )
      ) else (
       some false
      )
     ) >>= fun g2 =>
     some g2
    )
   )
  )
 )
def darningref03_Right (number : Int) (wire : Int) : Option Bool :=
 some ((decide (number ≥ 1)) && ((decide (number ≤ 536870911)) && ((wire == 0) || ((wire == 1) || ((wire == 2) || (wire == 5))))))
def tag_Less (av : T_Number_Wire) (b : T_Number_Wire) : Option Bool :=
 some ((decide (av.Number < b.Number)) || ((av.Number == b.Number) && (decide (av.Wire < b.Wire))))
def darningref03_Put (fuel : Nat) (number : Int) (wire : Int) : Option (List UInt8) :=
 darningref02_Put fuel (IntKind.u64.wrap (IntKind.i64.wrap ((IntKind.i64.wrap (8 * number)) + wire))) >>= fun rv =>
 some rv
def darninglaw03_TagPuts (fuel : Nat) (b : (List UInt8)) (t : T_Number_Wire) (u : T_Number_Wire) : Option Bool :=
 darninglaw03_alive >>= fun rv =>
 if (!rv) then (
  some false
 ) else (
  if (decide ((b.length : Int) > 2000)) then (
   some true
  ) else (
   tag_Put b t >>= fun rv2 =>
   darningref03_Right t.Number t.Wire >>= fun rv3 =>
   (
    tag_Right t >>= fun rv4 =>
    if (!(rv4 == rv3)) then (
     some true
    ) else (
     tag_Less t u >>= fun rv5 =>
     some (!(rv5 == ((decide (t.Number < u.Number)) || ((t.Number == u.Number) && (decide (t.Wire < u.Wire))))))
    )
   ) >>= fun g =>
   if g then (
    some false
   ) else (
    if (!rv3) then (
     (
      if ((IntKind.i64.wrap rv2.2) == 2) then (
       if ((rv2.1.length : Int) == 0) then (
        tag_Size t >>= fun rv6 =>
        some (rv6 == 0)
       ) else (
        some false
       )
      ) else (
       some false
      )
     ) >>= fun g2 =>
     some g2
    ) else (
     darningref03_Put fuel t.Number t.Wire >>= fun rv7 =>
     (
      if ((IntKind.i64.wrap rv2.2) == 0) then (
       app 1 ([] : (List UInt8)) b >>= fun v3 =>
       app 1 v3 rv7 >>= fun v4 =>
       darningref01_Same rv2.1 v4 >>= fun rv8 =>
       if rv8 then (
        tag_Size t >>= fun rv9 =>
        some (rv9 == (rv7.length : Int))
       ) else (
        some false
       )
      ) else (
       some false
      )
     ) >>= fun g3 =>
     some g3
    )
   )
  )
 )
def darningref03_Read (b : (List UInt8)) (atv : Int) : Option (Int × Int × Int × Int) :=
 darningref02_Read b atv >>= fun rv =>
 if (rv.2.2 != 0) then (
  some (0, 0, 0, rv.2.2)
 ) else (
  (
   if (decide (rv.1 > 4294967295)) then (
    some true
   ) else (
    darningref03_Right (IntKind.i64.wrap (IntKind.u64.wrap (Int.tdiv rv.1 8))) (IntKind.i64.wrap (Int.tmod rv.1 8)) >>= fun rv2 =>
    some (!rv2)
   )
  ) >>= fun g =>
  if g then (
   some (0, 0, 0, 5)
  ) else (
   some ((IntKind.i64.wrap (IntKind.u64.wrap (Int.tdiv rv.1 8))), (IntKind.i64.wrap (Int.tmod rv.1 8)), rv.2.1, 0)
  )
 )
def darninglaw03_TagReads (b : (List UInt8)) : Option Bool :=
 darninglaw03_alive >>= fun rv =>
 if (!rv) then (
  some false
 ) else (
  if (decide ((b.length : Int) > 2000)) then (
   some true
  ) else (
   tag_Read b >>= fun rv2 =>
   darningref03_Read b 0 >>= fun rv3 =>
   some ((decide (rv2.1 = (⟨rv3.1, rv3.2.1⟩ : T_Number_Wire))) && ((rv2.2.1 == rv3.2.2.1) && ((IntKind.i64.wrap rv2.2.2) == rv3.2.2.2)))
  )
 )
end
end Go.Proofs.Ytnhnanbgphdaeaa
