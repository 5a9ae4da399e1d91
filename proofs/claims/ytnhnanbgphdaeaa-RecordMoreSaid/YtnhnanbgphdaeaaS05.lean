/-
  What the Go functions of layer 5 do, as plain functions. No condition.
-/
import Derived.Test.YtnhnanbgphdaeaaS04
namespace Go.Proofs.Ytnhnanbgphdaeaa
open Go
set_option linter.unusedVariables false
noncomputable section
def record_span (wire : Int) (b : (List UInt8)) : Option (Int × Int × Int) :=
 if (wire == 0) then (
  varint_Skip b >>= fun rv =>
  some (0, rv.1, rv.2)
 ) else (
  ((
   if (wire == 1) then (
    some (0, 0, 8)
   ) else (
    if (wire == 5) then (
     some (0, 0, 4)
    ) else (
     if (wire == 2) then (
      varint_Read b >>= fun rv2 =>
      some (rv2.2.1, rv2.2.2, rv2.1)
     ) else (
      some (0, 0, 0)
     )
    )
   )
   : Option (Int × Int × Int))) >>= fun p =>
  if (p.2.1 != 0) then (
   some (0, 0, p.2.1)
  ) else (
   if (decide (p.2.2 > (IntKind.u64.wrap (IntKind.i64.wrap ((b.length : Int) - p.1))))) then (
    some (0, 0, 3)
   ) else (
    some (p.1, (IntKind.i64.wrap (p.1 + (IntKind.i64.wrap p.2.2))), 0)
   )
  )
 )
def record_Next (b : (List UInt8)) (fromv : Int) : Option (T_Number_Wire_From_At_To × Int) :=
 if ((decide (fromv < 0)) || (decide (fromv ≥ (b.length : Int)))) then (
  some ((⟨0, 0, 0, 0, 0⟩ : T_Number_Wire_From_At_To), 2)
 ) else (
  cut b fromv (b.length : Int) >>= fun v2 =>
  tag_Read v2 >>= fun rv =>
  if (rv.2.2 != 0) then (
   some ((⟨0, 0, 0, 0, 0⟩ : T_Number_Wire_From_At_To), rv.2.2)
  ) else (
   cut b (IntKind.i64.wrap (fromv + rv.2.1)) (b.length : Int) >>= fun v3 =>
   record_span rv.1.Wire v3 >>= fun rv2 =>
   if (rv2.2.2 != 0) then (
    some ((⟨0, 0, 0, 0, 0⟩ : T_Number_Wire_From_At_To), rv2.2.2)
   ) else (
    some ((⟨rv.1.Number, rv.1.Wire, fromv, (IntKind.i64.wrap ((IntKind.i64.wrap (fromv + rv.2.1)) + rv2.1)), (IntKind.i64.wrap ((IntKind.i64.wrap (fromv + rv.2.1)) + rv2.2.1))⟩ : T_Number_Wire_From_At_To), 0)
   )
  )
 )
def record_Split_b1 (b : (List UInt8)) (l : (List T_Number_Wire_From_At_To)) (fromv : Int) : Option (((List T_Number_Wire_From_At_To) × Int) ⊕ ((List T_Number_Wire_From_At_To) ⊕ (Int × Int))) :=
 if (decide (fromv < (b.length : Int))) then (
  record_Next b fromv >>= fun rv =>
  if (rv.2 != 0) then (
   some (.inr (.inr (fromv, rv.2)))
  ) else (
   app 40 l ([rv.1] : (List T_Number_Wire_From_At_To)) >>= fun v =>
   some (.inl (v, rv.1.To))
  )
 ) else (
  some (.inr (.inl l))
 )
def record_Split_l1 (b : (List UInt8)) (l : (List T_Number_Wire_From_At_To)) (fromv : Int) : Option ((List T_Number_Wire_From_At_To) ⊕ (Int × Int)) := whileO (fun s : ((List T_Number_Wire_From_At_To) × Int) => record_Split_b1 b s.1 s.2) (l, fromv)
def record_Split (b : (List UInt8)) : Option ((List T_Number_Wire_From_At_To) × Int × Int) :=
 record_Split_l1 b [] 0 >>= fun q =>
 match q with
 | .inl u => (
  some (u, 0, 0)
 )
 | .inr u2 => (
  some ([], u2.1, u2.2)
 )
theorem record_Split_l1_inl {b : (List UInt8)} {l : (List T_Number_Wire_From_At_To)} {fromv : Int} {l' : (List T_Number_Wire_From_At_To)} {fromv' : Int} (h : record_Split_b1 b l fromv = some (.inl (l', fromv'))) : record_Split_l1 b l fromv = record_Split_l1 b l' fromv' := whileO_inl (body := fun s : ((List T_Number_Wire_From_At_To) × Int) => record_Split_b1 b s.1 s.2) h
theorem record_Split_l1_inr {b : (List UInt8)} {l : (List T_Number_Wire_From_At_To)} {fromv : Int} {oo_ : ((List T_Number_Wire_From_At_To) ⊕ (Int × Int))} (h : record_Split_b1 b l fromv = some (.inr oo_)) : record_Split_l1 b l fromv = some oo_ := whileO_inr (body := fun s : ((List T_Number_Wire_From_At_To) × Int) => record_Split_b1 b s.1 s.2) h
def darninglaw05_alive  : Option Bool :=
 record_Split ([(8 : UInt8), (1 : UInt8), (18 : UInt8), (1 : UInt8), (97 : UInt8)] : List UInt8) >>= fun rv =>
 (
  if ((IntKind.i64.wrap rv.2.2) == 0) then (
   if ((rv.1.length : Int) == 2) then (
    idx rv.1 0 >>= fun x =>
    if (decide (x = (⟨1, 0, 0, 1, 2⟩ : T_Number_Wire_From_At_To))) then (
     idx rv.1 1 >>= fun x2 =>
     some (decide (x2 = (⟨2, 2, 2, 4, 5⟩ : T_Number_Wire_From_At_To)))
    ) else (
     some false
    )
   ) else (
    some false
   )
  ) else (
   some false
  )
 ) >>= fun g =>
 some g
def darninglaw05_RecordMore_b1 (av : (List UInt8)) (rv2 : ((List T_Number_Wire_From_At_To) × Int × Int)) (rv3 : ((List T_Number_Wire_From_At_To) × Int × Int)) (rv4 : ((List T_Number_Wire_From_At_To) × Int × Int)) (i : Int) : Option (Int ⊕ (Unit ⊕ Unit)) :=
 if (decide (i < (rv4.1.length : Int))) then (
  (
   if (decide (i < (rv2.1.length : Int))) then (
    idx rv4.1 i >>= fun x =>
    idx rv2.1 i >>= fun x2 =>
    some (!(decide (x = x2)))
   ) else (
    some false
   )
  ) >>= fun g =>
  if g then (
   some (.inr (.inr ()))
  ) else (
   if (decide (i < (rv2.1.length : Int))) then (
    some (.inl (IntKind.i64.wrap (i + 1)))
   ) else (
    idx rv3.1 (IntKind.i64.wrap (i - (rv2.1.length : Int))) >>= fun x3 =>
    idx rv4.1 i >>= fun x4 =>
    if (!(decide (x4 = (⟨x3.Number, x3.Wire, (IntKind.i64.wrap (x3.From + (av.length : Int))), (IntKind.i64.wrap (x3.At + (av.length : Int))), (IntKind.i64.wrap (x3.To + (av.length : Int)))⟩ : T_Number_Wire_From_At_To)))) then (
     some (.inr (.inr ()))
    ) else (
     some (.inl (IntKind.i64.wrap (i + 1)))
    )
   )
  )
 ) else (
  some (.inr (.inl ()))
 )
def darninglaw05_RecordMore_l1 (av : (List UInt8)) (rv2 : ((List T_Number_Wire_From_At_To) × Int × Int)) (rv3 : ((List T_Number_Wire_From_At_To) × Int × Int)) (rv4 : ((List T_Number_Wire_From_At_To) × Int × Int)) (i : Int) : Option (Unit ⊕ Unit) := whileO (fun s : Int => darninglaw05_RecordMore_b1 av rv2 rv3 rv4 s) i
def darninglaw05_RecordMore (av : (List UInt8)) (b : (List UInt8)) : Option Bool :=
 darninglaw05_alive >>= fun rv =>
 if (!rv) then (
  some false
 ) else (
  if (decide ((IntKind.i64.wrap ((av.length : Int) + (b.length : Int))) > 3000)) then (
   some true
  ) else (
   record_Split av >>= fun rv2 =>
   record_Split b >>= fun rv3 =>
   app 1 ([] : (List UInt8)) av >>= fun v =>
   app 1 v b >>= fun v2 =>
   record_Split v2 >>= fun rv4 =>
   if ((IntKind.i64.wrap rv2.2.2) != 0) then (
    some true
   ) else (
    if ((IntKind.i64.wrap rv3.2.2) != 0) then (
     some ((rv4.2.2 == rv3.2.2) && (rv4.2.1 == (IntKind.i64.wrap ((av.length : Int) + rv3.2.1))))
    ) else (
     if (((IntKind.i64.wrap rv4.2.2) != 0) || ((rv4.1.length : Int) != (IntKind.i64.wrap ((rv2.1.length : Int) + (rv3.1.length : Int))))) then (
      some false
     ) else (
      darninglaw05_RecordMore_l1 av rv2 rv3 rv4 0 >>= fun q =>
      match q with
      | .inl u => (
       some true
      )
      | .inr u2 => (
       some false
      )
     )
    )
   )
  )
 )
theorem darninglaw05_RecordMore_l1_inl {av : (List UInt8)} {rv2 : ((List T_Number_Wire_From_At_To) × Int × Int)} {rv3 : ((List T_Number_Wire_From_At_To) × Int × Int)} {rv4 : ((List T_Number_Wire_From_At_To) × Int × Int)} {i : Int} {i' : Int} (h : darninglaw05_RecordMore_b1 av rv2 rv3 rv4 i = some (.inl i')) : darninglaw05_RecordMore_l1 av rv2 rv3 rv4 i = darninglaw05_RecordMore_l1 av rv2 rv3 rv4 i' := whileO_inl (body := fun s : Int => darninglaw05_RecordMore_b1 av rv2 rv3 rv4 s) h
theorem darninglaw05_RecordMore_l1_inr {av : (List UInt8)} {rv2 : ((List T_Number_Wire_From_At_To) × Int × Int)} {rv3 : ((List T_Number_Wire_From_At_To) × Int × Int)} {rv4 : ((List T_Number_Wire_From_At_To) × Int × Int)} {i : Int} {oo_ : (Unit ⊕ Unit)} (h : darninglaw05_RecordMore_b1 av rv2 rv3 rv4 i = some (.inr oo_)) : darninglaw05_RecordMore_l1 av rv2 rv3 rv4 i = some oo_ := whileO_inr (body := fun s : Int => darninglaw05_RecordMore_b1 av rv2 rv3 rv4 s) h
def record_fits (wire : Int) (value : (List UInt8)) : Option Bool :=
 if (wire == 2) then (
  some true
 ) else (
  record_span wire value >>= fun rv =>
  some ((rv.2.2 == 0) && (rv.2.1 == (value.length : Int)))
 )
def record_Put (b : (List UInt8)) (number : Int) (wire : Int) (value : (List UInt8)) : Option ((List UInt8) × Int) :=
 tag_Put ([] : (List UInt8)) (⟨number, wire⟩ : T_Number_Wire) >>= fun rv =>
 (
  if (rv.2 != 0) then (
   some true
  ) else (
   record_fits wire value >>= fun rv2 =>
   some (!rv2)
  )
 ) >>= fun g =>
 if g then (
  some ([], 2)
 ) else (
  if (wire == 2) then (
   varint_Put rv.1 (IntKind.u64.wrap (value.length : Int)) >>= fun rv3 =>
   slices_Concat___byte_byte_ ([b, rv3, value] : (List (List UInt8))) >>= fun rv4 =>
   some (rv4, 0)
  ) else (
   slices_Concat___byte_byte_ ([b, rv.1, value] : (List (List UInt8))) >>= fun rv5 =>
   some (rv5, 0)
  )
 )
def record_Len (b : (List UInt8)) (number : Int) (value : (List UInt8)) : Option (List UInt8) :=
 record_Put b number 2 value >>= fun rv =>
 if (rv.2 != 0) then (
  slices_Concat___byte_byte_ ([b] : (List (List UInt8))) >>= fun rv2 =>
  some rv2
 ) else (
  some rv.1
 )
def darningref05_Put (fuel : Nat) (number : Int) (wire : Int) (value : (List UInt8)) : Option (List UInt8) :=
 darningref03_Put fuel number wire >>= fun rv =>
 if (wire == 2) then (
  darningref02_Put fuel (IntKind.u64.wrap (value.length : Int)) >>= fun rv2 =>
  app 1 rv rv2 >>= fun v =>
  app 1 v value >>= fun v2 =>
  some v2
 ) else (
  app 1 rv value >>= fun v3 =>
  some v3
 )
def darningref05_Fits (wire : Int) (value : (List UInt8)) : Option Bool :=
 if (wire == 0) then (
  darningref02_Read value 0 >>= fun rv =>
  some ((rv.2.2 == 0) && (rv.2.1 == (value.length : Int)))
 ) else (
  some ((wire == 2) || (if (wire == 1) then (((value.length : Int) == 8) || ((wire == 5) && ((value.length : Int) == 4))) else ((wire == 5) && ((value.length : Int) == 4))))
 )
def darninglaw05_RecordPuts (fuel : Nat) (b : (List UInt8)) (number : Int) (wire : Int) (value : (List UInt8)) : Option Bool :=
 darninglaw05_alive >>= fun rv =>
 if (!rv) then (
  some false
 ) else (
  if (decide ((IntKind.i64.wrap ((b.length : Int) + (value.length : Int))) > 3000)) then (
   some true
  ) else (
   record_Put b number wire value >>= fun rv2 =>
   record_Len b number value >>= fun rv3 =>
   app 1 ([] : (List UInt8)) b >>= fun v =>
   darningref03_Right number 2 >>= fun rv4 =>
   ((
    if rv4 then (
     darningref05_Put fuel number 2 value >>= fun rv5 =>
     app 1 v rv5 >>= fun v2 =>
     some v2
    ) else (
     some v
    )
    : Option (List UInt8))) >>= fun p =>
   darningref01_Same rv3 p >>= fun rv6 =>
   if (!rv6) then (
    some false
   ) else (
    (
     darningref03_Right number wire >>= fun rv7 =>
     if (!rv7) then (
      some true
     ) else (
      darningref05_Fits wire value >>= fun rv8 =>
      some (!rv8)
     )
    ) >>= fun g =>
    if g then (
     some (((IntKind.i64.wrap rv2.2) == 2) && ((rv2.1.length : Int) == 0))
    ) else (
     (
      if ((IntKind.i64.wrap rv2.2) == 0) then (
       app 1 ([] : (List UInt8)) b >>= fun v5 =>
       darningref05_Put fuel number wire value >>= fun rv9 =>
       app 1 v5 rv9 >>= fun v6 =>
       darningref01_Same rv2.1 v6 >>= fun rv10 =>
       some rv10
      ) else (
       some false
      )
     ) >>= fun g2 =>
     some g2
    )
   )
  )
 )
def darningref05_Next (b : (List UInt8)) (fromv : Int) : Option (T_Number_Wire_From_At_To × Int) :=
 if ((decide (fromv < 0)) || (decide (fromv ≥ (b.length : Int)))) then (
  some ((⟨0, 0, 0, 0, 0⟩ : T_Number_Wire_From_At_To), 2)
 ) else (
  darningref03_Read b fromv >>= fun rv =>
  if (rv.2.2.2 != 0) then (
   some ((⟨0, 0, 0, 0, 0⟩ : T_Number_Wire_From_At_To), rv.2.2.2)
  ) else (
   ((
    if (rv.2.1 == 5) then (
     some 4
    ) else (
     some 8
    )
    : Option Int)) >>= fun p =>
   ((
    if (rv.2.1 == 0) then (
     darningref02_Read b (IntKind.i64.wrap (fromv + rv.2.2.1)) >>= fun rv2 =>
     if (rv2.2.2 != 0) then (
      some (.inr rv2.2.2)
     ) else (
      some (.inl rv2.2.1)
     )
    ) else (
     some (.inl p)
    )
    : Option (Int ⊕ Int))) >>= fun p2 =>
   match p2 with
   | .inl u => (
    ((
     if (rv.2.1 == 2) then (
      darningref02_Read b (IntKind.i64.wrap (fromv + rv.2.2.1)) >>= fun rv3 =>
      if (rv3.2.2 != 0) then (
       some (.inr rv3.2.2)
      ) else (
       if (decide (rv3.1 > (IntKind.u64.wrap (IntKind.i64.wrap ((IntKind.i64.wrap ((b.length : Int) - (IntKind.i64.wrap (fromv + rv.2.2.1)))) - rv3.2.1))))) then (
        some (.inr 3)
       ) else (
        some (.inl ((IntKind.i64.wrap ((IntKind.i64.wrap ((b.length : Int) - (IntKind.i64.wrap (fromv + rv.2.2.1)))) - rv3.2.1)), (IntKind.i64.wrap rv3.1), (IntKind.i64.wrap ((IntKind.i64.wrap (fromv + rv.2.2.1)) + rv3.2.1))))
       )
      )
     ) else (
      some (.inl ((IntKind.i64.wrap ((b.length : Int) - (IntKind.i64.wrap (fromv + rv.2.2.1)))), u, (IntKind.i64.wrap (fromv + rv.2.2.1))))
     )
     : Option ((Int × Int × Int) ⊕ Int))) >>= fun p3 =>
    match p3 with
    | .inl u2 => (
     if (decide (u2.2.1 > u2.1)) then (
      some ((⟨0, 0, 0, 0, 0⟩ : T_Number_Wire_From_At_To), 3)
     ) else (
      some ((⟨rv.1, rv.2.1, fromv, u2.2.2, (IntKind.i64.wrap (u2.2.2 + u2.2.1))⟩ : T_Number_Wire_From_At_To), 0)
     )
    )
    | .inr u3 => (
     some ((⟨0, 0, 0, 0, 0⟩ : T_Number_Wire_From_At_To), u3)
    )
   )
   | .inr u4 => (
    some ((⟨0, 0, 0, 0, 0⟩ : T_Number_Wire_From_At_To), u4)
   )
  )
 )
def darningref05_Split_b1 (b : (List UInt8)) (out : (List T_Number_Wire_From_At_To)) (atv : Int) : Option (((List T_Number_Wire_From_At_To) × Int) ⊕ ((List T_Number_Wire_From_At_To) ⊕ (Int × Int))) :=
 if (decide (atv < (b.length : Int))) then (
  darningref05_Next b atv >>= fun rv =>
  if (rv.2 != 0) then (
   some (.inr (.inr (atv, rv.2)))
  ) else (
   app 40 out ([rv.1] : (List T_Number_Wire_From_At_To)) >>= fun v3 =>
   some (.inl (v3, rv.1.To))
  )
 ) else (
  some (.inr (.inl out))
 )
def darningref05_Split_l1 (b : (List UInt8)) (out : (List T_Number_Wire_From_At_To)) (atv : Int) : Option ((List T_Number_Wire_From_At_To) ⊕ (Int × Int)) := whileO (fun s : ((List T_Number_Wire_From_At_To) × Int) => darningref05_Split_b1 b s.1 s.2) (out, atv)
def darningref05_Split (b : (List UInt8)) : Option ((List T_Number_Wire_From_At_To) × Int × Int) :=
 darningref05_Split_l1 b [] 0 >>= fun q =>
 match q with
 | .inl u => (
  some (u, 0, 0)
 )
 | .inr u2 => (
  some ([], u2.1, u2.2)
 )
theorem darningref05_Split_l1_inl {b : (List UInt8)} {out : (List T_Number_Wire_From_At_To)} {atv : Int} {out' : (List T_Number_Wire_From_At_To)} {atv' : Int} (h : darningref05_Split_b1 b out atv = some (.inl (out', atv'))) : darningref05_Split_l1 b out atv = darningref05_Split_l1 b out' atv' := whileO_inl (body := fun s : ((List T_Number_Wire_From_At_To) × Int) => darningref05_Split_b1 b s.1 s.2) h
theorem darningref05_Split_l1_inr {b : (List UInt8)} {out : (List T_Number_Wire_From_At_To)} {atv : Int} {oo_ : ((List T_Number_Wire_From_At_To) ⊕ (Int × Int))} (h : darningref05_Split_b1 b out atv = some (.inr oo_)) : darningref05_Split_l1 b out atv = some oo_ := whileO_inr (body := fun s : ((List T_Number_Wire_From_At_To) × Int) => darningref05_Split_b1 b s.1 s.2) h
def darninglaw05_RecordSplits_b1 (rv4 : ((List T_Number_Wire_From_At_To) × Int × Int)) (rv5 : ((List T_Number_Wire_From_At_To) × Int × Int)) (i : Int) : Option (Int ⊕ (Unit ⊕ Unit)) :=
 if (decide (i < (rv4.1.length : Int))) then (
  idx rv4.1 i >>= fun x =>
  idx rv5.1 i >>= fun x2 =>
  if (!(decide (x = x2))) then (
   some (.inr (.inr ()))
  ) else (
   some (.inl (IntKind.i64.wrap (i + 1)))
  )
 ) else (
  some (.inr (.inl ()))
 )
def darninglaw05_RecordSplits_l1 (rv4 : ((List T_Number_Wire_From_At_To) × Int × Int)) (rv5 : ((List T_Number_Wire_From_At_To) × Int × Int)) (i : Int) : Option (Unit ⊕ Unit) := whileO (fun s : Int => darninglaw05_RecordSplits_b1 rv4 rv5 s) i
def darninglaw05_RecordSplits (b : (List UInt8)) (fromv : Int) : Option Bool :=
 darninglaw05_alive >>= fun rv =>
 if (!rv) then (
  some false
 ) else (
  if (decide ((b.length : Int) > 3000)) then (
   some true
  ) else (
   record_Next b fromv >>= fun rv2 =>
   darningref05_Next b fromv >>= fun rv3 =>
   record_Split b >>= fun rv4 =>
   darningref05_Split b >>= fun rv5 =>
   if ((!(decide (rv2.1 = rv3.1))) || (((IntKind.i64.wrap rv2.2) != rv3.2) || ((rv4.2.1 != rv5.2.1) || (((IntKind.i64.wrap rv4.2.2) != rv5.2.2) || ((rv4.1.length : Int) != (rv5.1.length : Int)))))) then (
    some false
   ) else (
    darninglaw05_RecordSplits_l1 rv4 rv5 0 >>= fun q =>
    match q with
    | .inl u => (
     some true
    )
    | .inr u2 => (
     some false
    )
   )
  )
 )
theorem darninglaw05_RecordSplits_l1_inl {rv4 : ((List T_Number_Wire_From_At_To) × Int × Int)} {rv5 : ((List T_Number_Wire_From_At_To) × Int × Int)} {i : Int} {i' : Int} (h : darninglaw05_RecordSplits_b1 rv4 rv5 i = some (.inl i')) : darninglaw05_RecordSplits_l1 rv4 rv5 i = darninglaw05_RecordSplits_l1 rv4 rv5 i' := whileO_inl (body := fun s : Int => darninglaw05_RecordSplits_b1 rv4 rv5 s) h
theorem darninglaw05_RecordSplits_l1_inr {rv4 : ((List T_Number_Wire_From_At_To) × Int × Int)} {rv5 : ((List T_Number_Wire_From_At_To) × Int × Int)} {i : Int} {oo_ : (Unit ⊕ Unit)} (h : darninglaw05_RecordSplits_b1 rv4 rv5 i = some (.inr oo_)) : darninglaw05_RecordSplits_l1 rv4 rv5 i = some oo_ := whileO_inr (body := fun s : Int => darninglaw05_RecordSplits_b1 rv4 rv5 s) h
def record_piece (b : (List UInt8)) (fromv : Int) (tov : Int) : Option (List UInt8) :=
 if ((decide (fromv < 0)) || ((decide (fromv > tov)) || (decide (tov > (b.length : Int))))) then (
  some []
 ) else (
  cut b fromv tov >>= fun v2 =>
  slices_Concat___byte_byte_ ([v2] : (List (List UInt8))) >>= fun rv =>
  some rv
 )
def record_Value (b : (List UInt8)) (rv : T_Number_Wire_From_At_To) : Option (List UInt8) :=
 record_piece b rv.At rv.To >>= fun rv2 =>
 some rv2
def darninglaw05_RecordWhole_b1 (b : (List UInt8)) (rv2 : ((List T_Number_Wire_From_At_To) × Int × Int)) (atv : Int) (i : Int) : Option ((Int × Int) ⊕ (Int ⊕ Unit)) :=
 if (decide (i < (rv2.1.length : Int))) then (
  idx rv2.1 i >>= fun x =>
  if ((x.From != atv) || ((decide (x.At ≤ x.From)) || ((decide (x.To < x.At)) || (decide (x.To > (b.length : Int)))))) then (
   some (.inr (.inr ()))
  ) else (
   record_Value b x >>= fun rv3 =>
   record_Put ([] : (List UInt8)) x.Number x.Wire rv3 >>= fun rv4 =>
   record_Split rv4.1 >>= fun rv5 =>
   (
    if ((IntKind.i64.wrap rv4.2) != 0) then (
     some true
    ) else (
     if ((IntKind.i64.wrap rv5.2.2) != 0) then (
      some true
     ) else (
      if ((rv5.1.length : Int) != 1) then (
       some true
      ) else (
       idx rv5.1 0 >>= fun x2 =>
       if (x2.Number != x.Number) then (
        some true
       ) else (
        idx rv5.1 0 >>= fun x3 =>
        if (x3.Wire != x.Wire) then (
         some true
        ) else (
         idx rv5.1 0 >>= fun x4 =>
         record_Value rv4.1 x4 >>= fun rv6 =>
         record_Value b x >>= fun rv7 =>
         darningref01_Same rv6 rv7 >>= fun rv8 =>
         if (!rv8) then (
          some true
         ) else (
          some (decide ((rv4.1.length : Int) > (IntKind.i64.wrap (x.To - x.From))))
         )
        )
       )
      )
     )
    )
   ) >>= fun g =>
   if g then (
    some (.inr (.inr ()))
   ) else (
    some (.inl (x.To, (IntKind.i64.wrap (i + 1))))
   )
  )
 ) else (
  some (.inr (.inl atv))
 )
def darninglaw05_RecordWhole_l1 (b : (List UInt8)) (rv2 : ((List T_Number_Wire_From_At_To) × Int × Int)) (atv : Int) (i : Int) : Option (Int ⊕ Unit) := whileO (fun s : (Int × Int) => darninglaw05_RecordWhole_b1 b rv2 s.1 s.2) (atv, i)
def darninglaw05_RecordWhole (b : (List UInt8)) : Option Bool :=
 darninglaw05_alive >>= fun rv =>
 if (!rv) then (
  some false
 ) else (
  if (decide ((b.length : Int) > 3000)) then (
   some true
  ) else (
   record_Split b >>= fun rv2 =>
   if ((IntKind.i64.wrap rv2.2.2) != 0) then (
    some ((rv2.1.length : Int) == 0)
   ) else (
    darninglaw05_RecordWhole_l1 b rv2 0 0 >>= fun q =>
    match q with
    | .inl u => (
     some (u == (b.length : Int))
    )
    | .inr u2 => (
     some false
    )
   )
  )
 )
theorem darninglaw05_RecordWhole_l1_inl {b : (List UInt8)} {rv2 : ((List T_Number_Wire_From_At_To) × Int × Int)} {atv : Int} {i : Int} {atv' : Int} {i' : Int} (h : darninglaw05_RecordWhole_b1 b rv2 atv i = some (.inl (atv', i'))) : darninglaw05_RecordWhole_l1 b rv2 atv i = darninglaw05_RecordWhole_l1 b rv2 atv' i' := whileO_inl (body := fun s : (Int × Int) => darninglaw05_RecordWhole_b1 b rv2 s.1 s.2) h
theorem darninglaw05_RecordWhole_l1_inr {b : (List UInt8)} {rv2 : ((List T_Number_Wire_From_At_To) × Int × Int)} {atv : Int} {i : Int} {oo_ : (Int ⊕ Unit)} (h : darninglaw05_RecordWhole_b1 b rv2 atv i = some (.inr oo_)) : darninglaw05_RecordWhole_l1 b rv2 atv i = some oo_ := whileO_inr (body := fun s : (Int × Int) => darninglaw05_RecordWhole_b1 b rv2 s.1 s.2) h
end
end Go.Proofs.Ytnhnanbgphdaeaa
