/-
  What the Go functions of layer 2 do, as plain functions. No condition.
-/
import Derived.Test.YtnhnanbgphdaeaaS01
namespace Go.Proofs.Ytnhnanbgphdaeaa
open Go
set_option linter.unusedVariables false
noncomputable section
def varint_Read_b1 (v : (List UInt8)) (wv : Int) (v2 : Int) : Option ((Int × Int) ⊕ (Unit ⊕ (Int × Int × Int))) :=
 if (decide (v2 < (v.length : Int))) then (
  idx v v2 >>= fun x =>
  if ((v2 == 9) && (decide ((x.toNat : Int) > 1))) then (
   some (.inr (.inr (0, 0, 4)))
  ) else (
   shlO .u64 (IntKind.u64.wrap (andI .u8 (x.toNat : Int) 127)) (IntKind.i64.wrap (7 * v2)) >>= fun v4 =>
   if (decide ((x.toNat : Int) < 128)) then (
    some (.inr (.inr ((orI .u64 wv v4), (IntKind.i64.wrap (v2 + 1)), 0)))
   ) else (
    some (.inl ((orI .u64 wv v4), (IntKind.i64.wrap (v2 + 1))))
   )
  )
 ) else (
  some (.inr (.inl ()))
 )
def varint_Read_l1 (v : (List UInt8)) (wv : Int) (v2 : Int) : Option (Unit ⊕ (Int × Int × Int)) := whileO (fun s : (Int × Int) => varint_Read_b1 v s.1 s.2) (wv, v2)
def varint_Read (b : (List UInt8)) : Option (Int × Int × Int) :=
 cut b 0 (if (10 : Int) < (b.length : Int) then 10 else (b.length : Int)) >>= fun v =>
 varint_Read_l1 v 0 0 >>= fun q =>
 match q with
 | .inl u => (
  some (0, 0, 3)
 )
 | .inr u2 => (
  some (u2.1, u2.2.1, u2.2.2)
 )
theorem varint_Read_l1_inl {v : (List UInt8)} {wv : Int} {v2 : Int} {wv' : Int} {v2' : Int} (h : varint_Read_b1 v wv v2 = some (.inl (wv', v2'))) : varint_Read_l1 v wv v2 = varint_Read_l1 v wv' v2' := whileO_inl (body := fun s : (Int × Int) => varint_Read_b1 v s.1 s.2) h
theorem varint_Read_l1_inr {v : (List UInt8)} {wv : Int} {v2 : Int} {oo_ : (Unit ⊕ (Int × Int × Int))} (h : varint_Read_b1 v wv v2 = some (.inr oo_)) : varint_Read_l1 v wv v2 = some oo_ := whileO_inr (body := fun s : (Int × Int) => varint_Read_b1 v s.1 s.2) h
def varint_Minimal (b : (List UInt8)) : Option Bool :=
 varint_Read b >>= fun rv =>
 (
  if (rv.2.2 == 0) then (
   if (rv.2.1 == (b.length : Int)) then (
    if (rv.2.1 == 1) then (
     some true
    ) else (
     idx b (IntKind.i64.wrap (rv.2.1 - 1)) >>= fun x =>
     some ((x.toNat : Int) != 0)
    )
   ) else (
    some false
   )
  ) else (
   some false
  )
 ) >>= fun g =>
 some g
def darninglaw02_alive  : Option Bool :=
 varint_Read ([(128 : UInt8), (1 : UInt8)] : List UInt8) >>= fun rv =>
 (
  if (rv.1 == 128) then (
   if (rv.2.1 == 2) then (
    if ((IntKind.i64.wrap rv.2.2) == 0) then (
     varint_Minimal ([(128 : UInt8), (0 : UInt8)] : List UInt8) >>= fun rv2 =>
     if (!rv2) then (
      varint_Minimal ([(0 : UInt8)] : List UInt8) >>= fun rv3 =>
      some rv3
     ) else (
      some false
     )
    ) else (
     some false
    )
   ) else (
    some false
   )
  ) else (
   some false
  )
 ) >>= fun g =>
 some g
def varint_Put_b1  (wv2 : Int) (l : (List UInt8)) : Option ((Int × (List UInt8)) ⊕ (Int × (List UInt8))) :=
 if (decide (wv2 ≥ 128)) then (
  byteO (orI .u8 (IntKind.u8.wrap wv2) 128) >>= fun y =>
  app 1 l ([y] : List UInt8) >>= fun v3 =>
  some (.inl ((shrI .u64 wv2 7), v3))
 ) else (
  some (.inr (wv2, l))
 )
def varint_Put_l1  (wv2 : Int) (l : (List UInt8)) : Option (Int × (List UInt8)) := whileO (fun s : (Int × (List UInt8)) => varint_Put_b1 s.1 s.2) (wv2, l)
def varint_Put (b : (List UInt8)) (wv : Int) : Option (List UInt8) :=
 bits_Len wv >>= fun rv =>
 mkO 1 (0 : UInt8) 0 (IntKind.i64.wrap ((b.length : Int) + rv)) >>= fun v =>
 app 1 v b >>= fun v2 =>
 varint_Put_l1 wv v2 >>= fun q =>
 byteO (IntKind.u8.wrap q.1) >>= fun y2 =>
 app 1 q.2 ([y2] : List UInt8) >>= fun v4 =>
 some v4
theorem varint_Put_l1_inl  {wv2 : Int} {l : (List UInt8)} {wv2' : Int} {l' : (List UInt8)} (h : varint_Put_b1 wv2 l = some (.inl (wv2', l'))) : varint_Put_l1 wv2 l = varint_Put_l1 wv2' l' := whileO_inl (body := fun s : (Int × (List UInt8)) => varint_Put_b1 s.1 s.2) h
theorem varint_Put_l1_inr  {wv2 : Int} {l : (List UInt8)} {oo_ : (Int × (List UInt8))} (h : varint_Put_b1 wv2 l = some (.inr oo_)) : varint_Put_l1 wv2 l = some oo_ := whileO_inr (body := fun s : (Int × (List UInt8)) => varint_Put_b1 s.1 s.2) h
def darninglaw02_VarintBack (wv : Int) (more : (List UInt8)) : Option Bool :=
 darninglaw02_alive >>= fun rv =>
 if (!rv) then (
  some false
 ) else (
  if (decide ((more.length : Int) > 2000)) then (
   some true
  ) else (
   varint_Put ([] : (List UInt8)) wv >>= fun rv2 =>
   app 1 ([] : (List UInt8)) rv2 >>= fun v =>
   app 1 v more >>= fun v2 =>
   varint_Read v2 >>= fun rv3 =>
   (
    if (rv3.1 != wv) then (
     some true
    ) else (
     if (rv3.2.1 != (rv2.length : Int)) then (
      some true
     ) else (
      if ((IntKind.i64.wrap rv3.2.2) != 0) then (
       some true
      ) else (
       varint_Minimal rv2 >>= fun rv4 =>
       if (!rv4) then (
        some true
       ) else (
        bits_Len wv >>= fun rv5 =>
        some ((rv2.length : Int) != rv5)
       )
      )
     )
    )
   ) >>= fun g =>
   if g then (
    some false
   ) else (
    cut rv2 0 (IntKind.i64.wrap ((rv2.length : Int) - 1)) >>= fun v4 =>
    varint_Read v4 >>= fun rv6 =>
    some ((IntKind.i64.wrap rv6.2.2) == 3)
   )
  )
 )
def varint_All_b1  (b2 : (List UInt8)) (l : (List Int)) : Option (((List UInt8) × (List Int)) ⊕ ((List Int) ⊕ Int)) :=
 if (decide ((b2.length : Int) > 0)) then (
  varint_Read b2 >>= fun rv =>
  if (rv.2.2 != 0) then (
   some (.inr (.inr rv.2.2))
  ) else (
   app 8 l ([rv.1] : (List Int)) >>= fun v2 =>
   cut b2 rv.2.1 (b2.length : Int) >>= fun v3 =>
   some (.inl (v3, v2))
  )
 ) else (
  some (.inr (.inl l))
 )
def varint_All_l1  (b2 : (List UInt8)) (l : (List Int)) : Option ((List Int) ⊕ Int) := whileO (fun s : ((List UInt8) × (List Int)) => varint_All_b1 s.1 s.2) (b2, l)
def varint_All (b : (List UInt8)) : Option ((List Int) × Int) :=
 varint_All_l1 b [] >>= fun q =>
 match q with
 | .inl u => (
  some (u, 0)
 )
 | .inr u2 => (
  some ([], u2)
 )
theorem varint_All_l1_inl  {b2 : (List UInt8)} {l : (List Int)} {b2' : (List UInt8)} {l' : (List Int)} (h : varint_All_b1 b2 l = some (.inl (b2', l'))) : varint_All_l1 b2 l = varint_All_l1 b2' l' := whileO_inl (body := fun s : ((List UInt8) × (List Int)) => varint_All_b1 s.1 s.2) h
theorem varint_All_l1_inr  {b2 : (List UInt8)} {l : (List Int)} {oo_ : ((List Int) ⊕ Int)} (h : varint_All_b1 b2 l = some (.inr oo_)) : varint_All_l1 b2 l = some oo_ := whileO_inr (body := fun s : ((List UInt8) × (List Int)) => varint_All_b1 s.1 s.2) h
def darningref02_Same_b1 (av : (List Int)) (b : (List Int)) (i : Int) : Option (Int ⊕ (Unit ⊕ Unit)) :=
 if (decide (i < (av.length : Int))) then (
  idx av i >>= fun x =>
  idx b i >>= fun x2 =>
  if (x != x2) then (
   some (.inr (.inr ()))
  ) else (
   some (.inl (IntKind.i64.wrap (i + 1)))
  )
 ) else (
  some (.inr (.inl ()))
 )
def darningref02_Same_l1 (av : (List Int)) (b : (List Int)) (i : Int) : Option (Unit ⊕ Unit) := whileO (fun s : Int => darningref02_Same_b1 av b s) i
def darningref02_Same (av : (List Int)) (b : (List Int)) : Option Bool :=
 if ((av.length : Int) != (b.length : Int)) then (
  some false
 ) else (
  darningref02_Same_l1 av b 0 >>= fun q =>
  match q with
  | .inl u => (
   some true
  )
  | .inr u2 => (
   some false
  )
 )
theorem darningref02_Same_l1_inl {av : (List Int)} {b : (List Int)} {i : Int} {i' : Int} (h : darningref02_Same_b1 av b i = some (.inl i')) : darningref02_Same_l1 av b i = darningref02_Same_l1 av b i' := whileO_inl (body := fun s : Int => darningref02_Same_b1 av b s) h
theorem darningref02_Same_l1_inr {av : (List Int)} {b : (List Int)} {i : Int} {oo_ : (Unit ⊕ Unit)} (h : darningref02_Same_b1 av b i = some (.inr oo_)) : darningref02_Same_l1 av b i = some oo_ := whileO_inr (body := fun s : Int => darningref02_Same_b1 av b s) h
def darninglaw02_VarintList_b1 (l : (List Int)) (b : (List UInt8)) (i : Int) : Option (((List UInt8) × Int) ⊕ (List UInt8)) :=
 if (decide (i < (l.length : Int))) then (
  idx l i >>= fun x =>
  varint_Put b x >>= fun rv2 =>
  some (.inl (rv2, (IntKind.i64.wrap (i + 1))))
 ) else (
  some (.inr b)
 )
def darninglaw02_VarintList_l1 (l : (List Int)) (b : (List UInt8)) (i : Int) : Option (List UInt8) := whileO (fun s : ((List UInt8) × Int) => darninglaw02_VarintList_b1 l s.1 s.2) (b, i)
def darninglaw02_VarintList (l : (List Int)) : Option Bool :=
 darninglaw02_alive >>= fun rv =>
 if (!rv) then (
  some false
 ) else (
  if (decide ((l.length : Int) > 300)) then (
   some true
  ) else (
   darninglaw02_VarintList_l1 l [] 0 >>= fun q =>
   varint_All q >>= fun rv3 =>
   (
    if ((IntKind.i64.wrap rv3.2) != 0) then (
     some true
    ) else (
     darningref02_Same rv3.1 l >>= fun rv4 =>
     some (!rv4)
    )
   ) >>= fun g =>
   if g then (
    some false
   ) else (
    (
     if ((l.length : Int) == 0) then (
      some true
     ) else (
      idx l (IntKind.i64.wrap ((l.length : Int) - 1)) >>= fun x2 =>
      some (decide (x2 < 128))
     )
    ) >>= fun g2 =>
    if g2 then (
     some true
    ) else (
     cut q 0 (IntKind.i64.wrap ((q.length : Int) - 1)) >>= fun v3 =>
     varint_All v3 >>= fun rv5 =>
     some ((IntKind.i64.wrap rv5.2) == 3)
    )
   )
  )
 )
theorem darninglaw02_VarintList_l1_inl {l : (List Int)} {b : (List UInt8)} {i : Int} {b' : (List UInt8)} {i' : Int} (h : darninglaw02_VarintList_b1 l b i = some (.inl (b', i'))) : darninglaw02_VarintList_l1 l b i = darninglaw02_VarintList_l1 l b' i' := whileO_inl (body := fun s : ((List UInt8) × Int) => darninglaw02_VarintList_b1 l s.1 s.2) h
theorem darninglaw02_VarintList_l1_inr {l : (List Int)} {b : (List UInt8)} {i : Int} {oo_ : (List UInt8)} (h : darninglaw02_VarintList_b1 l b i = some (.inr oo_)) : darninglaw02_VarintList_l1 l b i = some oo_ := whileO_inr (body := fun s : ((List UInt8) × Int) => darninglaw02_VarintList_b1 l s.1 s.2) h
def darningref02_Put_f (rec_darningref02_Put : Int → Option (List UInt8)) (wv : Int) : Option (List UInt8) :=
 if (decide (wv < 128)) then (
  byteO (IntKind.u8.wrap wv) >>= fun y =>
  some ([y] : List UInt8)
 ) else (
  byteO (IntKind.u8.wrap (IntKind.u64.wrap (128 + (Int.tmod wv 128)))) >>= fun y2 =>
  rec_darningref02_Put (IntKind.u64.wrap (Int.tdiv wv 128)) >>= fun rv =>
  app 1 ([y2] : List UInt8) rv >>= fun v =>
  some v
 )
def darningref02_Put : Nat → Int → Option (List UInt8)
  | 0, _ => none
  | fuel + 1, wv => darningref02_Put_f (darningref02_Put fuel) wv
def darninglaw02_VarintPuts (fuel : Nat) (b : (List UInt8)) (wv : Int) : Option Bool :=
 darninglaw02_alive >>= fun rv =>
 if (!rv) then (
  some false
 ) else (
  if (decide ((b.length : Int) > 2000)) then (
   some true
  ) else (
   app 1 ([] : (List UInt8)) b >>= fun v =>
   varint_Put b wv >>= fun rv2 =>
   (
    app 1 ([] : (List UInt8)) v >>= fun v2 =>
    darningref02_Put fuel wv >>= fun rv3 =>
    app 1 v2 rv3 >>= fun v3 =>
    darningref01_Same rv2 v3 >>= fun rv4 =>
    if rv4 then (
     darningref01_Same b v >>= fun rv5 =>
     some rv5
    ) else (
     some false
    )
   ) >>= fun g =>
   some g
  )
 )
def darningref02_Read_b1 (atv : Int) (b : (List UInt8)) (n : Int) : Option (Int ⊕ Int) :=
 (
  if (decide ((IntKind.i64.wrap (atv + n)) < (b.length : Int))) then (
   if (decide (n < 10)) then (
    idx b (IntKind.i64.wrap (atv + n)) >>= fun x =>
    some (decide ((x.toNat : Int) ≥ 128))
   ) else (
    some false
   )
  ) else (
   some false
  )
 ) >>= fun g =>
 if g then (
  some (.inl (IntKind.i64.wrap (n + 1)))
 ) else (
  some (.inr n)
 )
def darningref02_Read_l1 (atv : Int) (b : (List UInt8)) (n : Int) : Option Int := whileO (fun s : Int => darningref02_Read_b1 atv b s) n
def darningref02_Read_b2 (atv : Int) (b : (List UInt8)) (wv : Int) (i : Int) : Option ((Int × Int) ⊕ Int) :=
 if (decide (i ≥ 0)) then (
  idx b (IntKind.i64.wrap (atv + i)) >>= fun x3 =>
  some (.inl ((IntKind.u64.wrap ((IntKind.u64.wrap (128 * wv)) + (IntKind.u64.wrap (Int.tmod (x3.toNat : Int) 128)))), (IntKind.i64.wrap (i - 1))))
 ) else (
  some (.inr wv)
 )
def darningref02_Read_l2 (atv : Int) (b : (List UInt8)) (wv : Int) (i : Int) : Option Int := whileO (fun s : (Int × Int) => darningref02_Read_b2 atv b s.1 s.2) (wv, i)
def darningref02_Read (b : (List UInt8)) (atv : Int) : Option (Int × Int × Int) :=
 darningref02_Read_l1 atv b 0 >>= fun q =>
 if (q == 10) then (
  some (0, 0, 4)
 ) else (
  if ((IntKind.i64.wrap (atv + q)) == (b.length : Int)) then (
   some (0, 0, 3)
  ) else (
   (
    if (q == 9) then (
     idx b (IntKind.i64.wrap (atv + q)) >>= fun x2 =>
     some (decide ((x2.toNat : Int) > 1))
    ) else (
     some false
    )
   ) >>= fun g2 =>
   if g2 then (
    some (0, 0, 4)
   ) else (
    darningref02_Read_l2 atv b 0 q >>= fun q2 =>
    some (q2, (IntKind.i64.wrap (q + 1)), 0)
   )
  )
 )
theorem darningref02_Read_l1_inl {atv : Int} {b : (List UInt8)} {n : Int} {n' : Int} (h : darningref02_Read_b1 atv b n = some (.inl n')) : darningref02_Read_l1 atv b n = darningref02_Read_l1 atv b n' := whileO_inl (body := fun s : Int => darningref02_Read_b1 atv b s) h
theorem darningref02_Read_l1_inr {atv : Int} {b : (List UInt8)} {n : Int} {oo_ : Int} (h : darningref02_Read_b1 atv b n = some (.inr oo_)) : darningref02_Read_l1 atv b n = some oo_ := whileO_inr (body := fun s : Int => darningref02_Read_b1 atv b s) h
theorem darningref02_Read_l2_inl {atv : Int} {b : (List UInt8)} {wv : Int} {i : Int} {wv' : Int} {i' : Int} (h : darningref02_Read_b2 atv b wv i = some (.inl (wv', i'))) : darningref02_Read_l2 atv b wv i = darningref02_Read_l2 atv b wv' i' := whileO_inl (body := fun s : (Int × Int) => darningref02_Read_b2 atv b s.1 s.2) h
theorem darningref02_Read_l2_inr {atv : Int} {b : (List UInt8)} {wv : Int} {i : Int} {oo_ : Int} (h : darningref02_Read_b2 atv b wv i = some (.inr oo_)) : darningref02_Read_l2 atv b wv i = some oo_ := whileO_inr (body := fun s : (Int × Int) => darningref02_Read_b2 atv b s.1 s.2) h
def varint_Skip (b : (List UInt8)) : Option (Int × Int) :=
 varint_Read b >>= fun rv =>
 some (rv.2.1, rv.2.2)
def darningref02_All_b1 (b : (List UInt8)) (out : (List Int)) (atv : Int) : Option (((List Int) × Int) ⊕ ((List Int) ⊕ Int)) :=
 if (decide (atv < (b.length : Int))) then (
  darningref02_Read b atv >>= fun rv =>
  if (rv.2.2 != 0) then (
   some (.inr (.inr rv.2.2))
  ) else (
   app 8 out ([rv.1] : (List Int)) >>= fun v2 =>
   some (.inl (v2, (IntKind.i64.wrap (atv + rv.2.1))))
  )
 ) else (
  some (.inr (.inl out))
 )
def darningref02_All_l1 (b : (List UInt8)) (out : (List Int)) (atv : Int) : Option ((List Int) ⊕ Int) := whileO (fun s : ((List Int) × Int) => darningref02_All_b1 b s.1 s.2) (out, atv)
def darningref02_All (b : (List UInt8)) : Option ((List Int) × Int) :=
 darningref02_All_l1 b [] 0 >>= fun q =>
 match q with
 | .inl u => (
  some (u, 0)
 )
 | .inr u2 => (
  some ([], u2)
 )
theorem darningref02_All_l1_inl {b : (List UInt8)} {out : (List Int)} {atv : Int} {out' : (List Int)} {atv' : Int} (h : darningref02_All_b1 b out atv = some (.inl (out', atv'))) : darningref02_All_l1 b out atv = darningref02_All_l1 b out' atv' := whileO_inl (body := fun s : ((List Int) × Int) => darningref02_All_b1 b s.1 s.2) h
theorem darningref02_All_l1_inr {b : (List UInt8)} {out : (List Int)} {atv : Int} {oo_ : ((List Int) ⊕ Int)} (h : darningref02_All_b1 b out atv = some (.inr oo_)) : darningref02_All_l1 b out atv = some oo_ := whileO_inr (body := fun s : ((List Int) × Int) => darningref02_All_b1 b s.1 s.2) h
def darninglaw02_VarintReads (fuel : Nat) (b : (List UInt8)) : Option Bool :=
 darninglaw02_alive >>= fun rv =>
 if (!rv) then (
  some false
 ) else (
  if (decide ((b.length : Int) > 2000)) then (
   some true
  ) else (
   varint_Read b >>= fun rv2 =>
   darningref02_Read b 0 >>= fun rv3 =>
   varint_Skip b >>= fun rv4 =>
   varint_All b >>= fun rv5 =>
   darningref02_All b >>= fun rv6 =>
   (
    if (rv3.2.2 == 0) then (
     if (rv3.2.1 == (b.length : Int)) then (
      darningref02_Put fuel rv3.1 >>= fun rv7 =>
      darningref01_Same b rv7 >>= fun rv8 =>
      some rv8
     ) else (
      some false
     )
    ) else (
     some false
    )
   ) >>= fun g =>
   (
    if (rv2.1 == rv3.1) then (
     if (rv2.2.1 == rv3.2.1) then (
      if ((IntKind.i64.wrap rv2.2.2) == rv3.2.2) then (
       if (rv4.1 == rv3.2.1) then (
        if ((IntKind.i64.wrap rv4.2) == rv3.2.2) then (
         if ((IntKind.i64.wrap rv5.2) == rv6.2) then (
          darningref02_Same rv5.1 rv6.1 >>= fun rv9 =>
          if rv9 then (
           varint_Minimal b >>= fun rv10 =>
           some (rv10 == g)
          ) else (
           some false
          )
         ) else (
          some false
         )
        ) else (
         some false
        )
       ) else (
        some false
       )
      ) else (
       some false
      )
     ) else (
      some false
     )
    ) else (
     some false
    )
   ) >>= fun g2 =>
   some g2
  )
 )
end
end Go.Proofs.Ytnhnanbgphdaeaa
