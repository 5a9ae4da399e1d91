/-
  What the Go functions do, as plain functions. No condition.
-/
import Derived.Test.YtcbkcblkecmjnaaGreatx4K2
namespace Go.Proofs.YtcbkcblkecmjnaaGreat
open Go
set_option linter.unusedVariables false
abbrev Str:=List UInt8
structure zEY where
  a0:Str
  a1:Str
  a2:Str
  a3:Str
  a4:Str
  a5:Str
  a6:Str
  a7:Str
  a8:Str
  a9:Str
  a10:Str
  a11:Str
  a12:Str
  a13:Str
  a14:Str deriving DecidableEq
structure zx where
  Number:Int
  Wire:Int
  From:Int
  At:Int
  To:Int deriving DecidableEq
def zaB:Rp zx:=⟨5,true,fun x=>[.int .i64 x.Number,.int .i64 x.Wire,.int .i64 x.From,.int .i64 x.At,.int .i64 x.To],fun _=>rfl,by decide⟩
structure zg where
  Record:zx
  Field:Int
  Run:Bool deriving DecidableEq
def zh:Rp zg:=⟨7,true,fun x=>[.int .i64 x.Record.Number,.int .i64 x.Record.Wire,.int .i64 x.Record.From,.int .i64 x.Record.At,.int .i64 x.Record.To,.int .i64 x.Field,.bool x.Run],fun _=>rfl,by decide⟩
structure zw where
  name:Str
  wire:Int deriving DecidableEq
def zC:Rp zw:=⟨2,true,fun x=>[.str x.name,.int .i64 x.wire],fun _=>rfl,by decide⟩
structure zc where
  Name:Str
  Number:Int
  Kind:Int
  Repeated:Bool
  Packed:Bool
  Of:Int deriving DecidableEq
def zd:Rp zc:=⟨6,true,fun x=>[.str x.Name,.int .i64 x.Number,.int .i64 x.Kind,.bool x.Repeated,.bool x.Packed,.int .i64 x.Of],fun _=>rfl,by decide⟩
mutual
structure ze where
  Values:(List zb)
  Unknown:(List Str)
structure zb where
  Number:Int
  Words:(List Int)
  Texts:(List Str)
  Subs:(List ze)
end
mutual
def zeR:ze→List LV
  | ⟨x0,x1⟩=>[.sl x0.length 4 (zcd x0),.sl x1.length Rp.str.size (x1.flatMap Rp.str.lv)]
def zex:List ze→List LV
  | []=>[]
  | x::l=>zeR x++zex l
def zcp:zb→List LV
  | ⟨x0,x1,x2,x3⟩=>[.int .i64 x0,.sl x1.length (Rp.int .u64).size (x1.flatMap (Rp.int .u64).lv),.sl x2.length Rp.str.size (x2.flatMap Rp.str.lv),.sl x3.length 2 (zex x3)]
def zcd:List zb→List LV
  | []=>[]
  | x::l=>zcp x++zcd l
end
theorem zmN (l:List ze):zex l=l.flatMap zeR:=by
  induction l with
  | nil=>rfl
  | cons x l ih=>rw [zex,ih,List.flatMap_cons]
def zf:Rp ze:=⟨2,true,zeR,fun x=>by cases x;rfl,by decide⟩
theorem zhX (l:List zb):zcd l=l.flatMap zcp:=by
  induction l with
  | nil=>rfl
  | cons x l ih=>rw [zcd,ih,List.flatMap_cons]
def za:Rp zb:=⟨4,true,zcp,fun x=>by cases x;rfl,by decide⟩
theorem zE (x:ze):zf.lv x=[.sl x.Values.length za.size (x.Values.flatMap za.lv),.sl x.Unknown.length Rp.str.size (x.Unknown.flatMap Rp.str.lv)]:=by
  cases x;simp only [zf,zeR,zhX,za]<;>rfl
theorem zG (x:zb):za.lv x=[.int .i64 x.Number,.sl x.Words.length (Rp.int .u64).size (x.Words.flatMap (Rp.int .u64).lv),.sl x.Texts.length Rp.str.size (x.Texts.flatMap Rp.str.lv),.sl x.Subs.length zf.size (x.Subs.flatMap zf.lv)]:=by
  cases x;simp only [za,zcp,zmN,zf]<;>rfl
structure zi where
  Name:Str
  Fields:(List zc) deriving DecidableEq
def zj:Rp zi:=⟨2,true,fun x=>[.str x.Name,.sl x.Fields.length zd.size (x.Fields.flatMap zd.lv)],fun _=>rfl,by decide⟩
structure zaY where
  Number:Int
  Wire:Int deriving DecidableEq
def zdU:Rp zaY:=⟨2,true,fun x=>[.int .i64 x.Number,.int .i64 x.Wire],fun _=>rfl,by decide⟩
structure zn where
  message:Int
  name:Str deriving DecidableEq
def zr:Rp zn:=⟨2,true,fun x=>[.int .i64 x.message,.str x.name],fun _=>rfl,by decide⟩
structure zo where
  message:Int
  number:Int deriving DecidableEq
def zq:Rp zo:=⟨2,true,fun x=>[.int .i64 x.message,.int .i64 x.number],fun _=>rfl,by decide⟩
structure zaD where
  size:Int
  kinds:(List Int)
  names:(List (zn×Bool))
  numbers:(List (zo×Bool))
structure zaP where
  Message:Int
  Field:Int
  What:Int deriving DecidableEq
def zcP:Rp zaP:=⟨3,true,fun x=>[.int .i64 x.Message,.int .i64 x.Field,.int .i64 x.What],fun _=>rfl,by decide⟩
structure zM where
  number:Int
  wire:Int deriving DecidableEq
def zT:Rp zM:=⟨2,true,fun x=>[.int .i64 x.number,.int .i64 x.wire],fun _=>rfl,by decide⟩
structure zQ where
  field:Int
  run:Bool
  e:Int deriving DecidableEq
def zV:Rp zQ:=⟨3,true,fun x=>[.int .i64 x.field,.bool x.run,.int .u8 x.e],fun _=>rfl,by decide⟩
structure zsp where
  R:zx
  Field:Int
  Run:Bool deriving DecidableEq
structure zm where
  message:Int
  number:Int
  wire:Int deriving DecidableEq
def zk:Rp zm:=⟨3,true,fun x=>[.int .i64 x.message,.int .i64 x.number,.int .i64 x.wire],fun _=>rfl,by decide⟩
structure zas where
  s:(List zi)
  b:(List UInt8)
  met:(List (zm×zg))
structure zz where
  depth:Int
  place:Int
  e:Int deriving DecidableEq
def zay:Rp zz:=⟨3,true,fun x=>[.int .i64 x.depth,.int .i64 x.place,.int .u8 x.e],fun _=>rfl,by decide⟩
structure zEZ where
  a0:Int
  a1:Int deriving DecidableEq
end Go.Proofs.YtcbkcblkecmjnaaGreat
namespace Go.Proofs.YtcbkcblkecmjnaaGreat
open Go
set_option linter.unusedVariables false
noncomputable section
def zbc (sv:(List ze)):Option (List ze):=
 nilO sv (
  some []
 ) (
  app 48 ([]:(List ze)) sv>>=fun v=>
  some v
 )
def zaH (sv:(List zb)):Option (List zb):=
 nilO sv (
  some []
 ) (
  app 80 ([]:(List zb)) sv>>=fun v=>
  some v
 )
def zbT (n:Int):Option (List UInt8):=
 if (decide (n<0)) then (
  none
 ) else (
  if (decide ((IntKind.i64.wrap (n - (IntKind.i64.wrap (0 - 0))))>0)) then (
   mkO 1 (0:UInt8) (IntKind.i64.wrap (n - (IntKind.i64.wrap (0 - 0)))) (IntKind.i64.wrap (n - (IntKind.i64.wrap (0 - 0))))>>=fun v=>
   cut v 0 0>>=fun v2=>
   some v2
  ) else (
   some []
  )
 )
def zak (slices:(List (List UInt8))) (size:Int) (v:Int):Option ((Int×Int)⊕Int):=
 if (decide (v<(slices.length:Int))) then (
  idx slices v>>=fun x=>
  if (decide ((IntKind.i64.wrap (size+(x.length:Int)))<0)) then (
   none
  ) else (
   some (.inl ((IntKind.i64.wrap (size+(x.length:Int))),(IntKind.i64.wrap (v+1))))
  )
 ) else (
  some (.inr size)
 )
def zaU (slices:(List (List UInt8))) (size:Int) (v:Int):Option Int:=zaF (fun s:(Int×Int)=>zak slices s.1 s.2) (size,v)
def zal (slices:(List (List UInt8))) (newslice:(List UInt8)) (v2:Int):Option (((List UInt8)×Int)⊕(List UInt8)):=
 if (decide (v2<(slices.length:Int))) then (
  idx slices v2>>=fun x2=>
  app 1 newslice x2>>=fun v3=>
  some (.inl (v3,(IntKind.i64.wrap (v2+1))))
 ) else (
  some (.inr newslice)
 )
def zaV (slices:(List (List UInt8))) (newslice:(List UInt8)) (v2:Int):Option (List UInt8):=zaF (fun s:((List UInt8)×Int)=>zal slices s.1 s.2) (newslice,v2)
def zbI (slices:(List (List UInt8))):Option (List UInt8):=
 zaU slices 0 0>>=fun q=>
 zbT q>>=fun rv=>
 zaV slices rv 0>>=fun q2=>
 some q2
theorem zgg {slices:(List (List UInt8))} {size:Int} {v:Int} {size':Int} {v':Int} (h:zak slices size v=some (.inl (size',v'))):zaU slices size v=zaU slices size' v':=zag (body:=fun s:(Int×Int)=>zak slices s.1 s.2) h
theorem zgh {slices:(List (List UInt8))} {size:Int} {v:Int} {oo_:Int} (h:zak slices size v=some (.inr oo_)):zaU slices size v=some oo_:=zah (body:=fun s:(Int×Int)=>zak slices s.1 s.2) h
theorem zgi {slices:(List (List UInt8))} {newslice:(List UInt8)} {v2:Int} {newslice':(List UInt8)} {v2':Int} (h:zal slices newslice v2=some (.inl (newslice',v2'))):zaV slices newslice v2=zaV slices newslice' v2':=zag (body:=fun s:((List UInt8)×Int)=>zal slices s.1 s.2) h
theorem zgj {slices:(List (List UInt8))} {newslice:(List UInt8)} {v2:Int} {oo_:(List UInt8)} (h:zal slices newslice v2=some (.inr oo_)):zaV slices newslice v2=some oo_:=zah (body:=fun s:((List UInt8)×Int)=>zal slices s.1 s.2) h
def zao (sv:(List Int)) (v:Int) (v2:Int):Option (Int⊕(Unit⊕Int)):=
 if (decide (v2<(sv.length:Int))) then (
  idx sv v2>>=fun x=>
  if (v==x) then (
   some (.inr (.inr v2))
  ) else (
   some (.inl (IntKind.i64.wrap (v2+1)))
  )
 ) else (
  some (.inr (.inl ()))
 )
def zbp (sv:(List Int)) (v:Int) (v2:Int):Option (Unit⊕Int):=zaF (fun s:Int=>zao sv v s) v2
def zca (sv:(List Int)) (v:Int):Option Int:=
 zbp sv v 0>>=fun q=>
 match q with
 | .inl u=>(
  some (-1)
 )
 | .inr u2=>(
  some u2
 )
theorem zgX {sv:(List Int)} {v:Int} {v2:Int} {v2':Int} (h:zao sv v v2=some (.inl v2')):zbp sv v v2=zbp sv v v2':=zag (body:=fun s:Int=>zao sv v s) h
theorem zei {sv:(List Int)} {v:Int} {v2:Int} {oo_:(Unit⊕Int)} (h:zao sv v v2=some (.inr oo_)):zbp sv v v2=some oo_:=zah (body:=fun s:Int=>zao sv v s) h
def zbJ (sv:(List Int)) (v:Int):Option Bool:=
 zca sv v>>=fun rv=>
 some (decide (rv≥0))
def zaT (sv:(List Str)):Option (List Str):=
 nilO sv (
  some []
 ) (
  app 16 ([]:(List Str)) sv>>=fun v=>
  some v
 )
def zbu (sv:(List Int)):Option (List Int):=
 nilO sv (
  some []
 ) (
  app 8 ([]:(List Int)) sv>>=fun v=>
  some v
 )
def zad (s1:(List Int)) (s2:(List Int)) (v:Int):Option (Int⊕(Unit⊕Unit)):=
 if (decide (v<(s1.length:Int))) then (
  idx s1 v>>=fun x=>
  idx s2 v>>=fun x2=>
  if (x !=x2) then (
   some (.inr (.inr ()))
  ) else (
   some (.inl (IntKind.i64.wrap (v+1)))
  )
 ) else (
  some (.inr (.inl ()))
 )
def zaJ (s1:(List Int)) (s2:(List Int)) (v:Int):Option (Unit⊕Unit):=zaF (fun s:Int=>zad s1 s2 s) v
def zbv (s1:(List Int)) (s2:(List Int)):Option Bool:=
 if ((s1.length:Int) !=(s2.length:Int)) then (
  some false
 ) else (
  zaJ s1 s2 0>>=fun q=>
  match q with
  | .inl u=>(
   some true
  )
  | .inr u2=>(
   some false
  )
 )
theorem zfw {s1:(List Int)} {s2:(List Int)} {v:Int} {v':Int} (h:zad s1 s2 v=some (.inl v')):zaJ s1 s2 v=zaJ s1 s2 v':=zag (body:=fun s:Int=>zad s1 s2 s) h
theorem zde {s1:(List Int)} {s2:(List Int)} {v:Int} {oo_:(Unit⊕Unit)} (h:zad s1 s2 v=some (.inr oo_)):zaJ s1 s2 v=some oo_:=zah (body:=fun s:Int=>zad s1 s2 s) h
def zac (s1:(List Str)) (s2:(List Str)) (v:Int):Option (Int⊕(Unit⊕Unit)):=
 if (decide (v<(s1.length:Int))) then (
  idx s1 v>>=fun x=>
  idx s2 v>>=fun x2=>
  if (!(x==x2)) then (
   some (.inr (.inr ()))
  ) else (
   some (.inl (IntKind.i64.wrap (v+1)))
  )
 ) else (
  some (.inr (.inl ()))
 )
def zaI (s1:(List Str)) (s2:(List Str)) (v:Int):Option (Unit⊕Unit):=zaF (fun s:Int=>zac s1 s2 s) v
def zaW (s1:(List Str)) (s2:(List Str)):Option Bool:=
 if ((s1.length:Int) !=(s2.length:Int)) then (
  some false
 ) else (
  zaI s1 s2 0>>=fun q=>
  match q with
  | .inl u=>(
   some true
  )
  | .inr u2=>(
   some false
  )
 )
theorem zfv {s1:(List Str)} {s2:(List Str)} {v:Int} {v':Int} (h:zac s1 s2 v=some (.inl v')):zaI s1 s2 v=zaI s1 s2 v':=zag (body:=fun s:Int=>zac s1 s2 s) h
theorem zdd {s1:(List Str)} {s2:(List Str)} {v:Int} {oo_:(Unit⊕Unit)} (h:zac s1 s2 v=some (.inr oo_)):zaI s1 s2 v=some oo_:=zah (body:=fun s:Int=>zac s1 s2 s) h
end
end Go.Proofs.YtcbkcblkecmjnaaGreat
namespace Go.Proofs.YtcbkcblkecmjnaaGreat
open Go
set_option linter.unusedVariables false
noncomputable section
def zdk (wv2:Int) (n:Int):Option ((Int×Int)⊕Int):=
 if (wv2 !=0) then (
  some (.inl ((shrI .u64 wv2 7),(IntKind.i64.wrap (n+1))))
 ) else (
  some (.inr n)
 )
def zfS (wv2:Int) (n:Int):Option Int:=zaF (fun s:(Int×Int)=>zdk s.1 s.2) (wv2,n)
def zkY (wv:Int):Option Int:=
 zfS (shrI .u64 wv 7) 1>>=fun q=>
 some q
theorem zpP {wv2:Int} {n:Int} {wv2':Int} {n':Int} (h:zdk wv2 n=some (.inl (wv2',n'))):zfS wv2 n=zfS wv2' n':=zag (body:=fun s:(Int×Int)=>zdk s.1 s.2) h
theorem zpQ {wv2:Int} {n:Int} {oo_:Int} (h:zdk wv2 n=some (.inr oo_)):zfS wv2 n=some oo_:=zah (body:=fun s:(Int×Int)=>zdk s.1 s.2) h
def zgL (wv:Int):Option Int:=
 some (IntKind.u32.wrap wv)
def zhl (wv:Int):Option Int:=
 zgL wv>>=fun rv=>
 some (IntKind.i32.wrap rv)
def zhm (n:Int):Option Int:=
 some (IntKind.u64.wrap (IntKind.i64.wrap n))
def zcJ (v:(List UInt8)) (wv:Int) (v2:Int):Option ((Int×Int)⊕Int):=
 if (decide (v2<(v.length:Int))) then (
  idx v v2>>=fun x=>
  shlO .u64 (IntKind.u64.wrap (x.toNat:Int)) (IntKind.i64.wrap (8*v2))>>=fun v3=>
  some (.inl ((orI .u64 wv v3),(IntKind.i64.wrap (v2+1))))
 ) else (
  some (.inr wv)
 )
def zfj (v:(List UInt8)) (wv:Int) (v2:Int):Option Int:=zaF (fun s:(Int×Int)=>zcJ v s.1 s.2) (wv,v2)
def zjr (b:(List UInt8)):Option Int:=
 cut b 0 (if (8:Int)<(b.length:Int) then 8 else (b.length:Int))>>=fun v=>
 zfj v 0 0>>=fun q=>
 some q
theorem zow {v:(List UInt8)} {wv:Int} {v2:Int} {wv':Int} {v2':Int} (h:zcJ v wv v2=some (.inl (wv',v2'))):zfj v wv v2=zfj v wv' v2':=zag (body:=fun s:(Int×Int)=>zcJ v s.1 s.2) h
theorem zox {v:(List UInt8)} {wv:Int} {v2:Int} {oo_:Int} (h:zcJ v wv v2=some (.inr oo_)):zfj v wv v2=some oo_:=zah (body:=fun s:(Int×Int)=>zcJ v s.1 s.2) h
end
end Go.Proofs.YtcbkcblkecmjnaaGreat
namespace Go.Proofs.YtcbkcblkecmjnaaGreat
open Go
set_option linter.unusedVariables false
noncomputable section
def zbK (v:(List UInt8)) (wv:Int) (v2:Int):Option ((Int×Int)⊕(Unit⊕(Int×Int×Int))):=
 if (decide (v2<(v.length:Int))) then (
  idx v v2>>=fun x=>
  if ((v2==9)&&(decide ((x.toNat:Int)>1))) then (
   some (.inr (.inr (0,0,4)))
  ) else (
   shlO .u64 (IntKind.u64.wrap (andI .u8 (x.toNat:Int) 127)) (IntKind.i64.wrap (7*v2))>>=fun v4=>
   if (decide ((x.toNat:Int)<128)) then (
    some (.inr (.inr ((orI .u64 wv v4),(IntKind.i64.wrap (v2+1)),0)))
   ) else (
    some (.inl ((orI .u64 wv v4),(IntKind.i64.wrap (v2+1))))
   )
  )
 ) else (
  some (.inr (.inl ()))
 )
def zep (v:(List UInt8)) (wv:Int) (v2:Int):Option (Unit⊕(Int×Int×Int)):=zaF (fun s:(Int×Int)=>zbK v s.1 s.2) (wv,v2)
def zeu (b:(List UInt8)):Option (Int×Int×Int):=
 cut b 0 (if (10:Int)<(b.length:Int) then 10 else (b.length:Int))>>=fun v=>
 zep v 0 0>>=fun q=>
 match q with
 | .inl u=>(
  some (0,0,3)
 )
 | .inr u2=>(
  some (u2.1,u2.2.1,u2.2.2)
 )
theorem zng {v:(List UInt8)} {wv:Int} {v2:Int} {wv':Int} {v2':Int} (h:zbK v wv v2=some (.inl (wv',v2'))):zep v wv v2=zep v wv' v2':=zag (body:=fun s:(Int×Int)=>zbK v s.1 s.2) h
theorem zfR {v:(List UInt8)} {wv:Int} {v2:Int} {oo_:(Unit⊕(Int×Int×Int))} (h:zbK v wv v2=some (.inr oo_)):zep v wv v2=some oo_:=zah (body:=fun s:(Int×Int)=>zbK v s.1 s.2) h
def zaE (av:(List Int)) (b:(List Int)) (i:Int):Option (Int⊕(Unit⊕Unit)):=
 if (decide (i<(av.length:Int))) then (
  idx av i>>=fun x=>
  idx b i>>=fun x2=>
  if (x !=x2) then (
   some (.inr (.inr ()))
  ) else (
   some (.inl (IntKind.i64.wrap (i+1)))
  )
 ) else (
  some (.inr (.inl ()))
 )
def zbt (av:(List Int)) (b:(List Int)) (i:Int):Option (Unit⊕Unit):=zaF (fun s:Int=>zaE av b s) i
def zbP (av:(List Int)) (b:(List Int)):Option Bool:=
 if ((av.length:Int) !=(b.length:Int)) then (
  some false
 ) else (
  zbt av b 0>>=fun q=>
  match q with
  | .inl u=>(
   some true
  )
  | .inr u2=>(
   some false
  )
 )
theorem zjb {av:(List Int)} {b:(List Int)} {i:Int} {i':Int} (h:zaE av b i=some (.inl i')):zbt av b i=zbt av b i':=zag (body:=fun s:Int=>zaE av b s) h
theorem zfx {av:(List Int)} {b:(List Int)} {i:Int} {oo_:(Unit⊕Unit)} (h:zaE av b i=some (.inr oo_)):zbt av b i=some oo_:=zah (body:=fun s:Int=>zaE av b s) h
def zge (b:(List UInt8)):Option (Int×Int):=
 zeu b>>=fun rv=>
 some (rv.2.1,rv.2.2)
end
end Go.Proofs.YtcbkcblkecmjnaaGreat
namespace Go.Proofs.YtcbkcblkecmjnaaGreat
open Go
set_option linter.unusedVariables false
noncomputable section
def zfE (wire:Int):Option Bool:=
 if (wire==0) then (
  if (wire==0) then (
   some true
  ) else (
   some false
  )
 ) else (
  if (wire==1) then (
   if (wire==1) then (
    some true
   ) else (
    some false
   )
  ) else (
   if (wire==2) then (
    if (wire==2) then (
     some true
    ) else (
     some false
    )
   ) else (
    if (wire==5) then (
     some true
    ) else (
     some false
    )
   )
  )
 )
def zjQ (t:zaY):Option Bool:=
 (
  if (decide (t.Number≥1)) then (
   if (decide (t.Number≤536870911)) then (
    zfE t.Wire>>=fun rv=>
    some rv
   ) else (
    some false
   )
  ) else (
   some false
  )
 )>>=fun g=>
 some g
def zlD (b:(List UInt8)):Option (zaY×Int×Int):=
 zeu b>>=fun rv=>
 if (rv.2.2 !=0) then (
  some ((⟨0,0⟩:zaY),0,rv.2.2)
 ) else (
  zjQ (⟨(IntKind.i64.wrap (if (536870912:Int)<(shrI .u64 rv.1 3) then 536870912 else (shrI .u64 rv.1 3))),(IntKind.i64.wrap (andI .u64 rv.1 7))⟩:zaY)>>=fun rv2=>
  if (!rv2) then (
   some ((⟨0,0⟩:zaY),0,5)
  ) else (
   some ((⟨(IntKind.i64.wrap (if (536870912:Int)<(shrI .u64 rv.1 3) then 536870912 else (shrI .u64 rv.1 3))),(IntKind.i64.wrap (andI .u64 rv.1 7))⟩:zaY),rv.2.1,0)
  )
 )
end
end Go.Proofs.YtcbkcblkecmjnaaGreat
namespace Go.Proofs.YtcbkcblkecmjnaaGreat
open Go
set_option linter.unusedVariables false
noncomputable section
def zom (c:Int):Option (Int×Int):=
 if ((shrI .u8 c 7)==0) then (
  some (1,(IntKind.u32.wrap c))
 ) else (
  if ((shrI .u8 c 5)==6) then (
   some (2,(IntKind.u32.wrap (andI .u8 c 31)))
  ) else (
   if ((shrI .u8 c 4)==14) then (
    some (3,(IntKind.u32.wrap (andI .u8 c 15)))
   ) else (
    if ((shrI .u8 c 3)==30) then (
     some (4,(IntKind.u32.wrap (andI .u8 c 7)))
    ) else (
     some (0,0)
    )
   )
  )
 )
def zkb (wv:Int):Option Int:=
 if ((shrI .u32 wv 7)==0) then (
  some 1
 ) else (
  if ((shrI .u32 wv 11)==0) then (
   some 2
  ) else (
   if ((shrI .u32 wv 11)==27) then (
    some 0
   ) else (
    if ((shrI .u32 wv 16)==0) then (
     some 3
    ) else (
     if (decide (wv≤1114111)) then (
      some 4
     ) else (
      some 0
     )
    )
   )
  )
 )
def zcV (v2:(List UInt8)) (wv:Int) (v3:Int):Option ((Int×Int)⊕(Int⊕Unit)):=
 if (decide (v3<(v2.length:Int))) then (
  idx v2 v3>>=fun x2=>
  if ((shrI .u8 (x2.toNat:Int) 6) !=2) then (
   some (.inr (.inr ()))
  ) else (
   some (.inl ((orI .u32 (shlI .u32 wv 6) (IntKind.u32.wrap (andI .u8 (x2.toNat:Int) 63))),(IntKind.i64.wrap (v3+1))))
  )
 ) else (
  some (.inr (.inl wv))
 )
def zbS (v2:(List UInt8)) (wv:Int) (v3:Int):Option (Int⊕Unit):=zaF (fun s:(Int×Int)=>zcV v2 s.1 s.2) (wv,v3)
def zka (b:(List UInt8)):Option Int:=
 if ((b.length:Int)==0) then (
  some 0
 ) else (
  idx b 0>>=fun x=>
  zom (x.toNat:Int)>>=fun rv=>
  if ((rv.1==0)|| (decide (rv.1>(b.length:Int)))) then (
   some 0
  ) else (
   cut b 1 rv.1>>=fun v2=>
   zbS v2 rv.2 0>>=fun q=>
   match q with
   | .inl u=>(
    zkb u>>=fun rv2=>
    if (rv.1 !=rv2) then (
     some 0
    ) else (
     some rv.1
    )
   )
   | .inr u2=>(
    some 0
   )
  )
 )
theorem zpY {v2:(List UInt8)} {wv:Int} {v3:Int} {wv':Int} {v3':Int} (h:zcV v2 wv v3=some (.inl (wv',v3'))):zbS v2 wv v3=zbS v2 wv' v3':=zag (body:=fun s:(Int×Int)=>zcV v2 s.1 s.2) h
theorem zkJ {v2:(List UInt8)} {wv:Int} {v3:Int} {oo_:(Int⊕Unit)} (h:zcV v2 wv v3=some (.inr oo_)):zbS v2 wv v3=some oo_:=zah (body:=fun s:(Int×Int)=>zcV v2 s.1 s.2) h
def zdm (b:(List UInt8)) (atv:Int) (points:Int) (size:Int):Option ((Int×Int×Int)⊕(Int×Int)):=
 if (decide (size>0)) then (
  cut b (IntKind.i64.wrap (atv+size)) (b.length:Int)>>=fun v=>
  zka v>>=fun rv2=>
  some (.inl ((IntKind.i64.wrap (atv+size)),(IntKind.i64.wrap (points+1)),rv2))
 ) else (
  some (.inr (atv,points))
 )
def zfg (b:(List UInt8)) (atv:Int) (points:Int) (size:Int):Option (Int×Int):=zaF (fun s:(Int×Int×Int)=>zdm b s.1 s.2.1 s.2.2) (atv,points,size)
def zlJ (b:(List UInt8)):Option (Int×Int):=
 zka b>>=fun rv=>
 zfg b 0 0 rv>>=fun q=>
 some (q.1,q.2)
theorem zpZ {b:(List UInt8)} {atv:Int} {points:Int} {size:Int} {atv':Int} {points':Int} {size':Int} (h:zdm b atv points size=some (.inl (atv',points',size'))):zfg b atv points size=zfg b atv' points' size':=zag (body:=fun s:(Int×Int×Int)=>zdm b s.1 s.2.1 s.2.2) h
theorem zqa {b:(List UInt8)} {atv:Int} {points:Int} {size:Int} {oo_:(Int×Int)} (h:zdm b atv points size=some (.inr oo_)):zfg b atv points size=some oo_:=zah (body:=fun s:(Int×Int×Int)=>zdm b s.1 s.2.1 s.2.2) h
def zjZ (b:(List UInt8)):Option Int:=
 zlJ b>>=fun rv=>
 some rv.1
def zhc (b:(List UInt8)):Option Bool:=
 zjZ b>>=fun rv=>
 some (rv==(b.length:Int))
end
end Go.Proofs.YtcbkcblkecmjnaaGreat
namespace Go.Proofs.YtcbkcblkecmjnaaGreat
open Go
set_option linter.unusedVariables false
noncomputable section
def zhv (wire:Int) (b:(List UInt8)):Option (Int×Int×Int):=
 if (wire==0) then (
  zge b>>=fun rv=>
  some (0,rv.1,rv.2)
 ) else (
  ((
   if (wire==1) then (
    some (0,0,8)
   ) else (
    if (wire==5) then (
     some (0,0,4)
    ) else (
     if (wire==2) then (
      zeu b>>=fun rv2=>
      some (rv2.2.1,rv2.2.2,rv2.1)
     ) else (
      some (0,0,0)
     )
    )
   )
   :Option (Int×Int×Int)))>>=fun p=>
  if (p.2.1 !=0) then (
   some (0,0,p.2.1)
  ) else (
   if (decide (p.2.2>(IntKind.u64.wrap (IntKind.i64.wrap ((b.length:Int) - p.1))))) then (
    some (0,0,3)
   ) else (
    some (p.1,(IntKind.i64.wrap (p.1+(IntKind.i64.wrap p.2.2))),0)
   )
  )
 )
def zfb (b:(List UInt8)) (fromv:Int):Option (zx×Int):=
 if ((decide (fromv<0))|| (decide (fromv≥(b.length:Int)))) then (
  some ((⟨0,0,0,0,0⟩:zx),2)
 ) else (
  cut b fromv (b.length:Int)>>=fun v2=>
  zlD v2>>=fun rv=>
  if (rv.2.2 !=0) then (
   some ((⟨0,0,0,0,0⟩:zx),rv.2.2)
  ) else (
   cut b (IntKind.i64.wrap (fromv+rv.2.1)) (b.length:Int)>>=fun v3=>
   zhv rv.1.Wire v3>>=fun rv2=>
   if (rv2.2.2 !=0) then (
    some ((⟨0,0,0,0,0⟩:zx),rv2.2.2)
   ) else (
    some ((⟨rv.1.Number,rv.1.Wire,fromv,(IntKind.i64.wrap ((IntKind.i64.wrap (fromv+rv.2.1))+rv2.1)),(IntKind.i64.wrap ((IntKind.i64.wrap (fromv+rv.2.1))+rv2.2.1))⟩:zx),0)
   )
  )
 )
end
end Go.Proofs.YtcbkcblkecmjnaaGreat
namespace Go.Proofs.YtcbkcblkecmjnaaGreat
open Go
set_option linter.unusedVariables false
noncomputable section
def zki (wv:Int):Option Int:=
 some (if (1:Int)<wv then 1 else wv)
def zfM (k:Int) (wv:Int):Option (Int×Int):=
 ((
  if (k==1) then (
   some (k==1)
  ) else (
   some (k==8)
  )
  :Option Bool))>>=fun p=>
 if p then (
  zhl wv>>=fun rv=>
  zhm rv>>=fun rv2=>
  some (rv2,0)
 ) else (
  ((
   if (k==3) then (
    some (k==3)
   ) else (
    if (k==5) then (
     some (k==5)
    ) else (
     if (k==9) then (
      some (k==9)
     ) else (
      if (k==10) then (
       some (k==10)
      ) else (
       some (k==11)
      )
     )
    )
   )
   :Option Bool))>>=fun p2=>
  if p2 then (
   zgL wv>>=fun rv3=>
   some ((IntKind.u64.wrap rv3),0)
  ) else (
   if (k==7) then (
    zki wv>>=fun rv4=>
    some (rv4,0)
   ) else (
    ((
     if (k==2) then (
      some (k==2)
     ) else (
      if (k==4) then (
       some (k==4)
      ) else (
       if (k==6) then (
        some (k==6)
       ) else (
        if (k==12) then (
         some (k==12)
        ) else (
         if (k==13) then (
          some (k==13)
         ) else (
          some (k==14)
         )
        )
       )
      )
     )
     :Option Bool))>>=fun p3=>
    if p3 then (
     some (wv,0)
    ) else (
     some (0,2)
    )
   )
  )
 )
def zir:Option (List (Int×zw)):=
 some (mput (mput (mput (mput (mput (mput (mput (mput (mput (mput (mput (mput (mput (mput (mput (mput (mput ([]:(List (Int×zw))) 1 (⟨[105,110,116,51,50],0⟩:zw)) 2 (⟨[105,110,116,54,52],0⟩:zw)) 3 (⟨[117,105,110,116,51,50],0⟩:zw)) 4 (⟨[117,105,110,116,54,52],0⟩:zw)) 5 (⟨[115,105,110,116,51,50],0⟩:zw)) 6 (⟨[115,105,110,116,54,52],0⟩:zw)) 7 (⟨[98,111,111,108],0⟩:zw)) 8 (⟨[101,110,117,109],0⟩:zw)) 9 (⟨[102,105,120,101,100,51,50],5⟩:zw)) 10 (⟨[115,102,105,120,101,100,51,50],5⟩:zw)) 11 (⟨[102,108,111,97,116],5⟩:zw)) 12 (⟨[102,105,120,101,100,54,52],1⟩:zw)) 13 (⟨[115,102,105,120,101,100,54,52],1⟩:zw)) 14 (⟨[100,111,117,98,108,101],1⟩:zw)) 15 (⟨[115,116,114,105,110,103],2⟩:zw)) 16 (⟨[98,121,116,101,115],2⟩:zw)) 17 (⟨[109,101,115,115,97,103,101],2⟩:zw))
def zli:Option (List Int):=
 zir>>=fun rv=>
 zny rv>>=fun v=>
 some v
def zid (k:Int):Option (Int×Int):=
 zir>>=fun rv=>
 if (!(mget rv k).isSome) then (
  some (0,2)
 ) else (
  some (((mget rv k).getD (⟨[],0⟩:zw)).wire,0)
 )
def zfW (k:Int):Option Bool:=
 zid k>>=fun rv=>
 some ((rv.2==0)&&(rv.1 !=2))
end
end Go.Proofs.YtcbkcblkecmjnaaGreat
namespace Go.Proofs.YtcbkcblkecmjnaaGreat
open Go
set_option linter.unusedVariables false
noncomputable section
def zeh (c:Int):Option Bool:=
 some ((decide (c≥48))&&(decide (c≤57)))
def zeA (c:Int):Option Bool:=
 some (if (decide (c≥97)) then ((decide (c≤122))|| (if (decide (c≥65)) then ((decide (c≤90))|| (c==95)) else (c==95))) else (if (decide (c≥65)) then ((decide (c≤90))|| (c==95)) else (c==95)))
def zbo (name:Str) (v2:Int):Option (Int⊕(Unit⊕Unit)):=
 if (decide (v2<(name.length:Int))) then (
  (
   idx name v2>>=fun c2=>
   zeA (c2.toNat:Int)>>=fun rv2=>
   if (!rv2) then (
    idx name v2>>=fun c3=>
    zeh (c3.toNat:Int)>>=fun rv3=>
    some (!rv3)
   ) else (
    some false
   )
  )>>=fun g2=>
  if g2 then (
   some (.inr (.inr ()))
  ) else (
   some (.inl (IntKind.i64.wrap (v2+1)))
  )
 ) else (
  some (.inr (.inl ()))
 )
def zdn (name:Str) (v2:Int):Option (Unit⊕Unit):=zaF (fun s:Int=>zbo name s) v2
def zeJ (name:Str):Option Bool:=
 (
  if (name==[]) then (
   some true
  ) else (
   if (decide ((name.length:Int)>60)) then (
    some true
   ) else (
    idx name 0>>=fun c=>
    zeh (c.toNat:Int)>>=fun rv=>
    some rv
   )
  )
 )>>=fun g=>
 if g then (
  some false
 ) else (
  zdn name 0>>=fun q=>
  match q with
  | .inl u=>(
   some true
  )
  | .inr u2=>(
   some false
  )
 )
theorem zlA {name:Str} {v2:Int} {v2':Int} (h:zbo name v2=some (.inl v2')):zdn name v2=zdn name v2':=zag (body:=fun s:Int=>zbo name s) h
theorem zhz {name:Str} {v2:Int} {oo_:(Unit⊕Unit)} (h:zbo name v2=some (.inr oo_)):zdn name v2=some oo_:=zah (body:=fun s:Int=>zbo name s) h
def zeC (n:Int):Option Bool:=
 some ((decide (n≥1))&&((decide (n≤536870911))&&((decide (n<19000))|| (decide (n>19999)))))
def zfc (f:zc):Option Bool:=
 (
  if f.Repeated then (
   zfW f.Kind>>=fun rv=>
   some rv
  ) else (
   some false
  )
 )>>=fun g=>
 some g
def zdu (c:zaD) (f:zc):Option Bool:=
 if (f.Kind==17) then (
  some ((decide (f.Of≥0))&&(decide (f.Of<c.size)))
 ) else (
  some (f.Of==0)
 )
def zdt (c:zaD) (message:Int) (f:zc):Option (Int×(List (zn×Bool))×(List (zo×Bool))):=
 zeJ f.Name>>=fun rv=>
 if (!rv) then (
  some (5,c.names,c.numbers)
 ) else (
  if ((mget c.names (⟨message,f.Name⟩:zn)).getD false) then (
   some (6,c.names,c.numbers)
  ) else (
   zeC f.Number>>=fun rv2=>
   if (!rv2) then (
    some (7,c.names,c.numbers)
   ) else (
    if ((mget c.numbers (⟨message,f.Number⟩:zo)).getD false) then (
     some (8,c.names,c.numbers)
    ) else (
     zbJ c.kinds f.Kind>>=fun rv3=>
     if (!rv3) then (
      some (9,c.names,c.numbers)
     ) else (
      (
       if f.Packed then (
        zfc f>>=fun rv4=>
        some (!rv4)
       ) else (
        some false
       )
      )>>=fun g=>
      if g then (
       some (10,c.names,c.numbers)
      ) else (
       zdu c f>>=fun rv5=>
       if (!rv5) then (
        some (11,c.names,c.numbers)
       ) else (
        some (0,(mput c.names (⟨message,f.Name⟩:zn) true),(mput c.numbers (⟨message,f.Number⟩:zo) true))
       )
      )
     )
    )
   )
  )
 )
def zcS (c:zaD) (m:zi):Option (Int×(List (zn×Bool))×(List (zo×Bool))):=
 zeJ m.Name>>=fun rv=>
 if (!rv) then (
  some (2,c.names,c.numbers)
 ) else (
  if ((mget c.names (⟨(-1),m.Name⟩:zn)).getD false) then (
   some (3,c.names,c.numbers)
  ) else (
   if (decide ((m.Fields.length:Int)>200)) then (
    some (4,c.names,c.numbers)
   ) else (
    some (0,(mput c.names (⟨(-1),m.Name⟩:zn) true),c.numbers)
   )
  )
 )
def zba (i:Int) (sv:(List zi)) (n3:Int) (k:Int):Option ((Int×Int)⊕Int):=
 idx sv i>>=fun x3=>
 if (decide (k<(x3.Fields.length:Int))) then (
  idx sv i>>=fun x4=>
  idx x4.Fields k>>=fun x5=>
  some (.inl ((IntKind.i64.wrap (n3+(IntKind.i64.wrap (Int.tdiv (x5.Name.length:Int) 100)))),(IntKind.i64.wrap (k+1))))
 ) else (
  some (.inr n3)
 )
def zcu (i:Int) (sv:(List zi)) (n3:Int) (k:Int):Option Int:=zaF (fun s:(Int×Int)=>zba i sv s.1 s.2) (n3,k)
def zaZ (sv:(List zi)) (n:Int) (i:Int):Option ((Int×Int)⊕Int):=
 if (decide (i<(sv.length:Int))) then (
  idx sv i>>=fun x=>
  idx sv i>>=fun x2=>
  zcu i sv (IntKind.i64.wrap ((IntKind.i64.wrap ((IntKind.i64.wrap (n+1))+(IntKind.i64.wrap (Int.tdiv (x.Name.length:Int) 100))))+(x2.Fields.length:Int))) 0>>=fun q=>
  some (.inl (q,(IntKind.i64.wrap (i+1))))
 ) else (
  some (.inr n)
 )
def zct (sv:(List zi)) (n:Int) (i:Int):Option Int:=zaF (fun s:(Int×Int)=>zaZ sv s.1 s.2) (n,i)
def zee (sv:(List zi)):Option Bool:=
 zct sv 0 0>>=fun q2=>
 some (decide (q2≤500))
theorem zju {i:Int} {sv:(List zi)} {n3:Int} {k:Int} {n3':Int} {k':Int} (h:zba i sv n3 k=some (.inl (n3',k'))):zcu i sv n3 k=zcu i sv n3' k':=zag (body:=fun s:(Int×Int)=>zba i sv s.1 s.2) h
theorem zjv {i:Int} {sv:(List zi)} {n3:Int} {k:Int} {oo_:Int} (h:zba i sv n3 k=some (.inr oo_)):zcu i sv n3 k=some oo_:=zah (body:=fun s:(Int×Int)=>zba i sv s.1 s.2) h
theorem zjs {sv:(List zi)} {n:Int} {i:Int} {n':Int} {i':Int} (h:zaZ sv n i=some (.inl (n',i'))):zct sv n i=zct sv n' i':=zag (body:=fun s:(Int×Int)=>zaZ sv s.1 s.2) h
theorem zjt {sv:(List zi)} {n:Int} {i:Int} {oo_:Int} (h:zaZ sv n i=some (.inr oo_)):zct sv n i=some oo_:=zah (body:=fun s:(Int×Int)=>zaZ sv s.1 s.2) h
def zbn (rv:(List Int)) (sv:(List zi)) (v2:Int) (x:zi) (v3:Int) (f6:(List (zn×Bool))) (f7:(List (zo×Bool))):Option ((Int×(List (zn×Bool))×(List (zo×Bool)))⊕(((List (zn×Bool))×(List (zo×Bool)))⊕(Int×Int))):=
 if (decide (v3<(x.Fields.length:Int))) then (
  idx x.Fields v3>>=fun x2=>
  zdt (⟨(sv.length:Int),rv,f6,f7⟩:zaD) v2 x2>>=fun rv5=>
  if (rv5.1 !=0) then (
   some (.inr (.inr (v3,rv5.1)))
  ) else (
   some (.inl ((IntKind.i64.wrap (v3+1)),rv5.2.1,rv5.2.2))
  )
 ) else (
  some (.inr (.inl (f6,f7)))
 )
def zcA (rv:(List Int)) (sv:(List zi)) (v2:Int) (x:zi) (v3:Int) (f6:(List (zn×Bool))) (f7:(List (zo×Bool))):Option (((List (zn×Bool))×(List (zo×Bool)))⊕(Int×Int)):=zaF (fun s:(Int×(List (zn×Bool))×(List (zo×Bool)))=>zbn rv sv v2 x s.1 s.2.1 s.2.2) (v3,f6,f7)
def zaL (rv:(List Int)) (sv:(List zi)) (v2:Int) (f:(List (zn×Bool))) (f2:(List (zo×Bool))):Option ((Int×(List (zn×Bool))×(List (zo×Bool)))⊕(Unit⊕(Int×Int×Int))):=
 if (decide (v2<(sv.length:Int))) then (
  idx sv v2>>=fun x=>
  zcS (⟨(sv.length:Int),rv,f,f2⟩:zaD) x>>=fun rv3=>
  if (rv3.1 !=0) then (
   some (.inr (.inr (v2,(-1),rv3.1)))
  ) else (
   zcA rv sv v2 x 0 rv3.2.1 rv3.2.2>>=fun q=>
   match q with
   | .inl u=>(
    some (.inl ((IntKind.i64.wrap (v2+1)),u.1,u.2))
   )
   | .inr u2=>(
    some (.inr (.inr (v2,u2.1,u2.2)))
   )
  )
 ) else (
  some (.inr (.inl ()))
 )
def zdG (rv:(List Int)) (sv:(List zi)) (v2:Int) (f:(List (zn×Bool))) (f2:(List (zo×Bool))):Option (Unit⊕(Int×Int×Int)):=zaF (fun s:(Int×(List (zn×Bool))×(List (zo×Bool)))=>zaL rv sv s.1 s.2.1 s.2.2) (v2,f,f2)
def zgv (sv:(List zi)):Option (zaP×Int):=
 if ((decide ((sv.length:Int)<1))|| (decide ((sv.length:Int)>100))) then (
  some ((⟨(-1),(-1),1⟩:zaP),9)
 ) else (
  zli>>=fun rv=>
  zdG rv sv 0 ([]:(List (zn×Bool))) ([]:(List (zo×Bool)))>>=fun q2=>
  match q2 with
  | .inl u3=>(
   some ((⟨0,0,0⟩:zaP),0)
  )
  | .inr u4=>(
   some ((⟨u4.1,u4.2.1,u4.2.2⟩:zaP),9)
  )
 )
theorem zmn {rv:(List Int)} {sv:(List zi)} {v2:Int} {x:zi} {v3:Int} {f6:(List (zn×Bool))} {f7:(List (zo×Bool))} {v3':Int} {f6':(List (zn×Bool))} {f7':(List (zo×Bool))} (h:zbn rv sv v2 x v3 f6 f7=some (.inl (v3',f6',f7'))):zcA rv sv v2 x v3 f6 f7=zcA rv sv v2 x v3' f6' f7':=zag (body:=fun s:(Int×(List (zn×Bool))×(List (zo×Bool)))=>zbn rv sv v2 x s.1 s.2.1 s.2.2) h
theorem zhR {rv:(List Int)} {sv:(List zi)} {v2:Int} {x:zi} {v3:Int} {f6:(List (zn×Bool))} {f7:(List (zo×Bool))} {oo_:(((List (zn×Bool))×(List (zo×Bool)))⊕(Int×Int))} (h:zbn rv sv v2 x v3 f6 f7=some (.inr oo_)):zcA rv sv v2 x v3 f6 f7=some oo_:=zah (body:=fun s:(Int×(List (zn×Bool))×(List (zo×Bool)))=>zbn rv sv v2 x s.1 s.2.1 s.2.2) h
theorem zmm {rv:(List Int)} {sv:(List zi)} {v2:Int} {f:(List (zn×Bool))} {f2:(List (zo×Bool))} {v2':Int} {f':(List (zn×Bool))} {f2':(List (zo×Bool))} (h:zaL rv sv v2 f f2=some (.inl (v2',f',f2'))):zdG rv sv v2 f f2=zdG rv sv v2' f' f2':=zag (body:=fun s:(Int×(List (zn×Bool))×(List (zo×Bool)))=>zaL rv sv s.1 s.2.1 s.2.2) h
theorem zdc {rv:(List Int)} {sv:(List zi)} {v2:Int} {f:(List (zn×Bool))} {f2:(List (zo×Bool))} {oo_:(Unit⊕(Int×Int×Int))} (h:zaL rv sv v2 f f2=some (.inr oo_)):zdG rv sv v2 f f2=some oo_:=zah (body:=fun s:(Int×(List (zn×Bool))×(List (zo×Bool)))=>zaL rv sv s.1 s.2.1 s.2.2) h
def zgw (sv:(List zi)):Option Bool:=
 zgv sv>>=fun rv=>
 some (rv.2==0)
def zdO (f:zc) (v:Int):Option Bool:=
 some (f.Number==v)
def zB (sv:(List zc)) (v:Int) (v2:Int):Option (Int⊕(Unit⊕Int)):=
 if (decide (v2<(sv.length:Int))) then (
  idx sv v2>>=fun x=>
  zdO x v>>=fun rv=>
  if rv then (
   some (.inr (.inr v2))
  ) else (
   some (.inl (IntKind.i64.wrap (v2+1)))
  )
 ) else (
  some (.inr (.inl ()))
 )
def zR (sv:(List zc)) (v:Int) (v2:Int):Option (Unit⊕Int):=zaF (fun s:Int=>zB sv v s) v2
def zaq (sv:(List zc)) (v:Int):Option Int:=
 zR sv v 0>>=fun q=>
 match q with
 | .inl u=>(
  some (-1)
 )
 | .inr u2=>(
  some u2
 )
theorem zbZ {sv:(List zc)} {v:Int} {v2:Int} {v2':Int} (h:zB sv v v2=some (.inl v2')):zR sv v v2=zR sv v v2':=zag (body:=fun s:Int=>zB sv v s) h
theorem zaX {sv:(List zc)} {v:Int} {v2:Int} {oo_:(Unit⊕Int)} (h:zB sv v v2=some (.inr oo_)):zR sv v v2=some oo_:=zah (body:=fun s:Int=>zB sv v s) h
def zbG (m:zi) (v:Int):Option (Int×Bool):=
 zaq m.Fields v>>=fun rv=>
 some ((if rv<0 then 0 else rv),(decide (rv≥0)))
def zdF (m:zi) (number:Int):Option (Int×Bool):=
 zbG m number>>=fun rv=>
 some (rv.1,rv.2)
end
end Go.Proofs.YtcbkcblkecmjnaaGreat
namespace Go.Proofs.YtcbkcblkecmjnaaGreat
open Go
set_option linter.unusedVariables false
noncomputable section
def zfl (k:Int):Option (Int×Int):=
 ((
  if (k==1) then (
   some (k==1)
  ) else (
   if (k==2) then (
    some (k==2)
   ) else (
    if (k==3) then (
     some (k==3)
    ) else (
     if (k==4) then (
      some (k==4)
     ) else (
      if (k==5) then (
       some (k==5)
      ) else (
       if (k==6) then (
        some (k==6)
       ) else (
        if (k==7) then (
         some (k==7)
        ) else (
         some (k==8)
        )
       )
      )
     )
    )
   )
  )
  :Option Bool))>>=fun p=>
 if p then (
  some (0,0)
 ) else (
  ((
   if (k==9) then (
    some (k==9)
   ) else (
    if (k==10) then (
     some (k==10)
    ) else (
     some (k==11)
    )
   )
   :Option Bool))>>=fun p2=>
  if p2 then (
   some (4,0)
  ) else (
   if (k==12) then (
    if (k==12) then (
     some (8,0)
    ) else (
     some (0,2)
    )
   ) else (
    if (k==13) then (
     if (k==13) then (
      some (8,0)
     ) else (
      some (0,2)
     )
    ) else (
     if (k==14) then (
      some (8,0)
     ) else (
      some (0,2)
     )
    )
   )
  )
 )
def zgu (b:(List UInt8)):Option (Int×Int):=
 zeu b>>=fun rv=>
 if ((rv.2.2 !=0)|| (rv.2.1 !=(b.length:Int))) then (
  some (0,12)
 ) else (
  some (rv.1,0)
 )
def zgt (k:Int) (b:(List UInt8)):Option (Int×Int):=
 zfl k>>=fun rv=>
 if (rv.2 !=0) then (
  some (0,rv.2)
 ) else (
  if (rv.1==0) then (
   zgu b>>=fun rv2=>
   some (rv2.1,rv2.2)
  ) else (
   if (rv.1 !=(b.length:Int)) then (
    some (0,12)
   ) else (
    zjr b>>=fun rv3=>
    some (rv3,0)
   )
  )
 )
def zhx (k:Int) (b:(List UInt8)):Option (Int×Int):=
 zgt k b>>=fun rv=>
 if (rv.2 !=0) then (
  some (0,rv.2)
 ) else (
  zfM k rv.1>>=fun rv2=>
  some (rv2.1,rv2.2)
 )
def zhy (k:Int) (wv:Int):Option Int:=
 zfl k>>=fun rv=>
 if ((rv.2 !=0)|| (rv.1 !=0)) then (
  some rv.1
 ) else (
  zfM k wv>>=fun rv2=>
  zkY rv2.1>>=fun rv3=>
  some rv3
 )
end
end Go.Proofs.YtcbkcblkecmjnaaGreat
namespace Go.Proofs.YtcbkcblkecmjnaaGreat
open Go
set_option linter.unusedVariables false
noncomputable section
def zjN (k:Int):Option Int:=
 zhy k 0>>=fun rv=>
 some rv
def zjM (wide:Int) (b:(List UInt8)):Option (Int×Int):=
 if (wide==1) then (
  zge b>>=fun rv=>
  some (rv.1,rv.2)
 ) else (
  if (decide (wide>(b.length:Int))) then (
   some (0,3)
  ) else (
   some (wide,0)
  )
 )
def zbm {σ:Type} (kf:(Rnd σ ((List UInt8)×Int))) (rv:Int) (rest:(List UInt8)) (sg2:σ):Option (((List UInt8)×σ)⊕(σ⊕σ)):=
 if (decide ((rest.length:Int)>0)) then (
  zjM rv rest>>=fun rv2=>
  cut rest 0 rv2.1>>=fun v3=>
  kf sg2 (v3,rv2.2)>>=fun y2=>
  if ((!y2.1)|| (rv2.2 !=0)) then (
   some (.inr (.inr y2.2))
  ) else (
   cut rest rv2.1 (rest.length:Int)>>=fun v5=>
   some (.inl (v5,y2.2))
  )
 ) else (
  some (.inr (.inl sg2))
 )
def zdE {σ:Type} (kf:(Rnd σ ((List UInt8)×Int))) (rv:Int) (rest:(List UInt8)) (sg2:σ):Option (σ⊕σ):=zaF (fun s:((List UInt8)×σ)=>zbm kf rv s.1 s.2) (rest,sg2)
def zdi {σ:Type} (v:Int) (v2:(List UInt8)) (kf:Rnd σ ((List UInt8)×Int)) (sg:σ):Option σ:=
 zjN v>>=fun rv=>
 if (rv==0) then (
  kf sg (([]:(List UInt8)),2)>>=fun y=>
  some y.2
 ) else (
  zdE kf rv v2 sg>>=fun q=>
  match q with
  | .inl u=>(
   some u
  )
  | .inr u2=>(
   some u2
  )
 )
theorem zml {σ:Type} {kf:(Rnd σ ((List UInt8)×Int))} {rv:Int} {rest:(List UInt8)} {sg2:σ} {rest':(List UInt8)} {sg2':σ} (h:zbm kf rv rest sg2=some (.inl (rest',sg2'))):zdE kf rv rest sg2=zdE kf rv rest' sg2':=zag (body:=fun s:((List UInt8)×σ)=>zbm kf rv s.1 s.2) h
theorem zft {σ:Type} {kf:(Rnd σ ((List UInt8)×Int))} {rv:Int} {rest:(List UInt8)} {sg2:σ} {oo_:(σ⊕σ)} (h:zbm kf rv rest sg2=some (.inr oo_)):zdE kf rv rest sg2=some oo_:=zah (body:=fun s:((List UInt8)×σ)=>zbm kf rv s.1 s.2) h
def zgW (k:Int) (b:(List UInt8)):Option (Int×(List UInt8)):=
 some (k,b)
def zcM (k:Int) (f:(List Int)) (x:(List UInt8)) (x2:Int):Option ((List Int)⊕(Int×(List Int))):=
 if (x2 !=0) then (
  some (.inr (x2,f))
 ) else (
  zhx k x>>=fun rv2=>
  app 8 f ([rv2.1]:(List Int))>>=fun v=>
  some (.inl v)
 )
def zjL (k:Int) (b:(List UInt8)):Option ((List Int)×Int):=
 zgW k b>>=fun rv=>
 zdi rv.1 rv.2 (rnd (fun (s:(List Int)) (x:((List UInt8)×Int))=>zcM k s x.1 x.2)) (.inl [])>>=fun q=>
 match q with
 | .inl u=>(
  some (u,0)
 )
 | .inr j=>(
  some ([],j.1)
 )
def zdN (f:Int) (x:(List UInt8)) (x2:Int):Option (Int⊕(Int×Int)):=
 if (x2 !=0) then (
  some (.inr (x2,f))
 ) else (
  some (.inl (IntKind.i64.wrap (f+1)))
 )
def zjK (k:Int) (b:(List UInt8)):Option (Int×Int):=
 zgW k b>>=fun rv=>
 zdi rv.1 rv.2 (rnd (fun (s:Int) (x:((List UInt8)×Int))=>zdN s x.1 x.2)) (.inl 0)>>=fun q=>
 match q with
 | .inl u=>(
  some (u,0)
 )
 | .inr j=>(
  some (0,j.1)
 )
end
end Go.Proofs.YtcbkcblkecmjnaaGreat
namespace Go.Proofs.YtcbkcblkecmjnaaGreat
open Go
set_option linter.unusedVariables false
noncomputable section
def zgC (f:zc) (v:Int):Option Bool:=
 some (f.Number==v)
def zF (sv:(List zc)) (v:Int) (v2:Int):Option (Int⊕(Unit⊕Int)):=
 if (decide (v2<(sv.length:Int))) then (
  idx sv v2>>=fun x=>
  zgC x v>>=fun rv=>
  if rv then (
   some (.inr (.inr v2))
  ) else (
   some (.inl (IntKind.i64.wrap (v2+1)))
  )
 ) else (
  some (.inr (.inl ()))
 )
def zZ (sv:(List zc)) (v:Int) (v2:Int):Option (Unit⊕Int):=zaF (fun s:Int=>zF sv v s) v2
def zax (sv:(List zc)) (v:Int):Option Int:=
 zZ sv v 0>>=fun q=>
 match q with
 | .inl u=>(
  some (-1)
 )
 | .inr u2=>(
  some u2
 )
theorem zcC {sv:(List zc)} {v:Int} {v2:Int} {v2':Int} (h:zF sv v v2=some (.inl v2')):zZ sv v v2=zZ sv v v2':=zag (body:=fun s:Int=>zF sv v s) h
theorem zbh {sv:(List zc)} {v:Int} {v2:Int} {oo_:(Unit⊕Int)} (h:zF sv v v2=some (.inr oo_)):zZ sv v v2=some oo_:=zah (body:=fun s:Int=>zF sv v s) h
def ziH (m:zi) (number:Int):Option Int:=
 zax m.Fields number>>=fun rv=>
 some rv
def ziI (f:zc) (wire:Int):Option Bool:=
 (
  if f.Repeated then (
   if (wire==2) then (
    zfW f.Kind>>=fun rv=>
    some rv
   ) else (
    some false
   )
  ) else (
   some false
  )
 )>>=fun g=>
 some g
def zkd (k:Int) (wire:Int):Option Bool:=
 zid k>>=fun rv=>
 some ((rv.2==0)&&(rv.1==wire))
def zgf (m:zi) (hv:zM):Option zQ:=
 ziH m hv.number>>=fun rv=>
 if (rv==(-1)) then (
  some (⟨(-1),false,0⟩:zQ)
 ) else (
  idx m.Fields rv>>=fun x=>
  ziI x hv.wire>>=fun rv2=>
  (
   if (!rv2) then (
    zkd x.Kind hv.wire>>=fun rv3=>
    some (!rv3)
   ) else (
    some false
   )
  )>>=fun g=>
  if g then (
   some (⟨0,false,6⟩:zQ)
  ) else (
   some (⟨rv,rv2,0⟩:zQ)
  )
 )
def zig (m:zi) (b:(List UInt8)) (fromv:Int) (met:(List (zM×zQ))):Option (zg×Int×(List (zM×zQ))):=
 zfb b fromv>>=fun rv=>
 if (rv.2 !=0) then (
  some ((⟨(⟨0,0,0,0,0⟩:zx),0,false⟩:zg),rv.2,met)
 ) else (
  ((
   if (!(mget met (⟨rv.1.Number,rv.1.Wire⟩:zM)).isSome) then (
    zgf m (⟨rv.1.Number,rv.1.Wire⟩:zM)>>=fun rv2=>
    some ((mput met (⟨rv.1.Number,rv.1.Wire⟩:zM) rv2),rv2.field,rv2.run,rv2.e)
   ) else (
    some (met,((mget met (⟨rv.1.Number,rv.1.Wire⟩:zM)).getD (⟨0,false,0⟩:zQ)).field,((mget met (⟨rv.1.Number,rv.1.Wire⟩:zM)).getD (⟨0,false,0⟩:zQ)).run,((mget met (⟨rv.1.Number,rv.1.Wire⟩:zM)).getD (⟨0,false,0⟩:zQ)).e)
   )
   :Option ((List (zM×zQ))×Int×Bool×Int)))>>=fun p=>
  if (p.2.2.2 !=0) then (
   some ((⟨(⟨0,0,0,0,0⟩:zx),0,false⟩:zg),p.2.2.2,p.1)
  ) else (
   some ((⟨rv.1,p.2.1,p.2.2.1⟩:zg),0,p.1)
  )
 )
def zcc (b:(List UInt8)) (m:zi) (l:(List zg)) (met:(List (zM×zQ))) (fromv:Int):Option (((List zg)×(List (zM×zQ))×Int)⊕((List zg)⊕(Int×Int))):=
 if (decide (fromv<(b.length:Int))) then (
  zig m b fromv met>>=fun rv2=>
  if (rv2.2.1 !=0) then (
   some (.inr (.inr (fromv,rv2.2.1)))
  ) else (
   app 56 l ([rv2.1]:(List zg))>>=fun v=>
   some (.inl (v,rv2.2.2,rv2.1.Record.To))
  )
 ) else (
  some (.inr (.inl l))
 )
def zfh (b:(List UInt8)) (m:zi) (l:(List zg)) (met:(List (zM×zQ))) (fromv:Int):Option ((List zg)⊕(Int×Int)):=zaF (fun s:((List zg)×(List (zM×zQ))×Int)=>zcc b m s.1 s.2.1 s.2.2) (l,met,fromv)
def zlO (m:zi) (b:(List UInt8)):Option ((List zg)×Int×Int):=
 zfh b m [] ([]:(List (zM×zQ))) 0>>=fun q=>
 match q with
 | .inl u=>(
  some (u,0,0)
 )
 | .inr u2=>(
  some ([],u2.1,u2.2)
 )
theorem zkK {b:(List UInt8)} {m:zi} {l:(List zg)} {met:(List (zM×zQ))} {fromv:Int} {l':(List zg)} {met':(List (zM×zQ))} {fromv':Int} (h:zcc b m l met fromv=some (.inl (l',met',fromv'))):zfh b m l met fromv=zfh b m l' met' fromv':=zag (body:=fun s:((List zg)×(List (zM×zQ))×Int)=>zcc b m s.1 s.2.1 s.2.2) h
theorem zhO {b:(List UInt8)} {m:zi} {l:(List zg)} {met:(List (zM×zQ))} {fromv:Int} {oo_:((List zg)⊕(Int×Int))} (h:zcc b m l met fromv=some (.inr oo_)):zfh b m l met fromv=some oo_:=zah (body:=fun s:((List zg)×(List (zM×zQ))×Int)=>zcc b m s.1 s.2.1 s.2.2) h
def zkc (m:zi) (b:(List UInt8)) (fromv:Int):Option (zg×Int):=
 zig m b fromv ([]:(List (zM×zQ)))>>=fun rv2=>
 some (rv2.1,rv2.2.1)
end
end Go.Proofs.YtcbkcblkecmjnaaGreat
namespace Go.Proofs.YtcbkcblkecmjnaaGreat
open Go
set_option linter.unusedVariables false
noncomputable section
def zeE (wv:zas) (message:Int) (fromv:Int) (tov:Int):Option (zg×Int×(List (zm×zg))):=
 cut wv.b 0 tov>>=fun v=>
 zfb v fromv>>=fun rv=>
 if (rv.2 !=0) then (
  some ((⟨(⟨0,0,0,0,0⟩:zx),0,false⟩:zg),rv.2,wv.met)
 ) else (
  if (!(mget wv.met (⟨message,rv.1.Number,rv.1.Wire⟩:zm)).isSome) then (
   idx wv.s message>>=fun x=>
   zkc x v fromv>>=fun rv2=>
   if (rv2.2 !=0) then (
    some ((⟨(⟨0,0,0,0,0⟩:zx),0,false⟩:zg),rv2.2,wv.met)
   ) else (
    some ((⟨rv.1,rv2.1.Field,rv2.1.Run⟩:zg),0,(mput wv.met (⟨message,rv.1.Number,rv.1.Wire⟩:zm) rv2.1))
   )
  ) else (
   some ((⟨rv.1,(((mget wv.met (⟨message,rv.1.Number,rv.1.Wire⟩:zm)).getD (⟨(⟨0,0,0,0,0⟩:zx),0,false⟩:zg)).Field),(((mget wv.met (⟨message,rv.1.Number,rv.1.Wire⟩:zm)).getD (⟨(⟨0,0,0,0,0⟩:zx),0,false⟩:zg)).Run)⟩:zg),0,wv.met)
  )
 )
def zhI (f:zc) (isRun:Bool) (value:(List UInt8)):Option Int:=
 if isRun then (
  zjK f.Kind value>>=fun rv=>
  some rv.2
 ) else (
  (
   if (f.Kind==15) then (
    zhc value>>=fun rv2=>
    some (!rv2)
   ) else (
    some false
   )
  )>>=fun g=>
  if g then (
   some 7
  ) else (
   if (f.Kind==17) then (
    some 8
   ) else (
    some 0
   )
  )
 )
def zat (d:Int) (message:Int) (rec_valid_walk_value:zas→Int→zg→Int→Option (zz×(List (zm×zg)))) (tov:Int) (wv:zas) (wv2:(List (zm×zg))) (fromv2:Int) (depth:Int):Option (((List (zm×zg))×Int×Int)⊕(((List (zm×zg))×Int)⊕((List (zm×zg))×Int×Int×Int))):=
 if (decide (fromv2<tov)) then (
  zeE (⟨wv.s,wv.b,wv2⟩:zas) message fromv2 tov>>=fun rv2=>
  if (rv2.2.1 !=0) then (
   some (.inr (.inr (rv2.2.2,0,fromv2,rv2.2.1)))
  ) else (
   rec_valid_walk_value (⟨wv.s,wv.b,rv2.2.2⟩:zas) message rv2.1 d>>=fun rv4=>
   if (rv4.1.e !=0) then (
    some (.inr (.inr (rv4.2,rv4.1.depth,rv4.1.place,rv4.1.e)))
   ) else (
    some (.inl (rv4.2,rv2.1.Record.To,(if depth<rv4.1.depth then rv4.1.depth else depth)))
   )
  )
 ) else (
  some (.inr (.inl (wv2,depth)))
 )
def zbE (d:Int) (message:Int) (rec_valid_walk_value:zas→Int→zg→Int→Option (zz×(List (zm×zg)))) (tov:Int) (wv:zas) (wv2:(List (zm×zg))) (fromv2:Int) (depth:Int):Option (((List (zm×zg))×Int)⊕((List (zm×zg))×Int×Int×Int)):=zaF (fun s:((List (zm×zg))×Int×Int)=>zat d message rec_valid_walk_value tov wv s.1 s.2.1 s.2.2) (wv2,fromv2,depth)
def zcW (rec_valid_walk_message:zas→Int→Int→Int→Int→Option (zz×(List (zm×zg)))) (rec_valid_walk_value:zas→Int→zg→Int→Option (zz×(List (zm×zg)))) (wv:zas) (message:Int) (fromv:Int) (tov:Int) (d:Int):Option (zz×(List (zm×zg))):=
 zbE d message rec_valid_walk_value tov wv wv.met fromv 0>>=fun q=>
 match q with
 | .inl u=>(
  some ((⟨u.2,0,0⟩:zz),u.1)
 )
 | .inr u2=>(
  some ((⟨u2.2.1,u2.2.2.1,u2.2.2.2⟩:zz),u2.1)
 )
def zcI (rec_valid_walk_message:zas→Int→Int→Int→Int→Option (zz×(List (zm×zg)))) (rec_valid_walk_value:zas→Int→zg→Int→Option (zz×(List (zm×zg)))) (wv:zas) (message:Int) (v:zg) (d:Int):Option (zz×(List (zm×zg))):=
 if (v.Field==(-1)) then (
  some ((⟨0,0,0⟩:zz),wv.met)
 ) else (
  idx wv.s message>>=fun x=>
  idx x.Fields v.Field>>=fun x2=>
  if ((x2.Kind==17)&&(decide (d>0))) then (
   rec_valid_walk_message wv x2.Of v.Record.At v.Record.To (IntKind.i64.wrap (d - 1))>>=fun rv2=>
   some ((⟨(IntKind.i64.wrap (rv2.1.depth+1)),rv2.1.place,rv2.1.e⟩:zz),rv2.2)
  ) else (
   cut wv.b v.Record.At v.Record.To>>=fun v3=>
   zhI x2 v.Run v3>>=fun rv3=>
   if (rv3 !=0) then (
    some ((⟨0,v.Record.From,rv3⟩:zz),wv.met)
   ) else (
    some ((⟨0,0,0⟩:zz),wv.met)
   )
  )
 )
def zav:Nat→(zas→Int→Int→Int→Int→Option (zz×(List (zm×zg))))×(zas→Int→zg→Int→Option (zz×(List (zm×zg))))
  | 0=>(fun _ _ _ _ _=>none,fun _ _ _ _=>none)
  | fuel+1=>(fun wv message fromv tov d=>zcW (zav fuel).1 (zav fuel).2 wv message fromv tov d,fun wv message v d=>zcI (zav fuel).1 (zav fuel).2 wv message v d)
def zaS (fuel:Nat):zas→Int→Int→Int→Int→Option (zz×(List (zm×zg))):=(zav fuel).1
def zcH (fuel:Nat):zas→Int→zg→Int→Option (zz×(List (zm×zg))):=(zav fuel).2
theorem ziL {d:Int} {message:Int} {rec_valid_walk_value:zas→Int→zg→Int→Option (zz×(List (zm×zg)))} {tov:Int} {wv:zas} {wv2:(List (zm×zg))} {fromv2:Int} {depth:Int} {wv2':(List (zm×zg))} {fromv2':Int} {depth':Int} (h:zat d message rec_valid_walk_value tov wv wv2 fromv2 depth=some (.inl (wv2',fromv2',depth'))):zbE d message rec_valid_walk_value tov wv wv2 fromv2 depth=zbE d message rec_valid_walk_value tov wv wv2' fromv2' depth':=zag (body:=fun s:((List (zm×zg))×Int×Int)=>zat d message rec_valid_walk_value tov wv s.1 s.2.1 s.2.2) h
theorem zcE {d:Int} {message:Int} {rec_valid_walk_value:zas→Int→zg→Int→Option (zz×(List (zm×zg)))} {tov:Int} {wv:zas} {wv2:(List (zm×zg))} {fromv2:Int} {depth:Int} {oo_:(((List (zm×zg))×Int)⊕((List (zm×zg))×Int×Int×Int))} (h:zat d message rec_valid_walk_value tov wv wv2 fromv2 depth=some (.inr oo_)):zbE d message rec_valid_walk_value tov wv wv2 fromv2 depth=some oo_:=zah (body:=fun s:((List (zm×zg))×Int×Int)=>zat d message rec_valid_walk_value tov wv s.1 s.2.1 s.2.2) h
def zhd (sv:(List zi)) (root:Int) (d:Int):Option Int:=
 zgw sv>>=fun rv=>
 if (!rv) then (
  some 9
 ) else (
  if ((decide (root<0))|| ((decide (root≥(sv.length:Int)))|| ((decide (d<0))|| (decide (d>64))))) then (
   some 2
  ) else (
   some 0
  )
 )
def zhe (fuel:Nat) (sv:(List zi)) (root:Int) (b:(List UInt8)) (d:Int):Option zz:=
 zhd sv root d>>=fun rv=>
 if (rv !=0) then (
  some (⟨0,0,rv⟩:zz)
 ) else (
  zaS fuel (⟨sv,b,([]:(List (zm×zg)))⟩:zas) root 0 (b.length:Int) d>>=fun rv3=>
  some rv3.1
 )
def zgd (fuel:Nat) (sv:(List zi)) (root:Int) (b:(List UInt8)) (d:Int):Option (Int×Int):=
 zhe fuel sv root b d>>=fun rv=>
 some (rv.place,rv.e)
def zlL (fuel:Nat) (sv:(List zi)) (root:Int) (b:(List UInt8)) (d:Int):Option Bool:=
 zgd fuel sv root b d>>=fun rv=>
 some (rv.2==0)
def zhH (fuel:Nat) (sv:(List zi)) (root:Int) (b:(List UInt8)):Option (Int×Int):=
 zhe fuel sv root b 64>>=fun rv=>
 if (rv.e !=0) then (
  some (0,rv.e)
 ) else (
  some (rv.depth,0)
 )
end
end Go.Proofs.YtcbkcblkecmjnaaGreat
namespace Go.Proofs.YtcbkcblkecmjnaaGreat
open Go
set_option linter.unusedVariables false
noncomputable section
def zcZ (v:zb):Option Int:=
 some (IntKind.i64.wrap ((IntKind.i64.wrap ((v.Words.length:Int)+(v.Texts.length:Int)))+(v.Subs.length:Int)))
def zci (b:(List UInt8)) (l:(List zg)) (all:(List Str)) (v2:Int):Option (((List Str)×Int)⊕(List Str)):=
 if (decide (v2<(l.length:Int))) then (
  idx l v2>>=fun x=>
  cut b x.Record.At x.Record.To>>=fun v3=>
  idx all v2>>=fun x2=>
  some (.inl ((all.set (Int.toNat v2) v3),(IntKind.i64.wrap (v2+1))))
 ) else (
  some (.inr all)
 )
def zeM (b:(List UInt8)) (l:(List zg)) (all:(List Str)) (v2:Int):Option (List Str):=zaF (fun s:((List Str)×Int)=>zci b l s.1 s.2) (all,v2)
def ziF (b:(List UInt8)) (l:(List zg)):Option (List Str):=
 mkO 16 ([]:Str) (l.length:Int) (l.length:Int)>>=fun v=>
 zeM b l v 0>>=fun q=>
 some q
theorem zog {b:(List UInt8)} {l:(List zg)} {all:(List Str)} {v2:Int} {all':(List Str)} {v2':Int} (h:zci b l all v2=some (.inl (all',v2'))):zeM b l all v2=zeM b l all' v2':=zag (body:=fun s:((List Str)×Int)=>zci b l s.1 s.2) h
theorem zoh {b:(List UInt8)} {l:(List zg)} {all:(List Str)} {v2:Int} {oo_:(List Str)} (h:zci b l all v2=some (.inr oo_)):zeM b l all v2=some oo_:=zah (body:=fun s:((List Str)×Int)=>zci b l s.1 s.2) h
def zcj (b:(List UInt8)) (k:Int) (l:(List zg)) (all:(List Int)) (v:Int):Option (((List Int)×Int)⊕(List Int)):=
 if (decide (v<(l.length:Int))) then (
  idx l v>>=fun x=>
  cut b x.Record.At x.Record.To>>=fun v2=>
  zjL k v2>>=fun rv=>
  app 8 all rv.1>>=fun v3=>
  some (.inl (v3,(IntKind.i64.wrap (v+1))))
 ) else (
  some (.inr all)
 )
def zeN (b:(List UInt8)) (k:Int) (l:(List zg)) (all:(List Int)) (v:Int):Option (List Int):=zaF (fun s:((List Int)×Int)=>zcj b k l s.1 s.2) (all,v)
def ziG (k:Int) (b:(List UInt8)) (l:(List zg)):Option (List Int):=
 zeN b k l [] 0>>=fun q=>
 some q
theorem zoi {b:(List UInt8)} {k:Int} {l:(List zg)} {all:(List Int)} {v:Int} {all':(List Int)} {v':Int} (h:zcj b k l all v=some (.inl (all',v'))):zeN b k l all v=zeN b k l all' v':=zag (body:=fun s:((List Int)×Int)=>zcj b k l s.1 s.2) h
theorem zoj {b:(List UInt8)} {k:Int} {l:(List zg)} {all:(List Int)} {v:Int} {oo_:(List Int)} (h:zcj b k l all v=some (.inr oo_)):zeN b k l all v=some oo_:=zah (body:=fun s:((List Int)×Int)=>zcj b k l s.1 s.2) h
def zbz (b:(List UInt8)) (rv:((List zg)×Int×Int)) (known:(List (Int×(List zg)))) (v:Int) (f:(List Str)):Option (((List (Int×(List zg)))×Int×(List Str))⊕((List (Int×(List zg)))×(List Str))):=
 if (decide (v<(rv.1.length:Int))) then (
  idx rv.1 v>>=fun x2=>
  if (x2.Field==(-1)) then (
   cut b x2.Record.From x2.Record.To>>=fun v2=>
   app 16 f ([v2]:(List Str))>>=fun v3=>
   some (.inl (known,(IntKind.i64.wrap (v+1)),v3))
  ) else (
   app 56 ((mget known x2.Record.Number).getD []) ([x2]:(List zg))>>=fun v4=>
   some (.inl ((mput known x2.Record.Number v4),(IntKind.i64.wrap (v+1)),f))
  )
 ) else (
  some (.inr (known,f))
 )
def zdH (b:(List UInt8)) (rv:((List zg)×Int×Int)) (known:(List (Int×(List zg)))) (v:Int) (f:(List Str)):Option ((List (Int×(List zg)))×(List Str)):=zaF (fun s:((List (Int×(List zg)))×Int×(List Str))=>zbz b rv s.1 s.2.1 s.2.2) (known,v,f)
def zbA (b:(List UInt8)) (q:((List (Int×(List zg)))×(List Str))) (rec_tree_value:(List zi)→zc→(List UInt8)→(List zg)→Option zb) (sv:(List zi)) (v5:(List Int)) (x:zi) (v6:Int) (f3:(List zb)):Option ((Int×(List zb))⊕(List zb)):=
 if (decide (v6<(v5.length:Int))) then (
  idx v5 v6>>=fun x3=>
  idx ((mget q.1 x3).getD []) 0>>=fun x4=>
  idx x.Fields x4.Field>>=fun x5=>
  rec_tree_value sv x5 b ((mget q.1 x3).getD [])>>=fun rv2=>
  zcZ rv2>>=fun rv3=>
  if (decide (rv3>0)) then (
   app 80 f3 ([rv2]:(List zb))>>=fun v7=>
   some (.inl ((IntKind.i64.wrap (v6+1)),v7))
  ) else (
   some (.inl ((IntKind.i64.wrap (v6+1)),f3))
  )
 ) else (
  some (.inr f3)
 )
def zdI (b:(List UInt8)) (q:((List (Int×(List zg)))×(List Str))) (rec_tree_value:(List zi)→zc→(List UInt8)→(List zg)→Option zb) (sv:(List zi)) (v5:(List Int)) (x:zi) (v6:Int) (f3:(List zb)):Option (List zb):=zaF (fun s:(Int×(List zb))=>zbA b q rec_tree_value sv v5 x s.1 s.2) (v6,f3)
def zff (rec_tree_meaning:(List zi)→Int→(List UInt8)→Option ze) (rec_tree_subs:(List zi)→zc→(List UInt8)→(List zg)→Option (List ze)) (rec_tree_value:(List zi)→zc→(List UInt8)→(List zg)→Option zb) (sv:(List zi)) (message:Int) (b:(List UInt8)):Option ze:=
 idx sv message>>=fun x=>
 zlO x b>>=fun rv=>
 zdH b rv ([]:(List (Int×(List zg)))) 0 []>>=fun q=>
 zny q.1>>=fun v5=>
 zdI b q rec_tree_value sv v5 x 0 []>>=fun q2=>
 some (⟨q2,q.2⟩:ze)
def zcN (b:(List UInt8)) (l:(List zg)) (pieces:(List (List UInt8))) (v2:Int):Option (((List (List UInt8))×Int)⊕(List (List UInt8))):=
 if (decide (v2<(l.length:Int))) then (
  idx l v2>>=fun x=>
  cut b x.Record.At x.Record.To>>=fun v3=>
  idx pieces v2>>=fun x2=>
  some (.inl ((pieces.set (Int.toNat v2) v3),(IntKind.i64.wrap (v2+1))))
 ) else (
  some (.inr pieces)
 )
def zfn (b:(List UInt8)) (l:(List zg)) (pieces:(List (List UInt8))) (v2:Int):Option (List (List UInt8)):=zaF (fun s:((List (List UInt8))×Int)=>zcN b l s.1 s.2) (pieces,v2)
def zcO (f:zc) (p:(List (List UInt8))) (rec_tree_meaning:(List zi)→Int→(List UInt8)→Option ze) (sv:(List zi)) (all:(List ze)) (v6:Int):Option (((List ze)×Int)⊕(List ze)):=
 if (decide (v6<(p.length:Int))) then (
  idx p v6>>=fun x3=>
  rec_tree_meaning sv f.Of x3>>=fun rv2=>
  idx all v6>>=fun x4=>
  some (.inl ((all.set (Int.toNat v6) rv2),(IntKind.i64.wrap (v6+1))))
 ) else (
  some (.inr all)
 )
def zdT (f:zc) (p:(List (List UInt8))) (rec_tree_meaning:(List zi)→Int→(List UInt8)→Option ze) (sv:(List zi)) (all:(List ze)) (v6:Int):Option (List ze):=zaF (fun s:((List ze)×Int)=>zcO f p rec_tree_meaning sv s.1 s.2) (all,v6)
def zgc (rec_tree_meaning:(List zi)→Int→(List UInt8)→Option ze) (rec_tree_subs:(List zi)→zc→(List UInt8)→(List zg)→Option (List ze)) (rec_tree_value:(List zi)→zc→(List UInt8)→(List zg)→Option zb) (sv:(List zi)) (f:zc) (b:(List UInt8)) (l:(List zg)):Option (List ze):=
 mkO 24 ([]:(List UInt8)) (l.length:Int) (l.length:Int)>>=fun v=>
 zfn b l v 0>>=fun q=>
 ((
  if ((!f.Repeated)&&(decide ((q.length:Int)>1))) then (
   zbI q>>=fun rv=>
   some ([rv]:(List (List UInt8)))
  ) else (
   some q
  )
  :Option (List (List UInt8))))>>=fun p=>
 mkO 48 ((⟨[],[]⟩:ze):ze) (p.length:Int) (p.length:Int)>>=fun v5=>
 zdT f p rec_tree_meaning sv v5 0>>=fun q2=>
 some q2
def zfo (rec_tree_meaning:(List zi)→Int→(List UInt8)→Option ze) (rec_tree_subs:(List zi)→zc→(List UInt8)→(List zg)→Option (List ze)) (rec_tree_value:(List zi)→zc→(List UInt8)→(List zg)→Option zb) (sv:(List zi)) (f:zc) (b:(List UInt8)) (l:(List zg)):Option zb:=
 ((
  if ((!f.Repeated)&&(f.Kind !=17)) then (
   cut l (IntKind.i64.wrap ((l.length:Int) - 1)) (l.length:Int)>>=fun v2=>
   some v2
  ) else (
   some l
  )
  :Option (List zg)))>>=fun p=>
 if (f.Kind==17) then (
  rec_tree_subs sv f b p>>=fun rv=>
  some (⟨f.Number,[],[],rv⟩:zb)
 ) else (
  ((
   if (f.Kind==15) then (
    some (f.Kind==15)
   ) else (
    some (f.Kind==16)
   )
   :Option Bool))>>=fun p2=>
  if p2 then (
   ziF b p>>=fun rv2=>
   some (⟨f.Number,[],rv2,[]⟩:zb)
  ) else (
   ziG f.Kind b p>>=fun rv3=>
   some (⟨f.Number,rv3,[],[]⟩:zb)
  )
 )
def zai:Nat→((List zi)→Int→(List UInt8)→Option ze)×((List zi)→zc→(List UInt8)→(List zg)→Option (List ze))×((List zi)→zc→(List UInt8)→(List zg)→Option zb)
  | 0=>(fun _ _ _=>none,fun _ _ _ _=>none,fun _ _ _ _=>none)
  | fuel+1=>(fun sv message b=>zff (zai fuel).1 (zai fuel).2.1 (zai fuel).2.2 sv message b,fun sv f b l=>zgc (zai fuel).1 (zai fuel).2.1 (zai fuel).2.2 sv f b l,fun sv f b l=>zfo (zai fuel).1 (zai fuel).2.1 (zai fuel).2.2 sv f b l)
def zdj (fuel:Nat):(List zi)→Int→(List UInt8)→Option ze:=(zai fuel).1
def zmi (fuel:Nat):(List zi)→zc→(List UInt8)→(List zg)→Option (List ze):=(zai fuel).2.1
def zhb (fuel:Nat):(List zi)→zc→(List UInt8)→(List zg)→Option zb:=(zai fuel).2.2
theorem zhS {b:(List UInt8)} {rv:((List zg)×Int×Int)} {known:(List (Int×(List zg)))} {v:Int} {f:(List Str)} {known':(List (Int×(List zg)))} {v':Int} {f':(List Str)} (h:zbz b rv known v f=some (.inl (known',v',f'))):zdH b rv known v f=zdH b rv known' v' f':=zag (body:=fun s:((List (Int×(List zg)))×Int×(List Str))=>zbz b rv s.1 s.2.1 s.2.2) h
theorem zmo {b:(List UInt8)} {rv:((List zg)×Int×Int)} {known:(List (Int×(List zg)))} {v:Int} {f:(List Str)} {oo_:((List (Int×(List zg)))×(List Str))} (h:zbz b rv known v f=some (.inr oo_)):zdH b rv known v f=some oo_:=zah (body:=fun s:((List (Int×(List zg)))×Int×(List Str))=>zbz b rv s.1 s.2.1 s.2.2) h
theorem zhT {b:(List UInt8)} {q:((List (Int×(List zg)))×(List Str))} {rec_tree_value:(List zi)→zc→(List UInt8)→(List zg)→Option zb} {sv:(List zi)} {v5:(List Int)} {x:zi} {v6:Int} {f3:(List zb)} {v6':Int} {f3':(List zb)} (h:zbA b q rec_tree_value sv v5 x v6 f3=some (.inl (v6',f3'))):zdI b q rec_tree_value sv v5 x v6 f3=zdI b q rec_tree_value sv v5 x v6' f3':=zag (body:=fun s:(Int×(List zb))=>zbA b q rec_tree_value sv v5 x s.1 s.2) h
theorem zmp {b:(List UInt8)} {q:((List (Int×(List zg)))×(List Str))} {rec_tree_value:(List zi)→zc→(List UInt8)→(List zg)→Option zb} {sv:(List zi)} {v5:(List Int)} {x:zi} {v6:Int} {f3:(List zb)} {oo_:(List zb)} (h:zbA b q rec_tree_value sv v5 x v6 f3=some (.inr oo_)):zdI b q rec_tree_value sv v5 x v6 f3=some oo_:=zah (body:=fun s:(Int×(List zb))=>zbA b q rec_tree_value sv v5 x s.1 s.2) h
theorem zpk {b:(List UInt8)} {l:(List zg)} {pieces:(List (List UInt8))} {v2:Int} {pieces':(List (List UInt8))} {v2':Int} (h:zcN b l pieces v2=some (.inl (pieces',v2'))):zfn b l pieces v2=zfn b l pieces' v2':=zag (body:=fun s:((List (List UInt8))×Int)=>zcN b l s.1 s.2) h
theorem zpl {b:(List UInt8)} {l:(List zg)} {pieces:(List (List UInt8))} {v2:Int} {oo_:(List (List UInt8))} (h:zcN b l pieces v2=some (.inr oo_)):zfn b l pieces v2=some oo_:=zah (body:=fun s:((List (List UInt8))×Int)=>zcN b l s.1 s.2) h
theorem zpm {f:zc} {p:(List (List UInt8))} {rec_tree_meaning:(List zi)→Int→(List UInt8)→Option ze} {sv:(List zi)} {all:(List ze)} {v6:Int} {all':(List ze)} {v6':Int} (h:zcO f p rec_tree_meaning sv all v6=some (.inl (all',v6'))):zdT f p rec_tree_meaning sv all v6=zdT f p rec_tree_meaning sv all' v6':=zag (body:=fun s:((List ze)×Int)=>zcO f p rec_tree_meaning sv s.1 s.2) h
theorem zpn {f:zc} {p:(List (List UInt8))} {rec_tree_meaning:(List zi)→Int→(List UInt8)→Option ze} {sv:(List zi)} {all:(List ze)} {v6:Int} {oo_:(List ze)} (h:zcO f p rec_tree_meaning sv all v6=some (.inr oo_)):zdT f p rec_tree_meaning sv all v6=some oo_:=zah (body:=fun s:((List ze)×Int)=>zcO f p rec_tree_meaning sv s.1 s.2) h
def zhj (fuel:Nat) (sv:(List zi)) (root:Int) (b:(List UInt8)) (d:Int):Option (ze×Int):=
 zgd fuel sv root b d>>=fun rv=>
 if (rv.2 !=0) then (
  some ((⟨[],[]⟩:ze),rv.2)
 ) else (
  zdj fuel sv root b>>=fun rv2=>
  some (rv2,0)
 )
def zdq (fuel:Nat):Option Bool:=
 zhj fuel ([(⟨[109],([(⟨[97],1,3,false,false,0⟩:zc)]:(List zc))⟩:zi)]:List zi) 0 ([(8:UInt8),(1:UInt8),(8:UInt8),(2:UInt8)]:List UInt8) 0>>=fun rv=>
 idx ([(⟨[97],1,3,false,false,0⟩:zc)]:(List zc)) 0>>=fun x=>
 zhj fuel ([(⟨[109],(([(⟨[97],1,3,false,false,0⟩:zc)]:(List zc)).set (Int.toNat 0) (⟨x.Name,x.Number,x.Kind,true,x.Packed,x.Of⟩:zc))⟩:zi)]:List zi) 0 ([(8:UInt8),(1:UInt8),(8:UInt8),(2:UInt8)]:List UInt8) 0>>=fun rv2=>
 (
  if ((IntKind.i64.wrap ((IntKind.i64.wrap rv.2)+(IntKind.i64.wrap rv2.2)))==0) then (
   if ((rv.1.Values.length:Int)==1) then (
    idx rv.1.Values 0>>=fun x2=>
    zbP x2.Words ([2]:(List Int))>>=fun rv3=>
    if rv3 then (
     if ((rv2.1.Values.length:Int)==1) then (
      idx rv2.1.Values 0>>=fun x3=>
      zbP x3.Words ([1,2]:(List Int))>>=fun rv4=>
      some rv4
     ) else (
      some false
     )
    ) else (
     some false
    )
   ) else (
    some false
   )
  ) else (
   some false
  )
 )>>=fun g=>
 some g
def zch (most:Int) (rec_tree_depth:ze→Int→Option Int) (x2:zb) (deep3:Int) (v3:Int):Option ((Int×Int)⊕(Int⊕Int)):=
 if (decide (v3<(x2.Subs.length:Int))) then (
  idx x2.Subs v3>>=fun x3=>
  if (decide (most≤0)) then (
   some (.inr (.inr 1))
  ) else (
   rec_tree_depth x3 (IntKind.i64.wrap (most - 1))>>=fun rv=>
   if (decide ((if deep3<(IntKind.i64.wrap (1+rv)) then (IntKind.i64.wrap (1+rv)) else deep3)>most)) then (
    some (.inr (.inr (if deep3<(IntKind.i64.wrap (1+rv)) then (IntKind.i64.wrap (1+rv)) else deep3)))
   ) else (
    some (.inl ((if deep3<(IntKind.i64.wrap (1+rv)) then (IntKind.i64.wrap (1+rv)) else deep3),(IntKind.i64.wrap (v3+1))))
   )
  )
 ) else (
  some (.inr (.inl deep3))
 )
def zeL (most:Int) (rec_tree_depth:ze→Int→Option Int) (x2:zb) (deep3:Int) (v3:Int):Option (Int⊕Int):=zaF (fun s:(Int×Int)=>zch most rec_tree_depth x2 s.1 s.2) (deep3,v3)
def zcg (most:Int) (rec_tree_depth:ze→Int→Option Int) (x:ze) (deep:Int) (v:Int):Option ((Int×Int)⊕(Int⊕Int)):=
 if (decide (v<(x.Values.length:Int))) then (
  idx x.Values v>>=fun x2=>
  zeL most rec_tree_depth x2 deep 0>>=fun q=>
  match q with
  | .inl u=>(
   some (.inl (u,(IntKind.i64.wrap (v+1))))
  )
  | .inr u2=>(
   some (.inr (.inr u2))
  )
 ) else (
  some (.inr (.inl deep))
 )
def zeK (most:Int) (rec_tree_depth:ze→Int→Option Int) (x:ze) (deep:Int) (v:Int):Option (Int⊕Int):=zaF (fun s:(Int×Int)=>zcg most rec_tree_depth x s.1 s.2) (deep,v)
def zgA (rec_tree_depth:ze→Int→Option Int) (x:ze) (most:Int):Option Int:=
 zeK most rec_tree_depth x 0 0>>=fun q2=>
 match q2 with
 | .inl u3=>(
  some u3
 )
 | .inr u4=>(
  some u4
 )
def zdZ:Nat→ze→Int→Option Int
  | 0,_,_=>none
  | fuel+1,x,most=>zgA (zdZ fuel) x most
theorem zoc {most:Int} {rec_tree_depth:ze→Int→Option Int} {x2:zb} {deep3:Int} {v3:Int} {deep3':Int} {v3':Int} (h:zch most rec_tree_depth x2 deep3 v3=some (.inl (deep3',v3'))):zeL most rec_tree_depth x2 deep3 v3=zeL most rec_tree_depth x2 deep3' v3':=zag (body:=fun s:(Int×Int)=>zch most rec_tree_depth x2 s.1 s.2) h
theorem zod {most:Int} {rec_tree_depth:ze→Int→Option Int} {x2:zb} {deep3:Int} {v3:Int} {oo_:(Int⊕Int)} (h:zch most rec_tree_depth x2 deep3 v3=some (.inr oo_)):zeL most rec_tree_depth x2 deep3 v3=some oo_:=zah (body:=fun s:(Int×Int)=>zch most rec_tree_depth x2 s.1 s.2) h
theorem zoa {most:Int} {rec_tree_depth:ze→Int→Option Int} {x:ze} {deep:Int} {v:Int} {deep':Int} {v':Int} (h:zcg most rec_tree_depth x deep v=some (.inl (deep',v'))):zeK most rec_tree_depth x deep v=zeK most rec_tree_depth x deep' v':=zag (body:=fun s:(Int×Int)=>zcg most rec_tree_depth x s.1 s.2) h
theorem zob {most:Int} {rec_tree_depth:ze→Int→Option Int} {x:ze} {deep:Int} {v:Int} {oo_:(Int⊕Int)} (h:zcg most rec_tree_depth x deep v=some (.inr oo_)):zeK most rec_tree_depth x deep v=some oo_:=zah (body:=fun s:(Int×Int)=>zcg most rec_tree_depth x s.1 s.2) h
def zgZ (fuel:Nat) (x:ze):Option Int:=
 zdZ fuel x 131072>>=fun rv=>
 some rv
def zha (fuel:Nat) (x:ze):Option Bool:=
 zgZ fuel x>>=fun rv=>
 some (decide (rv≤131072))
def zbq (l:(List Str)) (v:Int):Option (Int⊕(Unit⊕Unit)):=
 if (decide (v<(l.length:Int))) then (
  idx l v>>=fun x=>
  lenO x>>=fun v2=>
  zhc v2>>=fun rv=>
  if (!rv) then (
   some (.inr (.inr ()))
  ) else (
   some (.inl (IntKind.i64.wrap (v+1)))
  )
 ) else (
  some (.inr (.inl ()))
 )
def zdo (l:(List Str)) (v:Int):Option (Unit⊕Unit):=zaF (fun s:Int=>zbq l s) v
def zfF (l:(List Str)):Option Bool:=
 zdo l 0>>=fun q=>
 match q with
 | .inl u=>(
  some true
 )
 | .inr u2=>(
  some false
 )
theorem zlG {l:(List Str)} {v:Int} {v':Int} (h:zbq l v=some (.inl v')):zdo l v=zdo l v':=zag (body:=fun s:Int=>zbq l s) h
theorem zhD {l:(List Str)} {v:Int} {oo_:(Unit⊕Unit)} (h:zbq l v=some (.inr oo_)):zdo l v=some oo_:=zah (body:=fun s:Int=>zbq l s) h
def zfe (m:zi) (text:Str):Option Bool:=
 lenO text>>=fun v=>
 zfb v 0>>=fun rv=>
 if ((rv.2 !=0)|| (rv.1.To !=(text.length:Int))) then (
  some false
 ) else (
  zdF m rv.1.Number>>=fun rv2=>
  some (!rv2.2)
 )
def zaz (k:Int) (l:(List Int)) (v:Int):Option (Int⊕(Unit⊕Unit)):=
 if (decide (v<(l.length:Int))) then (
  idx l v>>=fun x=>
  zfM k x>>=fun rv=>
  if ((rv.2 !=0)|| (rv.1 !=x)) then (
   some (.inr (.inr ()))
  ) else (
   some (.inl (IntKind.i64.wrap (v+1)))
  )
 ) else (
  some (.inr (.inl ()))
 )
def zcb (k:Int) (l:(List Int)) (v:Int):Option (Unit⊕Unit):=zaF (fun s:Int=>zaz k l s) v
def zdS (k:Int) (l:(List Int)):Option Bool:=
 zcb k l 0>>=fun q=>
 match q with
 | .inl u=>(
  some true
 )
 | .inr u2=>(
  some false
 )
theorem zjm {k:Int} {l:(List Int)} {v:Int} {v':Int} (h:zaz k l v=some (.inl v')):zcb k l v=zcb k l v':=zag (body:=fun s:Int=>zaz k l s) h
theorem zdY {k:Int} {l:(List Int)} {v:Int} {oo_:(Unit⊕Unit)} (h:zaz k l v=some (.inr oo_)):zcb k l v=some oo_:=zah (body:=fun s:Int=>zaz k l s) h
def zaN (l:(List ze)) (message:Int) (rec_tree_isMeaning:(List zi)→Int→ze→Option Bool) (sv:(List zi)) (v2:Int):Option (Int⊕(Unit⊕Unit)):=
 if (decide (v2<(l.length:Int))) then (
  idx l v2>>=fun x=>
  rec_tree_isMeaning sv message x>>=fun rv=>
  if (!rv) then (
   some (.inr (.inr ()))
  ) else (
   some (.inl (IntKind.i64.wrap (v2+1)))
  )
 ) else (
  some (.inr (.inl ()))
 )
def zcv (l:(List ze)) (message:Int) (rec_tree_isMeaning:(List zi)→Int→ze→Option Bool) (sv:(List zi)) (v2:Int):Option (Unit⊕Unit):=zaF (fun s:Int=>zaN l message rec_tree_isMeaning sv s) v2
def zdv (rec_tree_areMeanings:(List zi)→Int→(List ze)→Option Bool) (rec_tree_fits:zc→(List zi)→zb→Option Bool) (rec_tree_isMeaning:(List zi)→Int→ze→Option Bool) (sv:(List zi)) (message:Int) (l:(List ze)):Option Bool:=
 if ((decide (message<0))|| (decide (message≥(sv.length:Int)))) then (
  some false
 ) else (
  zcv l message rec_tree_isMeaning sv 0>>=fun q=>
  match q with
  | .inl u=>(
   some true
  )
  | .inr u2=>(
   some false
  )
 )
def zhE (rec_tree_areMeanings:(List zi)→Int→(List ze)→Option Bool) (rec_tree_fits:zc→(List zi)→zb→Option Bool) (rec_tree_isMeaning:(List zi)→Int→ze→Option Bool) (f:zc) (sv:(List zi)) (v:zb):Option Bool:=
 zcZ v>>=fun rv=>
 if ((rv==0)|| ((decide (rv>1))&&(!f.Repeated))) then (
  some false
 ) else (
  if (f.Kind==15) then (
   (
    if ((v.Texts.length:Int)==rv) then (
     zfF v.Texts>>=fun rv2=>
     some rv2
    ) else (
     some false
    )
   )>>=fun g=>
   some g
  ) else (
   if (f.Kind==16) then (
    some ((v.Texts.length:Int)==rv)
   ) else (
    if (f.Kind==17) then (
     (
      if ((v.Subs.length:Int)==rv) then (
       rec_tree_areMeanings sv f.Of v.Subs>>=fun rv3=>
       some rv3
      ) else (
       some false
      )
     )>>=fun g2=>
     some g2
    ) else (
     (
      if ((v.Words.length:Int)==rv) then (
       zdS f.Kind v.Words>>=fun rv4=>
       some rv4
      ) else (
       some false
      )
     )>>=fun g3=>
     some g3
    )
   )
  )
 )
def zbf (rec_tree_fits:zc→(List zi)→zb→Option Bool) (sv:(List zi)) (x:ze) (x2:zi) (last:Int) (v:Int):Option ((Int×Int)⊕(Unit⊕Unit)):=
 if (decide (v<(x.Values.length:Int))) then (
  idx x.Values v>>=fun x3=>
  zdF x2 x3.Number>>=fun rv=>
  (
   if (!rv.2) then (
    some true
   ) else (
    if (decide (x3.Number≤last)) then (
     some true
    ) else (
     idx x2.Fields rv.1>>=fun x4=>
     rec_tree_fits x4 sv x3>>=fun rv2=>
     some (!rv2)
    )
   )
  )>>=fun g=>
  if g then (
   some (.inr (.inr ()))
  ) else (
   some (.inl (x3.Number,(IntKind.i64.wrap (v+1))))
  )
 ) else (
  some (.inr (.inl ()))
 )
def zda (rec_tree_fits:zc→(List zi)→zb→Option Bool) (sv:(List zi)) (x:ze) (x2:zi) (last:Int) (v:Int):Option (Unit⊕Unit):=zaF (fun s:(Int×Int)=>zbf rec_tree_fits sv x x2 s.1 s.2) (last,v)
def zbg (x:ze) (x2:zi) (v3:Int):Option (Int⊕(Unit⊕Unit)):=
 if (decide (v3<(x.Unknown.length:Int))) then (
  idx x.Unknown v3>>=fun x5=>
  zfe x2 x5>>=fun rv3=>
  if (!rv3) then (
   some (.inr (.inr ()))
  ) else (
   some (.inl (IntKind.i64.wrap (v3+1)))
  )
 ) else (
  some (.inr (.inl ()))
 )
def zdb (x:ze) (x2:zi) (v3:Int):Option (Unit⊕Unit):=zaF (fun s:Int=>zbg x x2 s) v3
def zem (rec_tree_areMeanings:(List zi)→Int→(List ze)→Option Bool) (rec_tree_fits:zc→(List zi)→zb→Option Bool) (rec_tree_isMeaning:(List zi)→Int→ze→Option Bool) (sv:(List zi)) (message:Int) (x:ze):Option Bool:=
 idx sv message>>=fun x2=>
 zda rec_tree_fits sv x x2 0 0>>=fun q=>
 match q with
 | .inl u=>(
  zdb x x2 0>>=fun q2=>
  match q2 with
  | .inl u2=>(
   some true
  )
  | .inr u3=>(
   some false
  )
 )
 | .inr u4=>(
  some false
 )
def zab:Nat→((List zi)→Int→(List ze)→Option Bool)×(zc→(List zi)→zb→Option Bool)×((List zi)→Int→ze→Option Bool)
  | 0=>(fun _ _ _=>none,fun _ _ _=>none,fun _ _ _=>none)
  | fuel+1=>(fun sv message l=>zdv (zab fuel).1 (zab fuel).2.1 (zab fuel).2.2 sv message l,fun f sv v=>zhE (zab fuel).1 (zab fuel).2.1 (zab fuel).2.2 f sv v,fun sv message x=>zem (zab fuel).1 (zab fuel).2.1 (zab fuel).2.2 sv message x)
def zek (fuel:Nat):(List zi)→Int→(List ze)→Option Bool:=(zab fuel).1
def zgb (fuel:Nat):zc→(List zi)→zb→Option Bool:=(zab fuel).2.1
def zcr (fuel:Nat):(List zi)→Int→ze→Option Bool:=(zab fuel).2.2
theorem zjV {l:(List ze)} {message:Int} {rec_tree_isMeaning:(List zi)→Int→ze→Option Bool} {sv:(List zi)} {v2:Int} {v2':Int} (h:zaN l message rec_tree_isMeaning sv v2=some (.inl v2')):zcv l message rec_tree_isMeaning sv v2=zcv l message rec_tree_isMeaning sv v2':=zag (body:=fun s:Int=>zaN l message rec_tree_isMeaning sv s) h
theorem zga {l:(List ze)} {message:Int} {rec_tree_isMeaning:(List zi)→Int→ze→Option Bool} {sv:(List zi)} {v2:Int} {oo_:(Unit⊕Unit)} (h:zaN l message rec_tree_isMeaning sv v2=some (.inr oo_)):zcv l message rec_tree_isMeaning sv v2=some oo_:=zah (body:=fun s:Int=>zaN l message rec_tree_isMeaning sv s) h
theorem zkR {rec_tree_fits:zc→(List zi)→zb→Option Bool} {sv:(List zi)} {x:ze} {x2:zi} {last:Int} {v:Int} {last':Int} {v':Int} (h:zbf rec_tree_fits sv x x2 last v=some (.inl (last',v'))):zda rec_tree_fits sv x x2 last v=zda rec_tree_fits sv x x2 last' v':=zag (body:=fun s:(Int×Int)=>zbf rec_tree_fits sv x x2 s.1 s.2) h
theorem zgG {rec_tree_fits:zc→(List zi)→zb→Option Bool} {sv:(List zi)} {x:ze} {x2:zi} {last:Int} {v:Int} {oo_:(Unit⊕Unit)} (h:zbf rec_tree_fits sv x x2 last v=some (.inr oo_)):zda rec_tree_fits sv x x2 last v=some oo_:=zah (body:=fun s:(Int×Int)=>zbf rec_tree_fits sv x x2 s.1 s.2) h
theorem zkS {x:ze} {x2:zi} {v3:Int} {v3':Int} (h:zbg x x2 v3=some (.inl v3')):zdb x x2 v3=zdb x x2 v3':=zag (body:=fun s:Int=>zbg x x2 s) h
theorem zgH {x:ze} {x2:zi} {v3:Int} {oo_:(Unit⊕Unit)} (h:zbg x x2 v3=some (.inr oo_)):zdb x x2 v3=some oo_:=zah (body:=fun s:Int=>zbg x x2 s) h
def ziE (fuel:Nat) (sv:(List zi)) (root:Int) (x:ze):Option Bool:=
 (
  zhd sv root 0>>=fun rv=>
  if (rv==0) then (
   zha fuel x>>=fun rv2=>
   if rv2 then (
    zcr fuel sv root x>>=fun rv3=>
    some rv3
   ) else (
    some false
   )
  ) else (
   some false
  )
 )>>=fun g=>
 some g
def zbU (rec_tree_copiedValue:zb→Option zb) (rv:(List zb)) (v:(List zb)) (v2:Int):Option (((List zb)×Int)⊕(List zb)):=
 if (decide (v2<(rv.length:Int))) then (
  idx v v2>>=fun x2=>
  rec_tree_copiedValue x2>>=fun rv3=>
  idx v v2>>=fun x3=>
  some (.inl ((v.set (Int.toNat v2) rv3),(IntKind.i64.wrap (v2+1))))
 ) else (
  some (.inr v)
 )
def zel (rec_tree_copiedValue:zb→Option zb) (rv:(List zb)) (v:(List zb)) (v2:Int):Option (List zb):=zaF (fun s:((List zb)×Int)=>zbU rec_tree_copiedValue rv s.1 s.2) (v,v2)
def zfG (rec_tree_copied:ze→Option ze) (rec_tree_copiedValue:zb→Option zb) (x:ze):Option ze:=
 zaH x.Values>>=fun rv=>
 zaT x.Unknown>>=fun rv2=>
 zel rec_tree_copiedValue rv rv 0>>=fun q=>
 some (⟨q,rv2⟩:ze)
def zbb (rec_tree_copied:ze→Option ze) (rv3:(List ze)) (v2:(List ze)) (v3:Int):Option (((List ze)×Int)⊕(List ze)):=
 if (decide (v3<(rv3.length:Int))) then (
  idx v2 v3>>=fun x=>
  rec_tree_copied x>>=fun rv4=>
  idx v2 v3>>=fun x2=>
  some (.inl ((v2.set (Int.toNat v3) rv4),(IntKind.i64.wrap (v3+1))))
 ) else (
  some (.inr v2)
 )
def zcw (rec_tree_copied:ze→Option ze) (rv3:(List ze)) (v2:(List ze)) (v3:Int):Option (List ze):=zaF (fun s:((List ze)×Int)=>zbb rec_tree_copied rv3 s.1 s.2) (v2,v3)
def zdw (rec_tree_copied:ze→Option ze) (rec_tree_copiedValue:zb→Option zb) (v:zb):Option zb:=
 zbu v.Words>>=fun rv=>
 zaT v.Texts>>=fun rv2=>
 zbc v.Subs>>=fun rv3=>
 zcw rec_tree_copied rv3 rv3 0>>=fun q=>
 some (⟨v.Number,rv,rv2,q⟩:zb)
def zaK:Nat→(ze→Option ze)×(zb→Option zb)
  | 0=>(fun _=>none,fun _=>none)
  | fuel+1=>(fun x=>zfG (zaK fuel).1 (zaK fuel).2 x,fun v=>zdw (zaK fuel).1 (zaK fuel).2 v)
def zet (fuel:Nat):ze→Option ze:=(zaK fuel).1
def zdp (fuel:Nat):zb→Option zb:=(zaK fuel).2
theorem zna {rec_tree_copiedValue:zb→Option zb} {rv:(List zb)} {v:(List zb)} {v2:Int} {v':(List zb)} {v2':Int} (h:zbU rec_tree_copiedValue rv v v2=some (.inl (v',v2'))):zel rec_tree_copiedValue rv v v2=zel rec_tree_copiedValue rv v' v2':=zag (body:=fun s:((List zb)×Int)=>zbU rec_tree_copiedValue rv s.1 s.2) h
theorem znb {rec_tree_copiedValue:zb→Option zb} {rv:(List zb)} {v:(List zb)} {v2:Int} {oo_:(List zb)} (h:zbU rec_tree_copiedValue rv v v2=some (.inr oo_)):zel rec_tree_copiedValue rv v v2=some oo_:=zah (body:=fun s:((List zb)×Int)=>zbU rec_tree_copiedValue rv s.1 s.2) h
theorem zjW {rec_tree_copied:ze→Option ze} {rv3:(List ze)} {v2:(List ze)} {v3:Int} {v2':(List ze)} {v3':Int} (h:zbb rec_tree_copied rv3 v2 v3=some (.inl (v2',v3'))):zcw rec_tree_copied rv3 v2 v3=zcw rec_tree_copied rv3 v2' v3':=zag (body:=fun s:((List ze)×Int)=>zbb rec_tree_copied rv3 s.1 s.2) h
theorem zjX {rec_tree_copied:ze→Option ze} {rv3:(List ze)} {v2:(List ze)} {v3:Int} {oo_:(List ze)} (h:zbb rec_tree_copied rv3 v2 v3=some (.inr oo_)):zcw rec_tree_copied rv3 v2 v3=some oo_:=zah (body:=fun s:((List ze)×Int)=>zbb rec_tree_copied rv3 s.1 s.2) h
def zjT (fuel:Nat) (x:ze):Option ze:=
 zha fuel x>>=fun rv=>
 if (!rv) then (
  some (⟨[],[]⟩:ze)
 ) else (
  zet fuel x>>=fun rv2=>
  some rv2
 )
def zhG (rec_tree_same:ze→ze→Option Bool) (rec_tree_sameValue:zb→zb→Option Bool) (rec_slices_EqualFunc___tree_Value___tree_Value_tree_Value_tree_Value___tree_sameValue:(List zb)→(List zb)→Option Bool) (rec_slices_EqualFunc___tree_Msg___tree_Msg_tree_Msg_tree_Msg___tree_same:(List ze)→(List ze)→Option Bool) (av:ze) (b:ze):Option Bool:=
 (
  rec_slices_EqualFunc___tree_Value___tree_Value_tree_Value_tree_Value___tree_sameValue av.Values b.Values>>=fun rv=>
  if rv then (
   zaW av.Unknown b.Unknown>>=fun rv2=>
   some rv2
  ) else (
   some false
  )
 )>>=fun g=>
 some g
def zeo (rec_tree_same:ze→ze→Option Bool) (rec_tree_sameValue:zb→zb→Option Bool) (rec_slices_EqualFunc___tree_Value___tree_Value_tree_Value_tree_Value___tree_sameValue:(List zb)→(List zb)→Option Bool) (rec_slices_EqualFunc___tree_Msg___tree_Msg_tree_Msg_tree_Msg___tree_same:(List ze)→(List ze)→Option Bool) (v:zb) (wv:zb):Option Bool:=
 (
  if (v.Number==wv.Number) then (
   zbv v.Words wv.Words>>=fun rv=>
   if rv then (
    zaW v.Texts wv.Texts>>=fun rv2=>
    if rv2 then (
     rec_slices_EqualFunc___tree_Msg___tree_Msg_tree_Msg_tree_Msg___tree_same v.Subs wv.Subs>>=fun rv3=>
     some rv3
    ) else (
     some false
    )
   ) else (
    some false
   )
  ) else (
   some false
  )
 )>>=fun g=>
 some g
def zu (rec_tree_sameValue:zb→zb→Option Bool) (s1:(List zb)) (s2:(List zb)) (v:Int):Option (Int⊕(Unit⊕Unit)):=
 if (decide (v<(s1.length:Int))) then (
  idx s1 v>>=fun x=>
  idx s2 v>>=fun x2=>
  rec_tree_sameValue x x2>>=fun rv=>
  if (!rv) then (
   some (.inr (.inr ()))
  ) else (
   some (.inl (IntKind.i64.wrap (v+1)))
  )
 ) else (
  some (.inr (.inl ()))
 )
def zI (rec_tree_sameValue:zb→zb→Option Bool) (s1:(List zb)) (s2:(List zb)) (v:Int):Option (Unit⊕Unit):=zaF (fun s:Int=>zu rec_tree_sameValue s1 s2 s) v
def zN (rec_tree_same:ze→ze→Option Bool) (rec_tree_sameValue:zb→zb→Option Bool) (rec_slices_EqualFunc___tree_Value___tree_Value_tree_Value_tree_Value___tree_sameValue:(List zb)→(List zb)→Option Bool) (rec_slices_EqualFunc___tree_Msg___tree_Msg_tree_Msg_tree_Msg___tree_same:(List ze)→(List ze)→Option Bool) (s1:(List zb)) (s2:(List zb)):Option Bool:=
 if ((s1.length:Int) !=(s2.length:Int)) then (
  some false
 ) else (
  zI rec_tree_sameValue s1 s2 0>>=fun q=>
  match q with
  | .inl u=>(
   some true
  )
  | .inr u2=>(
   some false
  )
 )
def zy (rec_tree_same:ze→ze→Option Bool) (s1:(List ze)) (s2:(List ze)) (v:Int):Option (Int⊕(Unit⊕Unit)):=
 if (decide (v<(s1.length:Int))) then (
  idx s1 v>>=fun x=>
  idx s2 v>>=fun x2=>
  rec_tree_same x x2>>=fun rv=>
  if (!rv) then (
   some (.inr (.inr ()))
  ) else (
   some (.inl (IntKind.i64.wrap (v+1)))
  )
 ) else (
  some (.inr (.inl ()))
 )
def zO (rec_tree_same:ze→ze→Option Bool) (s1:(List ze)) (s2:(List ze)) (v:Int):Option (Unit⊕Unit):=zaF (fun s:Int=>zy rec_tree_same s1 s2 s) v
def zS (rec_tree_same:ze→ze→Option Bool) (rec_tree_sameValue:zb→zb→Option Bool) (rec_slices_EqualFunc___tree_Value___tree_Value_tree_Value_tree_Value___tree_sameValue:(List zb)→(List zb)→Option Bool) (rec_slices_EqualFunc___tree_Msg___tree_Msg_tree_Msg_tree_Msg___tree_same:(List ze)→(List ze)→Option Bool) (s1:(List ze)) (s2:(List ze)):Option Bool:=
 if ((s1.length:Int) !=(s2.length:Int)) then (
  some false
 ) else (
  zO rec_tree_same s1 s2 0>>=fun q=>
  match q with
  | .inl u=>(
   some true
  )
  | .inr u2=>(
   some false
  )
 )
def zK:Nat→(ze→ze→Option Bool)×(zb→zb→Option Bool)×((List zb)→(List zb)→Option Bool)×((List ze)→(List ze)→Option Bool)
  | 0=>(fun _ _=>none,fun _ _=>none,fun _ _=>none,fun _ _=>none)
  | fuel+1=>(fun av b=>zhG (zK fuel).1 (zK fuel).2.1 (zK fuel).2.2.1 (zK fuel).2.2.2 av b,fun v wv=>zeo (zK fuel).1 (zK fuel).2.1 (zK fuel).2.2.1 (zK fuel).2.2.2 v wv,fun s1 s2=>zN (zK fuel).1 (zK fuel).2.1 (zK fuel).2.2.1 (zK fuel).2.2.2 s1 s2,fun s1 s2=>zS (zK fuel).1 (zK fuel).2.1 (zK fuel).2.2.1 (zK fuel).2.2.2 s1 s2)
def zen (fuel:Nat):ze→ze→Option Bool:=(zK fuel).1
def zcs (fuel:Nat):zb→zb→Option Bool:=(zK fuel).2.1
def zJ (fuel:Nat):(List zb)→(List zb)→Option Bool:=(zK fuel).2.2.1
def zP (fuel:Nat):(List ze)→(List ze)→Option Bool:=(zK fuel).2.2.2
theorem zbi {rec_tree_sameValue:zb→zb→Option Bool} {s1:(List zb)} {s2:(List zb)} {v:Int} {v':Int} (h:zu rec_tree_sameValue s1 s2 v=some (.inl v')):zI rec_tree_sameValue s1 s2 v=zI rec_tree_sameValue s1 s2 v':=zag (body:=fun s:Int=>zu rec_tree_sameValue s1 s2 s) h
theorem zaw {rec_tree_sameValue:zb→zb→Option Bool} {s1:(List zb)} {s2:(List zb)} {v:Int} {oo_:(Unit⊕Unit)} (h:zu rec_tree_sameValue s1 s2 v=some (.inr oo_)):zI rec_tree_sameValue s1 s2 v=some oo_:=zah (body:=fun s:Int=>zu rec_tree_sameValue s1 s2 s) h
theorem zbF {rec_tree_same:ze→ze→Option Bool} {s1:(List ze)} {s2:(List ze)} {v:Int} {v':Int} (h:zy rec_tree_same s1 s2 v=some (.inl v')):zO rec_tree_same s1 s2 v=zO rec_tree_same s1 s2 v':=zag (body:=fun s:Int=>zy rec_tree_same s1 s2 s) h
theorem zaC {rec_tree_same:ze→ze→Option Bool} {s1:(List ze)} {s2:(List ze)} {v:Int} {oo_:(Unit⊕Unit)} (h:zy rec_tree_same s1 s2 v=some (.inr oo_)):zO rec_tree_same s1 s2 v=some oo_:=zah (body:=fun s:Int=>zy rec_tree_same s1 s2 s) h
def zjU (fuel:Nat) (av:ze) (b:ze):Option Bool:=
 (
  zha fuel av>>=fun rv=>
  if rv then (
   zen fuel av b>>=fun rv2=>
   some rv2
  ) else (
   some false
  )
 )>>=fun g=>
 some g
def zar (rv10:(ze×Int)) (rv3:(ze×Int)) (i:Int):Option (Int⊕(Unit⊕Unit)):=
 if (decide (i<(rv3.1.Values.length:Int))) then (
  idx rv10.1.Values i>>=fun x=>
  idx rv3.1.Values i>>=fun x2=>
  if (x.Number !=x2.Number) then (
   some (.inr (.inr ()))
  ) else (
   some (.inl (IntKind.i64.wrap (i+1)))
  )
 ) else (
  some (.inr (.inl ()))
 )
def zbw (rv10:(ze×Int)) (rv3:(ze×Int)) (i:Int):Option (Unit⊕Unit):=zaF (fun s:Int=>zar rv10 rv3 s) i
def zcm (fuel:Nat) (sv:(List zi)) (root:Int) (b:(List UInt8)) (d:Int):Option Bool:=
 zdq fuel>>=fun rv=>
 if (!rv) then (
  some false
 ) else (
  zee sv>>=fun rv2=>
  if ((!rv2)|| (decide ((b.length:Int)>1500))) then (
   some true
  ) else (
   zhj fuel sv root b d>>=fun rv3=>
   if ((IntKind.i64.wrap rv3.2) !=0) then (
    zlL fuel sv root b d>>=fun rv4=>
    some (!rv4)
   ) else (
    zhH fuel sv root b>>=fun rv5=>
    (
     if ((IntKind.i64.wrap rv5.2) !=0) then (
      some true
     ) else (
      ziE fuel sv root rv3.1>>=fun rv6=>
      if (!rv6) then (
       some true
      ) else (
       zgZ fuel rv3.1>>=fun rv7=>
       if (decide (rv7>rv5.1)) then (
        some true
       ) else (
        zjT fuel rv3.1>>=fun rv8=>
        zjU fuel rv3.1 rv8>>=fun rv9=>
        some (!rv9)
       )
      )
     )
    )>>=fun g=>
    if g then (
     some false
    ) else (
     app 1 ([]:(List UInt8)) b>>=fun v3=>
     app 1 v3 b>>=fun v4=>
     zhj fuel sv root v4 d>>=fun rv10=>
     if (((IntKind.i64.wrap rv10.2) !=0)|| (((rv10.1.Values.length:Int) !=(rv3.1.Values.length:Int))|| ((rv10.1.Unknown.length:Int) !=(IntKind.i64.wrap (2*(rv3.1.Unknown.length:Int)))))) then (
      some false
     ) else (
      zbw rv10 rv3 0>>=fun q=>
      match q with
      | .inl u=>(
       some true
      )
      | .inr u2=>(
       some false
      )
     )
    )
   )
  )
 )
theorem zho {rv10:(ze×Int)} {rv3:(ze×Int)} {i:Int} {i':Int} (h:zar rv10 rv3 i=some (.inl i')):zbw rv10 rv3 i=zbw rv10 rv3 i':=zag (body:=fun s:Int=>zar rv10 rv3 s) h
theorem zhp {rv10:(ze×Int)} {rv3:(ze×Int)} {i:Int} {oo_:(Unit⊕Unit)} (h:zar rv10 rv3 i=some (.inr oo_)):zbw rv10 rv3 i=some oo_:=zah (body:=fun s:Int=>zar rv10 rv3 s) h
end
end Go.Proofs.YtcbkcblkecmjnaaGreat
