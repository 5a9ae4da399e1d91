/-
  What the Go functions do, as plain functions. No condition.
-/
import Derived.Test.YtcbkcblkecmjnaaGreatx1K2
namespace Go.Proofs.YtcbkcblkecmjnaaGreat
open Go
set_option linter.unusedVariables false
abbrev Str:=List UInt8
structure zGz where
  a0:Str
  a1:Str
  a2:Str
  a3:Str
  a4:Str
  a5:Str
  a6:Str
  a7:Str
  a8:Str
  a9:Str
  a10:Str
  a11:Str
  a12:Str
  a13:Str
  a14:Str deriving DecidableEq
structure zo where
  Number:Int
  Wire:Int
  From:Int
  At:Int
  To:Int deriving DecidableEq
def zF:Rp zo:=⟨5,true,fun x=>[.int .i64 x.Number,.int .i64 x.Wire,.int .i64 x.From,.int .i64 x.At,.int .i64 x.To],fun _=>rfl,by decide⟩
structure zf where
  Record:zo
  Field:Int
  Run:Bool deriving DecidableEq
def zg:Rp zf:=⟨7,true,fun x=>[.int .i64 x.Record.Number,.int .i64 x.Record.Wire,.int .i64 x.Record.From,.int .i64 x.Record.At,.int .i64 x.Record.To,.int .i64 x.Field,.bool x.Run],fun _=>rfl,by decide⟩
structure zw where
  name:Str
  wire:Int deriving DecidableEq
def zC:Rp zw:=⟨2,true,fun x=>[.str x.name,.int .i64 x.wire],fun _=>rfl,by decide⟩
structure zc where
  Name:Str
  Number:Int
  Kind:Int
  Repeated:Bool
  Packed:Bool
  Of:Int deriving DecidableEq
def za:Rp zc:=⟨6,true,fun x=>[.str x.Name,.int .i64 x.Number,.int .i64 x.Kind,.bool x.Repeated,.bool x.Packed,.int .i64 x.Of],fun _=>rfl,by decide⟩
mutual
structure ze where
  Values:(List zb)
  Unknown:(List Str)
structure zb where
  Number:Int
  Words:(List Int)
  Texts:(List Str)
  Subs:(List ze)
end
mutual
def zge:ze→List LV
  | ⟨x0,x1⟩=>[.sl x0.length 4 (zcO x0),.sl x1.length Rp.str.size (x1.flatMap Rp.str.lv)]
def zfF:List ze→List LV
  | []=>[]
  | x::l=>zge x++zfF l
def zde:zb→List LV
  | ⟨x0,x1,x2,x3⟩=>[.int .i64 x0,.sl x1.length (Rp.int .u64).size (x1.flatMap (Rp.int .u64).lv),.sl x2.length Rp.str.size (x2.flatMap Rp.str.lv),.sl x3.length 2 (zfF x3)]
def zcO:List zb→List LV
  | []=>[]
  | x::l=>zde x++zcO l
end
theorem zox (l:List ze):zfF l=l.flatMap zge:=by
  induction l with
  | nil=>rfl
  | cons x l ih=>rw [zfF,ih,List.flatMap_cons]
def zj:Rp ze:=⟨2,true,zge,fun x=>by cases x;rfl,by decide⟩
theorem ziU (l:List zb):zcO l=l.flatMap zde:=by
  induction l with
  | nil=>rfl
  | cons x l ih=>rw [zcO,ih,List.flatMap_cons]
def zd:Rp zb:=⟨4,true,zde,fun x=>by cases x;rfl,by decide⟩
theorem zO (x:ze):zj.lv x=[.sl x.Values.length zd.size (x.Values.flatMap zd.lv),.sl x.Unknown.length Rp.str.size (x.Unknown.flatMap Rp.str.lv)]:=by
  cases x;simp only [zj,zge,ziU,zd]<;>rfl
theorem zL (x:zb):zd.lv x=[.int .i64 x.Number,.sl x.Words.length (Rp.int .u64).size (x.Words.flatMap (Rp.int .u64).lv),.sl x.Texts.length Rp.str.size (x.Texts.flatMap Rp.str.lv),.sl x.Subs.length zj.size (x.Subs.flatMap zj.lv)]:=by
  cases x;simp only [zd,zde,zox,zj]<;>rfl
structure zh where
  Name:Str
  Fields:(List zc) deriving DecidableEq
def zi:Rp zh:=⟨2,true,fun x=>[.str x.Name,.sl x.Fields.length za.size (x.Fields.flatMap za.lv)],fun _=>rfl,by decide⟩
structure zbj where
  Number:Int
  Wire:Int deriving DecidableEq
def zfb:Rp zbj:=⟨2,true,fun x=>[.int .i64 x.Number,.int .i64 x.Wire],fun _=>rfl,by decide⟩
structure zp where
  message:Int
  name:Str deriving DecidableEq
def zu:Rp zp:=⟨2,true,fun x=>[.int .i64 x.message,.str x.name],fun _=>rfl,by decide⟩
structure zq where
  message:Int
  number:Int deriving DecidableEq
def zt:Rp zq:=⟨2,true,fun x=>[.int .i64 x.message,.int .i64 x.number],fun _=>rfl,by decide⟩
structure zaK where
  size:Int
  kinds:(List Int)
  names:(List (zp×Bool))
  numbers:(List (zq×Bool))
structure zaX where
  Message:Int
  Field:Int
  What:Int deriving DecidableEq
def zdG:Rp zaX:=⟨3,true,fun x=>[.int .i64 x.Message,.int .i64 x.Field,.int .i64 x.What],fun _=>rfl,by decide⟩
structure zK where
  number:Int
  wire:Int deriving DecidableEq
def zQ:Rp zK:=⟨2,true,fun x=>[.int .i64 x.number,.int .i64 x.wire],fun _=>rfl,by decide⟩
structure zP where
  field:Int
  run:Bool
  e:Int deriving DecidableEq
def zR:Rp zP:=⟨3,true,fun x=>[.int .i64 x.field,.bool x.run,.int .u8 x.e],fun _=>rfl,by decide⟩
structure zG where
  R:zo
  Field:Int
  Run:Bool deriving DecidableEq
def zJ:Rp zG:=⟨7,true,fun x=>[.int .i64 x.R.Number,.int .i64 x.R.Wire,.int .i64 x.R.From,.int .i64 x.R.At,.int .i64 x.R.To,.int .i64 x.Field,.bool x.Run],fun _=>rfl,by decide⟩
structure zm where
  message:Int
  number:Int
  wire:Int deriving DecidableEq
def zk:Rp zm:=⟨3,true,fun x=>[.int .i64 x.message,.int .i64 x.number,.int .i64 x.wire],fun _=>rfl,by decide⟩
structure zap where
  s:(List zh)
  b:(List UInt8)
  met:(List (zm×zf))
structure zA where
  depth:Int
  place:Int
  e:Int deriving DecidableEq
def zau:Rp zA:=⟨3,true,fun x=>[.int .i64 x.depth,.int .i64 x.place,.int .u8 x.e],fun _=>rfl,by decide⟩
structure zGA where
  a0:Int
  a1:Int deriving DecidableEq
end Go.Proofs.YtcbkcblkecmjnaaGreat
namespace Go.Proofs.YtcbkcblkecmjnaaGreat
open Go
set_option linter.unusedVariables false
noncomputable section
def zcv (n:Int):Option (List UInt8):=
 if (decide (n<0)) then (
  none
 ) else (
  if (decide ((IntKind.i64.wrap (n - (IntKind.i64.wrap (0 - 0))))>0)) then (
   mkO 1 (0:UInt8) (IntKind.i64.wrap (n - (IntKind.i64.wrap (0 - 0)))) (IntKind.i64.wrap (n - (IntKind.i64.wrap (0 - 0))))>>=fun v=>
   cut v 0 0>>=fun v2=>
   some v2
  ) else (
   some []
  )
 )
def zac (slices:(List (List UInt8))) (size:Int) (v:Int):Option ((Int×Int)⊕Int):=
 if (decide (v<(slices.length:Int))) then (
  idx slices v>>=fun x=>
  if (decide ((IntKind.i64.wrap (size+(x.length:Int)))<0)) then (
   none
  ) else (
   some (.inl ((IntKind.i64.wrap (size+(x.length:Int))),(IntKind.i64.wrap (v+1))))
  )
 ) else (
  some (.inr size)
 )
def zbh (slices:(List (List UInt8))) (size:Int) (v:Int):Option Int:=zak (fun s:(Int×Int)=>zac slices s.1 s.2) (size,v)
def zad (slices:(List (List UInt8))) (newslice:(List UInt8)) (v2:Int):Option (((List UInt8)×Int)⊕(List UInt8)):=
 if (decide (v2<(slices.length:Int))) then (
  idx slices v2>>=fun x2=>
  app 1 newslice x2>>=fun v3=>
  some (.inl (v3,(IntKind.i64.wrap (v2+1))))
 ) else (
  some (.inr newslice)
 )
def zbi (slices:(List (List UInt8))) (newslice:(List UInt8)) (v2:Int):Option (List UInt8):=zak (fun s:((List UInt8)×Int)=>zad slices s.1 s.2) (newslice,v2)
def zbY (slices:(List (List UInt8))):Option (List UInt8):=
 zbh slices 0 0>>=fun q=>
 zcv q>>=fun rv=>
 zbi slices rv 0>>=fun q2=>
 some q2
theorem zhf {slices:(List (List UInt8))} {size:Int} {v:Int} {size':Int} {v':Int} (h:zac slices size v=some (.inl (size',v'))):zbh slices size v=zbh slices size' v':=zM (body:=fun s:(Int×Int)=>zac slices s.1 s.2) h
theorem zhg {slices:(List (List UInt8))} {size:Int} {v:Int} {oo_:Int} (h:zac slices size v=some (.inr oo_)):zbh slices size v=some oo_:=zN (body:=fun s:(Int×Int)=>zac slices s.1 s.2) h
theorem zhh {slices:(List (List UInt8))} {newslice:(List UInt8)} {v2:Int} {newslice':(List UInt8)} {v2':Int} (h:zad slices newslice v2=some (.inl (newslice',v2'))):zbi slices newslice v2=zbi slices newslice' v2':=zM (body:=fun s:((List UInt8)×Int)=>zad slices s.1 s.2) h
theorem zhi {slices:(List (List UInt8))} {newslice:(List UInt8)} {v2:Int} {oo_:(List UInt8)} (h:zad slices newslice v2=some (.inr oo_)):zbi slices newslice v2=some oo_:=zN (body:=fun s:((List UInt8)×Int)=>zad slices s.1 s.2) h
def zag (sv:(List Int)) (v:Int) (v2:Int):Option (Int⊕(Unit⊕Int)):=
 if (decide (v2<(sv.length:Int))) then (
  idx sv v2>>=fun x=>
  if (v==x) then (
   some (.inr (.inr v2))
  ) else (
   some (.inl (IntKind.i64.wrap (v2+1)))
  )
 ) else (
  some (.inr (.inl ()))
 )
def zbC (sv:(List Int)) (v:Int) (v2:Int):Option (Unit⊕Int):=zak (fun s:Int=>zag sv v s) v2
def zcM (sv:(List Int)) (v:Int):Option Int:=
 zbC sv v 0>>=fun q=>
 match q with
 | .inl u=>(
  some (-1)
 )
 | .inr u2=>(
  some u2
 )
theorem zhU {sv:(List Int)} {v:Int} {v2:Int} {v2':Int} (h:zag sv v v2=some (.inl v2')):zbC sv v v2=zbC sv v v2':=zM (body:=fun s:Int=>zag sv v s) h
theorem zfr {sv:(List Int)} {v:Int} {v2:Int} {oo_:(Unit⊕Int)} (h:zag sv v v2=some (.inr oo_)):zbC sv v v2=some oo_:=zN (body:=fun s:Int=>zag sv v s) h
def zbZ (sv:(List Int)) (v:Int):Option Bool:=
 zcM sv v>>=fun rv=>
 some (decide (rv≥0))
end
end Go.Proofs.YtcbkcblkecmjnaaGreat
namespace Go.Proofs.YtcbkcblkecmjnaaGreat
open Go
set_option linter.unusedVariables false
noncomputable section
def zeg (wv2:Int) (n:Int):Option ((Int×Int)⊕Int):=
 if (wv2 !=0) then (
  some (.inl ((shrI .u64 wv2 7),(IntKind.i64.wrap (n+1))))
 ) else (
  some (.inr n)
 )
def zgW (wv2:Int) (n:Int):Option Int:=zak (fun s:(Int×Int)=>zeg s.1 s.2) (wv2,n)
def zmA (wv:Int):Option Int:=
 zgW (shrI .u64 wv 7) 1>>=fun q=>
 some q
theorem zrl {wv2:Int} {n:Int} {wv2':Int} {n':Int} (h:zeg wv2 n=some (.inl (wv2',n'))):zgW wv2 n=zgW wv2' n':=zM (body:=fun s:(Int×Int)=>zeg s.1 s.2) h
theorem zrm {wv2:Int} {n:Int} {oo_:Int} (h:zeg wv2 n=some (.inr oo_)):zgW wv2 n=some oo_:=zN (body:=fun s:(Int×Int)=>zeg s.1 s.2) h
def zhG (wv:Int):Option Int:=
 some (IntKind.u32.wrap wv)
def zic (wv:Int):Option Int:=
 zhG wv>>=fun rv=>
 some (IntKind.i32.wrap rv)
def zid (n:Int):Option Int:=
 some (IntKind.u64.wrap (IntKind.i64.wrap n))
def zdA (v:(List UInt8)) (wv:Int) (v2:Int):Option ((Int×Int)⊕Int):=
 if (decide (v2<(v.length:Int))) then (
  idx v v2>>=fun x=>
  shlO .u64 (IntKind.u64.wrap (x.toNat:Int)) (IntKind.i64.wrap (8*v2))>>=fun v3=>
  some (.inl ((orI .u64 wv v3),(IntKind.i64.wrap (v2+1))))
 ) else (
  some (.inr wv)
 )
def zgv (v:(List UInt8)) (wv:Int) (v2:Int):Option Int:=zak (fun s:(Int×Int)=>zdA v s.1 s.2) (wv,v2)
def zkQ (b:(List UInt8)):Option Int:=
 cut b 0 (if (8:Int)<(b.length:Int) then 8 else (b.length:Int))>>=fun v=>
 zgv v 0 0>>=fun q=>
 some q
theorem zpU {v:(List UInt8)} {wv:Int} {v2:Int} {wv':Int} {v2':Int} (h:zdA v wv v2=some (.inl (wv',v2'))):zgv v wv v2=zgv v wv' v2':=zM (body:=fun s:(Int×Int)=>zdA v s.1 s.2) h
theorem zpV {v:(List UInt8)} {wv:Int} {v2:Int} {oo_:Int} (h:zdA v wv v2=some (.inr oo_)):zgv v wv v2=some oo_:=zN (body:=fun s:(Int×Int)=>zdA v s.1 s.2) h
def zaY (b:(List UInt8)) (wv:Int) (place:Int) (i:Int):Option ((Int×Int×Int)⊕Int):=
 if ((decide (i<(b.length:Int)))&&(decide (i<8))) then (
  idx b i>>=fun x=>
  some (.inl ((IntKind.u64.wrap (wv+(IntKind.u64.wrap ((IntKind.u64.wrap (x.toNat:Int))*place)))),(IntKind.u64.wrap (place*256)),(IntKind.i64.wrap (i+1))))
 ) else (
  some (.inr wv)
 )
def zcB (b:(List UInt8)) (wv:Int) (place:Int) (i:Int):Option Int:=zak (fun s:(Int×Int×Int)=>zaY b s.1 s.2.1 s.2.2) (wv,place,i)
def zeN (b:(List UInt8)):Option Int:=
 zcB b 0 1 0>>=fun q=>
 some q
theorem zkq {b:(List UInt8)} {wv:Int} {place:Int} {i:Int} {wv':Int} {place':Int} {i':Int} (h:zaY b wv place i=some (.inl (wv',place',i'))):zcB b wv place i=zcB b wv' place' i':=zM (body:=fun s:(Int×Int×Int)=>zaY b s.1 s.2.1 s.2.2) h
theorem zkr {b:(List UInt8)} {wv:Int} {place:Int} {i:Int} {oo_:Int} (h:zaY b wv place i=some (.inr oo_)):zcB b wv place i=some oo_:=zN (body:=fun s:(Int×Int×Int)=>zaY b s.1 s.2.1 s.2.2) h
def zdU (wv:Int):Option Int:=
 if (decide ((IntKind.i64.wrap (Int.tmod wv 4294967296))≥2147483648)) then (
  some (IntKind.i64.wrap ((IntKind.i64.wrap (Int.tmod wv 4294967296)) - 4294967296))
 ) else (
  some (IntKind.i64.wrap (Int.tmod wv 4294967296))
 )
def zeM (n:Int):Option Int:=
 if (decide (n≥0)) then (
  some (IntKind.u64.wrap n)
 ) else (
  some (IntKind.u64.wrap (18446744073709551615 - (IntKind.u64.wrap (IntKind.i64.wrap (0 - (IntKind.i64.wrap (n+1)))))))
 )
end
end Go.Proofs.YtcbkcblkecmjnaaGreat
namespace Go.Proofs.YtcbkcblkecmjnaaGreat
open Go
set_option linter.unusedVariables false
noncomputable section
def zca (v:(List UInt8)) (wv:Int) (v2:Int):Option ((Int×Int)⊕(Unit⊕(Int×Int×Int))):=
 if (decide (v2<(v.length:Int))) then (
  idx v v2>>=fun x=>
  if ((v2==9)&&(decide ((x.toNat:Int)>1))) then (
   some (.inr (.inr (0,0,4)))
  ) else (
   shlO .u64 (IntKind.u64.wrap (andI .u8 (x.toNat:Int) 127)) (IntKind.i64.wrap (7*v2))>>=fun v4=>
   if (decide ((x.toNat:Int)<128)) then (
    some (.inr (.inr ((orI .u64 wv v4),(IntKind.i64.wrap (v2+1)),0)))
   ) else (
    some (.inl ((orI .u64 wv v4),(IntKind.i64.wrap (v2+1))))
   )
  )
 ) else (
  some (.inr (.inl ()))
 )
def zfs (v:(List UInt8)) (wv:Int) (v2:Int):Option (Unit⊕(Int×Int×Int)):=zak (fun s:(Int×Int)=>zca v s.1 s.2) (wv,v2)
def zfA (b:(List UInt8)):Option (Int×Int×Int):=
 cut b 0 (if (10:Int)<(b.length:Int) then 10 else (b.length:Int))>>=fun v=>
 zfs v 0 0>>=fun q=>
 match q with
 | .inl u=>(
  some (0,0,3)
 )
 | .inr u2=>(
  some (u2.1,u2.2.1,u2.2.2)
 )
theorem zoO {v:(List UInt8)} {wv:Int} {v2:Int} {wv':Int} {v2':Int} (h:zca v wv v2=some (.inl (wv',v2'))):zfs v wv v2=zfs v wv' v2':=zM (body:=fun s:(Int×Int)=>zca v s.1 s.2) h
theorem zgV {v:(List UInt8)} {wv:Int} {v2:Int} {oo_:(Unit⊕(Int×Int×Int))} (h:zca v wv v2=some (.inr oo_)):zfs v wv v2=some oo_:=zN (body:=fun s:(Int×Int)=>zca v s.1 s.2) h
def zaL (av:(List Int)) (b:(List Int)) (i:Int):Option (Int⊕(Unit⊕Unit)):=
 if (decide (i<(av.length:Int))) then (
  idx av i>>=fun x=>
  idx b i>>=fun x2=>
  if (x !=x2) then (
   some (.inr (.inr ()))
  ) else (
   some (.inl (IntKind.i64.wrap (i+1)))
  )
 ) else (
  some (.inr (.inl ()))
 )
def zbF (av:(List Int)) (b:(List Int)) (i:Int):Option (Unit⊕Unit):=zak (fun s:Int=>zaL av b s) i
def zci (av:(List Int)) (b:(List Int)):Option Bool:=
 if ((av.length:Int) !=(b.length:Int)) then (
  some false
 ) else (
  zbF av b 0>>=fun q=>
  match q with
  | .inl u=>(
   some true
  )
  | .inr u2=>(
   some false
  )
 )
theorem zkv {av:(List Int)} {b:(List Int)} {i:Int} {i':Int} (h:zaL av b i=some (.inl i')):zbF av b i=zbF av b i':=zM (body:=fun s:Int=>zaL av b s) h
theorem zgI {av:(List Int)} {b:(List Int)} {i:Int} {oo_:(Unit⊕Unit)} (h:zaL av b i=some (.inr oo_)):zbF av b i=some oo_:=zN (body:=fun s:Int=>zaL av b s) h
def zaA (atv:Int) (b:(List UInt8)) (n:Int):Option (Int⊕Int):=
 (
  if (decide ((IntKind.i64.wrap (atv+n))<(b.length:Int))) then (
   if (decide (n<10)) then (
    idx b (IntKind.i64.wrap (atv+n))>>=fun x=>
    some (decide ((x.toNat:Int)≥128))
   ) else (
    some false
   )
  ) else (
   some false
  )
 )>>=fun g=>
 if g then (
  some (.inl (IntKind.i64.wrap (n+1)))
 ) else (
  some (.inr n)
 )
def zcC (atv:Int) (b:(List UInt8)) (n:Int):Option Int:=zak (fun s:Int=>zaA atv b s) n
def zaZ (atv:Int) (b:(List UInt8)) (wv:Int) (i:Int):Option ((Int×Int)⊕Int):=
 if (decide (i≥0)) then (
  idx b (IntKind.i64.wrap (atv+i))>>=fun x3=>
  some (.inl ((IntKind.u64.wrap ((IntKind.u64.wrap (128*wv))+(IntKind.u64.wrap (Int.tmod (x3.toNat:Int) 128)))),(IntKind.i64.wrap (i - 1))))
 ) else (
  some (.inr wv)
 )
def zcD (atv:Int) (b:(List UInt8)) (wv:Int) (i:Int):Option Int:=zak (fun s:(Int×Int)=>zaZ atv b s.1 s.2) (wv,i)
def zbc (b:(List UInt8)) (atv:Int):Option (Int×Int×Int):=
 zcC atv b 0>>=fun q=>
 if (q==10) then (
  some (0,0,4)
 ) else (
  if ((IntKind.i64.wrap (atv+q))==(b.length:Int)) then (
   some (0,0,3)
  ) else (
   (
    if (q==9) then (
     idx b (IntKind.i64.wrap (atv+q))>>=fun x2=>
     some (decide ((x2.toNat:Int)>1))
    ) else (
     some false
    )
   )>>=fun g2=>
   if g2 then (
    some (0,0,4)
   ) else (
    zcD atv b 0 q>>=fun q2=>
    some (q2,(IntKind.i64.wrap (q+1)),0)
   )
  )
 )
theorem zks {atv:Int} {b:(List UInt8)} {n:Int} {n':Int} (h:zaA atv b n=some (.inl n')):zcC atv b n=zcC atv b n':=zM (body:=fun s:Int=>zaA atv b s) h
theorem zfd {atv:Int} {b:(List UInt8)} {n:Int} {oo_:Int} (h:zaA atv b n=some (.inr oo_)):zcC atv b n=some oo_:=zN (body:=fun s:Int=>zaA atv b s) h
theorem zkt {atv:Int} {b:(List UInt8)} {wv:Int} {i:Int} {wv':Int} {i':Int} (h:zaZ atv b wv i=some (.inl (wv',i'))):zcD atv b wv i=zcD atv b wv' i':=zM (body:=fun s:(Int×Int)=>zaZ atv b s.1 s.2) h
theorem zku {atv:Int} {b:(List UInt8)} {wv:Int} {i:Int} {oo_:Int} (h:zaZ atv b wv i=some (.inr oo_)):zcD atv b wv i=some oo_:=zN (body:=fun s:(Int×Int)=>zaZ atv b s.1 s.2) h
def zhd (b:(List UInt8)):Option (Int×Int):=
 zfA b>>=fun rv=>
 some (rv.2.1,rv.2.2)
end
end Go.Proofs.YtcbkcblkecmjnaaGreat
namespace Go.Proofs.YtcbkcblkecmjnaaGreat
open Go
set_option linter.unusedVariables false
noncomputable section
def zgP (wire:Int):Option Bool:=
 if (wire==0) then (
  if (wire==0) then (
   some true
  ) else (
   some false
  )
 ) else (
  if (wire==1) then (
   if (wire==1) then (
    some true
   ) else (
    some false
   )
  ) else (
   if (wire==2) then (
    if (wire==2) then (
     some true
    ) else (
     some false
    )
   ) else (
    if (wire==5) then (
     some true
    ) else (
     some false
    )
   )
  )
 )
def zlm (t:zbj):Option Bool:=
 (
  if (decide (t.Number≥1)) then (
   if (decide (t.Number≤536870911)) then (
    zgP t.Wire>>=fun rv=>
    some rv
   ) else (
    some false
   )
  ) else (
   some false
  )
 )>>=fun g=>
 some g
def zng (b:(List UInt8)):Option (zbj×Int×Int):=
 zfA b>>=fun rv=>
 if (rv.2.2 !=0) then (
  some ((⟨0,0⟩:zbj),0,rv.2.2)
 ) else (
  zlm (⟨(IntKind.i64.wrap (if (536870912:Int)<(shrI .u64 rv.1 3) then 536870912 else (shrI .u64 rv.1 3))),(IntKind.i64.wrap (andI .u64 rv.1 7))⟩:zbj)>>=fun rv2=>
  if (!rv2) then (
   some ((⟨0,0⟩:zbj),0,5)
  ) else (
   some ((⟨(IntKind.i64.wrap (if (536870912:Int)<(shrI .u64 rv.1 3) then 536870912 else (shrI .u64 rv.1 3))),(IntKind.i64.wrap (andI .u64 rv.1 7))⟩:zbj),rv.2.1,0)
  )
 )
def zel (number:Int) (wire:Int):Option Bool:=
 some ((decide (number≥1))&&((decide (number≤536870911))&&((wire==0)|| ((wire==1)|| ((wire==2)|| (wire==5))))))
def zeO (b:(List UInt8)) (atv:Int):Option (Int×Int×Int×Int):=
 zbc b atv>>=fun rv=>
 if (rv.2.2 !=0) then (
  some (0,0,0,rv.2.2)
 ) else (
  (
   if (decide (rv.1>4294967295)) then (
    some true
   ) else (
    zel (IntKind.i64.wrap (IntKind.u64.wrap (Int.tdiv rv.1 8))) (IntKind.i64.wrap (Int.tmod rv.1 8))>>=fun rv2=>
    some (!rv2)
   )
  )>>=fun g=>
  if g then (
   some (0,0,0,5)
  ) else (
   some ((IntKind.i64.wrap (IntKind.u64.wrap (Int.tdiv rv.1 8))),(IntKind.i64.wrap (Int.tmod rv.1 8)),rv.2.1,0)
  )
 )
end
end Go.Proofs.YtcbkcblkecmjnaaGreat
namespace Go.Proofs.YtcbkcblkecmjnaaGreat
open Go
set_option linter.unusedVariables false
noncomputable section
def zpK (c:Int):Option (Int×Int):=
 if ((shrI .u8 c 7)==0) then (
  some (1,(IntKind.u32.wrap c))
 ) else (
  if ((shrI .u8 c 5)==6) then (
   some (2,(IntKind.u32.wrap (andI .u8 c 31)))
  ) else (
   if ((shrI .u8 c 4)==14) then (
    some (3,(IntKind.u32.wrap (andI .u8 c 15)))
   ) else (
    if ((shrI .u8 c 3)==30) then (
     some (4,(IntKind.u32.wrap (andI .u8 c 7)))
    ) else (
     some (0,0)
    )
   )
  )
 )
def zlr (wv:Int):Option Int:=
 if ((shrI .u32 wv 7)==0) then (
  some 1
 ) else (
  if ((shrI .u32 wv 11)==0) then (
   some 2
  ) else (
   if ((shrI .u32 wv 11)==27) then (
    some 0
   ) else (
    if ((shrI .u32 wv 16)==0) then (
     some 3
    ) else (
     if (decide (wv≤1114111)) then (
      some 4
     ) else (
      some 0
     )
    )
   )
  )
 )
def zdK (v2:(List UInt8)) (wv:Int) (v3:Int):Option ((Int×Int)⊕(Int⊕Unit)):=
 if (decide (v3<(v2.length:Int))) then (
  idx v2 v3>>=fun x2=>
  if ((shrI .u8 (x2.toNat:Int) 6) !=2) then (
   some (.inr (.inr ()))
  ) else (
   some (.inl ((orI .u32 (shlI .u32 wv 6) (IntKind.u32.wrap (andI .u8 (x2.toNat:Int) 63))),(IntKind.i64.wrap (v3+1))))
  )
 ) else (
  some (.inr (.inl wv))
 )
def zck (v2:(List UInt8)) (wv:Int) (v3:Int):Option (Int⊕Unit):=zak (fun s:(Int×Int)=>zdK v2 s.1 s.2) (wv,v3)
def zlq (b:(List UInt8)):Option Int:=
 if ((b.length:Int)==0) then (
  some 0
 ) else (
  idx b 0>>=fun x=>
  zpK (x.toNat:Int)>>=fun rv=>
  if ((rv.1==0)|| (decide (rv.1>(b.length:Int)))) then (
   some 0
  ) else (
   cut b 1 rv.1>>=fun v2=>
   zck v2 rv.2 0>>=fun q=>
   match q with
   | .inl u=>(
    zlr u>>=fun rv2=>
    if (rv.1 !=rv2) then (
     some 0
    ) else (
     some rv.1
    )
   )
   | .inr u2=>(
    some 0
   )
  )
 )
theorem zrt {v2:(List UInt8)} {wv:Int} {v3:Int} {wv':Int} {v3':Int} (h:zdK v2 wv v3=some (.inl (wv',v3'))):zck v2 wv v3=zck v2 wv' v3':=zM (body:=fun s:(Int×Int)=>zdK v2 s.1 s.2) h
theorem zmb {v2:(List UInt8)} {wv:Int} {v3:Int} {oo_:(Int⊕Unit)} (h:zdK v2 wv v3=some (.inr oo_)):zck v2 wv v3=some oo_:=zN (body:=fun s:(Int×Int)=>zdK v2 s.1 s.2) h
def zei (b:(List UInt8)) (atv:Int) (points:Int) (size:Int):Option ((Int×Int×Int)⊕(Int×Int)):=
 if (decide (size>0)) then (
  cut b (IntKind.i64.wrap (atv+size)) (b.length:Int)>>=fun v=>
  zlq v>>=fun rv2=>
  some (.inl ((IntKind.i64.wrap (atv+size)),(IntKind.i64.wrap (points+1)),rv2))
 ) else (
  some (.inr (atv,points))
 )
def zgs (b:(List UInt8)) (atv:Int) (points:Int) (size:Int):Option (Int×Int):=zak (fun s:(Int×Int×Int)=>zei b s.1 s.2.1 s.2.2) (atv,points,size)
def znj (b:(List UInt8)):Option (Int×Int):=
 zlq b>>=fun rv=>
 zgs b 0 0 rv>>=fun q=>
 some (q.1,q.2)
theorem zru {b:(List UInt8)} {atv:Int} {points:Int} {size:Int} {atv':Int} {points':Int} {size':Int} (h:zei b atv points size=some (.inl (atv',points',size'))):zgs b atv points size=zgs b atv' points' size':=zM (body:=fun s:(Int×Int×Int)=>zei b s.1 s.2.1 s.2.2) h
theorem zrv {b:(List UInt8)} {atv:Int} {points:Int} {size:Int} {oo_:(Int×Int)} (h:zei b atv points size=some (.inr oo_)):zgs b atv points size=some oo_:=zN (body:=fun s:(Int×Int×Int)=>zei b s.1 s.2.1 s.2.2) h
def zlp (b:(List UInt8)):Option Int:=
 znj b>>=fun rv=>
 some rv.1
def zjd (b:(List UInt8)):Option Bool:=
 zlp b>>=fun rv=>
 some (rv==(b.length:Int))
def zfm (rv:Int):Option (List UInt8):=
 if ((decide (rv<0))|| ((decide (rv>1114111))|| ((decide (rv≥55296))&&(decide (rv≤57343))))) then (
  some []
 ) else (
  if (decide (rv<128)) then (
   ziJ (IntKind.u8.wrap rv)>>=fun y=>
   some ([y]:List UInt8)
  ) else (
   if (decide (rv<2048)) then (
    ziJ (IntKind.u8.wrap (IntKind.i64.wrap (192+(IntKind.i64.wrap (Int.tdiv rv 64)))))>>=fun y2=>
    ziJ (IntKind.u8.wrap (IntKind.i64.wrap (128+(Int.tmod rv 64))))>>=fun y3=>
    some ([y2,y3]:List UInt8)
   ) else (
    if (decide (rv<65536)) then (
     ziJ (IntKind.u8.wrap (IntKind.i64.wrap (224+(IntKind.i64.wrap (Int.tdiv rv 4096)))))>>=fun y4=>
     ziJ (IntKind.u8.wrap (IntKind.i64.wrap (128+(Int.tmod (IntKind.i64.wrap (Int.tdiv rv 64)) 64))))>>=fun y5=>
     ziJ (IntKind.u8.wrap (IntKind.i64.wrap (128+(Int.tmod rv 64))))>>=fun y6=>
     some ([y4,y5,y6]:List UInt8)
    ) else (
     ziJ (IntKind.u8.wrap (IntKind.i64.wrap (240+(IntKind.i64.wrap (Int.tdiv rv 262144)))))>>=fun y7=>
     ziJ (IntKind.u8.wrap (IntKind.i64.wrap (128+(Int.tmod (IntKind.i64.wrap (Int.tdiv rv 4096)) 64))))>>=fun y8=>
     ziJ (IntKind.u8.wrap (IntKind.i64.wrap (128+(Int.tmod (IntKind.i64.wrap (Int.tdiv rv 64)) 64))))>>=fun y9=>
     ziJ (IntKind.u8.wrap (IntKind.i64.wrap (128+(Int.tmod rv 64))))>>=fun y10=>
     some ([y7,y8,y9,y10]:List UInt8)
    )
   )
  )
 )
def zbb (atv:Int) (b:(List UInt8)) (n:Int) (rv2:Int) (i:Int):Option ((Int×Int)⊕Int):=
 if (decide (i<n)) then (
  idx b (IntKind.i64.wrap (atv+i))>>=fun x3=>
  some (.inl ((IntKind.i64.wrap ((IntKind.i64.wrap (64*rv2))+(Int.tmod (IntKind.i64.wrap (x3.toNat:Int)) 64))),(IntKind.i64.wrap (i+1))))
 ) else (
  some (.inr rv2)
 )
def zbo (atv:Int) (b:(List UInt8)) (n:Int) (rv2:Int) (i:Int):Option Int:=zak (fun s:(Int×Int)=>zbb atv b n s.1 s.2) (rv2,i)
def zba (atv:Int) (b:(List UInt8)) (n:Int):Option (Int⊕(Unit⊕Int)):=
 if ((decide (n≤4))&&(decide ((IntKind.i64.wrap (atv+n))≤(b.length:Int)))) then (
  idx b atv>>=fun x=>
  ((
   if (decide (n>1)) then (
    idx ([0,0,32,16,8]:(List Int)) n>>=fun x2=>
    remI (IntKind.i64.wrap (x.toNat:Int)) x2>>=fun v3=>
    some v3
   ) else (
    some (IntKind.i64.wrap (x.toNat:Int))
   )
   :Option Int))>>=fun p=>
  zbo atv b n p 1>>=fun q=>
  zfm q>>=fun rv4=>
  cut b atv (IntKind.i64.wrap (atv+n))>>=fun v4=>
  if (rv4==v4) then (
   some (.inr (.inr n))
  ) else (
   some (.inl (IntKind.i64.wrap (n+1)))
  )
 ) else (
  some (.inr (.inl ()))
 )
def zcF (atv:Int) (b:(List UInt8)) (n:Int):Option (Unit⊕Int):=zak (fun s:Int=>zba atv b s) n
def zeP (b:(List UInt8)) (atv:Int):Option Int:=
 zcF atv b 1>>=fun q2=>
 match q2 with
 | .inl u=>(
  some 0
 )
 | .inr u2=>(
  some u2
 )
theorem zkx {atv:Int} {b:(List UInt8)} {n:Int} {rv2:Int} {i:Int} {rv2':Int} {i':Int} (h:zbb atv b n rv2 i=some (.inl (rv2',i'))):zbo atv b n rv2 i=zbo atv b n rv2' i':=zM (body:=fun s:(Int×Int)=>zbb atv b n s.1 s.2) h
theorem zky {atv:Int} {b:(List UInt8)} {n:Int} {rv2:Int} {i:Int} {oo_:Int} (h:zbb atv b n rv2 i=some (.inr oo_)):zbo atv b n rv2 i=some oo_:=zN (body:=fun s:(Int×Int)=>zbb atv b n s.1 s.2) h
theorem zkw {atv:Int} {b:(List UInt8)} {n:Int} {n':Int} (h:zba atv b n=some (.inl n')):zcF atv b n=zcF atv b n':=zM (body:=fun s:Int=>zba atv b s) h
theorem zfe {atv:Int} {b:(List UInt8)} {n:Int} {oo_:(Unit⊕Int)} (h:zba atv b n=some (.inr oo_)):zcF atv b n=some oo_:=zN (body:=fun s:Int=>zba atv b s) h
def zaQ (b:(List UInt8)) (most:Int) (atv:Int) (count:Int):Option ((Int×Int)⊕(Int×Int)):=
 zeP b atv>>=fun rv=>
 if ((rv==0)|| (decide ((IntKind.i64.wrap (atv+rv))>most))) then (
  some (.inr (atv,count))
 ) else (
  some (.inl ((IntKind.i64.wrap (atv+rv)),(IntKind.i64.wrap (count+1))))
 )
def zbQ (b:(List UInt8)) (most:Int) (atv:Int) (count:Int):Option (Int×Int):=zak (fun s:(Int×Int)=>zaQ b most s.1 s.2) (atv,count)
def zem (b:(List UInt8)) (most:Int):Option (Int×Int):=
 zbQ b most 0 0>>=fun q=>
 some (q.1,q.2)
theorem zjJ {b:(List UInt8)} {most:Int} {atv:Int} {count:Int} {atv':Int} {count':Int} (h:zaQ b most atv count=some (.inl (atv',count'))):zbQ b most atv count=zbQ b most atv' count':=zM (body:=fun s:(Int×Int)=>zaQ b most s.1 s.2) h
theorem zjK {b:(List UInt8)} {most:Int} {atv:Int} {count:Int} {oo_:(Int×Int)} (h:zaQ b most atv count=some (.inr oo_)):zbQ b most atv count=some oo_:=zN (body:=fun s:(Int×Int)=>zaQ b most s.1 s.2) h
def zcz (b:(List UInt8)):Option Bool:=
 zem b (b.length:Int)>>=fun rv=>
 some (rv.1==(b.length:Int))
end
end Go.Proofs.YtcbkcblkecmjnaaGreat
namespace Go.Proofs.YtcbkcblkecmjnaaGreat
open Go
set_option linter.unusedVariables false
noncomputable section
def ziu (wire:Int) (b:(List UInt8)):Option (Int×Int×Int):=
 if (wire==0) then (
  zhd b>>=fun rv=>
  some (0,rv.1,rv.2)
 ) else (
  ((
   if (wire==1) then (
    some (0,0,8)
   ) else (
    if (wire==5) then (
     some (0,0,4)
    ) else (
     if (wire==2) then (
      zfA b>>=fun rv2=>
      some (rv2.2.1,rv2.2.2,rv2.1)
     ) else (
      some (0,0,0)
     )
    )
   )
   :Option (Int×Int×Int)))>>=fun p=>
  if (p.2.1 !=0) then (
   some (0,0,p.2.1)
  ) else (
   if (decide (p.2.2>(IntKind.u64.wrap (IntKind.i64.wrap ((b.length:Int) - p.1))))) then (
    some (0,0,3)
   ) else (
    some (p.1,(IntKind.i64.wrap (p.1+(IntKind.i64.wrap p.2.2))),0)
   )
  )
 )
def zha (b:(List UInt8)) (fromv:Int):Option (zo×Int):=
 if ((decide (fromv<0))|| (decide (fromv≥(b.length:Int)))) then (
  some ((⟨0,0,0,0,0⟩:zo),2)
 ) else (
  cut b fromv (b.length:Int)>>=fun v2=>
  zng v2>>=fun rv=>
  if (rv.2.2 !=0) then (
   some ((⟨0,0,0,0,0⟩:zo),rv.2.2)
  ) else (
   cut b (IntKind.i64.wrap (fromv+rv.2.1)) (b.length:Int)>>=fun v3=>
   ziu rv.1.Wire v3>>=fun rv2=>
   if (rv2.2.2 !=0) then (
    some ((⟨0,0,0,0,0⟩:zo),rv2.2.2)
   ) else (
    some ((⟨rv.1.Number,rv.1.Wire,fromv,(IntKind.i64.wrap ((IntKind.i64.wrap (fromv+rv.2.1))+rv2.1)),(IntKind.i64.wrap ((IntKind.i64.wrap (fromv+rv.2.1))+rv2.2.1))⟩:zo),0)
   )
  )
 )
def zeQ (wire:Int) (value:(List UInt8)):Option Bool:=
 if (wire==0) then (
  zbc value 0>>=fun rv=>
  some ((rv.2.2==0)&&(rv.2.1==(value.length:Int)))
 ) else (
  some ((wire==2)|| (if (wire==1) then (((value.length:Int)==8)|| ((wire==5)&&((value.length:Int)==4))) else ((wire==5)&&((value.length:Int)==4))))
 )
def zdM (b:(List UInt8)) (fromv:Int):Option (zo×Int):=
 if ((decide (fromv<0))|| (decide (fromv≥(b.length:Int)))) then (
  some ((⟨0,0,0,0,0⟩:zo),2)
 ) else (
  zeO b fromv>>=fun rv=>
  if (rv.2.2.2 !=0) then (
   some ((⟨0,0,0,0,0⟩:zo),rv.2.2.2)
  ) else (
   ((
    if (rv.2.1==5) then (
     some 4
    ) else (
     some 8
    )
    :Option Int))>>=fun p=>
   ((
    if (rv.2.1==0) then (
     zbc b (IntKind.i64.wrap (fromv+rv.2.2.1))>>=fun rv2=>
     if (rv2.2.2 !=0) then (
      some (.inr rv2.2.2)
     ) else (
      some (.inl rv2.2.1)
     )
    ) else (
     some (.inl p)
    )
    :Option (Int⊕Int)))>>=fun p2=>
   match p2 with
   | .inl u=>(
    ((
     if (rv.2.1==2) then (
      zbc b (IntKind.i64.wrap (fromv+rv.2.2.1))>>=fun rv3=>
      if (rv3.2.2 !=0) then (
       some (.inr rv3.2.2)
      ) else (
       if (decide (rv3.1>(IntKind.u64.wrap (IntKind.i64.wrap ((IntKind.i64.wrap ((b.length:Int) - (IntKind.i64.wrap (fromv+rv.2.2.1)))) - rv3.2.1))))) then (
        some (.inr 3)
       ) else (
        some (.inl ((IntKind.i64.wrap ((IntKind.i64.wrap ((b.length:Int) - (IntKind.i64.wrap (fromv+rv.2.2.1)))) - rv3.2.1)),(IntKind.i64.wrap rv3.1),(IntKind.i64.wrap ((IntKind.i64.wrap (fromv+rv.2.2.1))+rv3.2.1))))
       )
      )
     ) else (
      some (.inl ((IntKind.i64.wrap ((b.length:Int) - (IntKind.i64.wrap (fromv+rv.2.2.1)))),u,(IntKind.i64.wrap (fromv+rv.2.2.1))))
     )
     :Option ((Int×Int×Int)⊕Int)))>>=fun p3=>
    match p3 with
    | .inl u2=>(
     if (decide (u2.2.1>u2.1)) then (
      some ((⟨0,0,0,0,0⟩:zo),3)
     ) else (
      some ((⟨rv.1,rv.2.1,fromv,u2.2.2,(IntKind.i64.wrap (u2.2.2+u2.2.1))⟩:zo),0)
     )
    )
    | .inr u3=>(
     some ((⟨0,0,0,0,0⟩:zo),u3)
    )
   )
   | .inr u4=>(
    some ((⟨0,0,0,0,0⟩:zo),u4)
   )
  )
 )
end
end Go.Proofs.YtcbkcblkecmjnaaGreat
namespace Go.Proofs.YtcbkcblkecmjnaaGreat
open Go
set_option linter.unusedVariables false
noncomputable section
def zlH (wv:Int):Option Int:=
 some (if (1:Int)<wv then 1 else wv)
def zhN (k:Int) (wv:Int):Option (Int×Int):=
 ((
  if (k==1) then (
   some (k==1)
  ) else (
   some (k==8)
  )
  :Option Bool))>>=fun p=>
 if p then (
  zic wv>>=fun rv=>
  zid rv>>=fun rv2=>
  some (rv2,0)
 ) else (
  ((
   if (k==3) then (
    some (k==3)
   ) else (
    if (k==5) then (
     some (k==5)
    ) else (
     if (k==9) then (
      some (k==9)
     ) else (
      if (k==10) then (
       some (k==10)
      ) else (
       some (k==11)
      )
     )
    )
   )
   :Option Bool))>>=fun p2=>
  if p2 then (
   zhG wv>>=fun rv3=>
   some ((IntKind.u64.wrap rv3),0)
  ) else (
   if (k==7) then (
    zlH wv>>=fun rv4=>
    some (rv4,0)
   ) else (
    ((
     if (k==2) then (
      some (k==2)
     ) else (
      if (k==4) then (
       some (k==4)
      ) else (
       if (k==6) then (
        some (k==6)
       ) else (
        if (k==12) then (
         some (k==12)
        ) else (
         if (k==13) then (
          some (k==13)
         ) else (
          some (k==14)
         )
        )
       )
      )
     )
     :Option Bool))>>=fun p3=>
    if p3 then (
     some (wv,0)
    ) else (
     some (0,2)
    )
   )
  )
 )
def zjp:Option (List (Int×zw)):=
 some (mput (mput (mput (mput (mput (mput (mput (mput (mput (mput (mput (mput (mput (mput (mput (mput (mput ([]:(List (Int×zw))) 1 (⟨[105,110,116,51,50],0⟩:zw)) 2 (⟨[105,110,116,54,52],0⟩:zw)) 3 (⟨[117,105,110,116,51,50],0⟩:zw)) 4 (⟨[117,105,110,116,54,52],0⟩:zw)) 5 (⟨[115,105,110,116,51,50],0⟩:zw)) 6 (⟨[115,105,110,116,54,52],0⟩:zw)) 7 (⟨[98,111,111,108],0⟩:zw)) 8 (⟨[101,110,117,109],0⟩:zw)) 9 (⟨[102,105,120,101,100,51,50],5⟩:zw)) 10 (⟨[115,102,105,120,101,100,51,50],5⟩:zw)) 11 (⟨[102,108,111,97,116],5⟩:zw)) 12 (⟨[102,105,120,101,100,54,52],1⟩:zw)) 13 (⟨[115,102,105,120,101,100,54,52],1⟩:zw)) 14 (⟨[100,111,117,98,108,101],1⟩:zw)) 15 (⟨[115,116,114,105,110,103],2⟩:zw)) 16 (⟨[98,121,116,101,115],2⟩:zw)) 17 (⟨[109,101,115,115,97,103,101],2⟩:zw))
def zmQ:Option (List Int):=
 zjp>>=fun rv=>
 zpb rv>>=fun v=>
 some v
def zjb (k:Int):Option (Int×Int):=
 zjp>>=fun rv=>
 if (!(mget rv k).isSome) then (
  some (0,2)
 ) else (
  some (((mget rv k).getD (⟨[],0⟩:zw)).wire,0)
 )
def zds (k:Int):Option Bool:=
 some ((decide (k≥1))&&(decide (k≤17)))
def zgZ (k:Int):Option Bool:=
 zjb k>>=fun rv=>
 some ((rv.2==0)&&(rv.1 !=2))
def zdb (k:Int):Option Int:=
 if (decide (k≥15)) then (
  some 2
 ) else (
  if (decide (k≥12)) then (
   some 1
  ) else (
   if (decide (k≥9)) then (
    some 5
   ) else (
    some 0
   )
  )
 )
def zbm (k:Int):Option Bool:=
 some ((decide (k≥1))&&(decide (k≤14)))
def zdr (k:Int) (wv:Int):Option Int:=
 ((
  if (k==1) then (
   some (k==1)
  ) else (
   some (k==8)
  )
  :Option Bool))>>=fun p=>
 if p then (
  zdU wv>>=fun rv=>
  zeM rv>>=fun rv2=>
  some rv2
 ) else (
  ((
   if (k==3) then (
    some (k==3)
   ) else (
    if (k==5) then (
     some (k==5)
    ) else (
     if (k==9) then (
      some (k==9)
     ) else (
      if (k==10) then (
       some (k==10)
      ) else (
       some (k==11)
      )
     )
    )
   )
   :Option Bool))>>=fun p2=>
  if p2 then (
   some (Int.tmod wv 4294967296)
  ) else (
   if (k==7) then (
    if (decide (wv>0)) then (
     some 1
    ) else (
     some 0
    )
   ) else (
    some wv
   )
  )
 )
end
end Go.Proofs.YtcbkcblkecmjnaaGreat
namespace Go.Proofs.YtcbkcblkecmjnaaGreat
open Go
set_option linter.unusedVariables false
noncomputable section
def zfq (c:Int):Option Bool:=
 some ((decide (c≥48))&&(decide (c≤57)))
def zfL (c:Int):Option Bool:=
 some (if (decide (c≥97)) then ((decide (c≤122))|| (if (decide (c≥65)) then ((decide (c≤90))|| (c==95)) else (c==95))) else (if (decide (c≥65)) then ((decide (c≤90))|| (c==95)) else (c==95)))
def zbB (name:Str) (v2:Int):Option (Int⊕(Unit⊕Unit)):=
 if (decide (v2<(name.length:Int))) then (
  (
   idx name v2>>=fun c2=>
   zfL (c2.toNat:Int)>>=fun rv2=>
   if (!rv2) then (
    idx name v2>>=fun c3=>
    zfq (c3.toNat:Int)>>=fun rv3=>
    some (!rv3)
   ) else (
    some false
   )
  )>>=fun g2=>
  if g2 then (
   some (.inr (.inr ()))
  ) else (
   some (.inl (IntKind.i64.wrap (v2+1)))
  )
 ) else (
  some (.inr (.inl ()))
 )
def zej (name:Str) (v2:Int):Option (Unit⊕Unit):=zak (fun s:Int=>zbB name s) v2
def zfT (name:Str):Option Bool:=
 (
  if (name==[]) then (
   some true
  ) else (
   if (decide ((name.length:Int)>60)) then (
    some true
   ) else (
    idx name 0>>=fun c=>
    zfq (c.toNat:Int)>>=fun rv=>
    some rv
   )
  )
 )>>=fun g=>
 if g then (
  some false
 ) else (
  zej name 0>>=fun q=>
  match q with
  | .inl u=>(
   some true
  )
  | .inr u2=>(
   some false
  )
 )
theorem znc {name:Str} {v2:Int} {v2':Int} (h:zbB name v2=some (.inl v2')):zej name v2=zej name v2':=zM (body:=fun s:Int=>zbB name s) h
theorem zix {name:Str} {v2:Int} {oo_:(Unit⊕Unit)} (h:zbB name v2=some (.inr oo_)):zej name v2=some oo_:=zN (body:=fun s:Int=>zbB name s) h
def zfM (n:Int):Option Bool:=
 some ((decide (n≥1))&&((decide (n≤536870911))&&((decide (n<19000))|| (decide (n>19999)))))
def zgp (f:zc):Option Bool:=
 (
  if f.Repeated then (
   zgZ f.Kind>>=fun rv=>
   some rv
  ) else (
   some false
  )
 )>>=fun g=>
 some g
def zev (c:zaK) (f:zc):Option Bool:=
 if (f.Kind==17) then (
  some ((decide (f.Of≥0))&&(decide (f.Of<c.size)))
 ) else (
  some (f.Of==0)
 )
def zeu (c:zaK) (message:Int) (f:zc):Option (Int×(List (zp×Bool))×(List (zq×Bool))):=
 zfT f.Name>>=fun rv=>
 if (!rv) then (
  some (5,c.names,c.numbers)
 ) else (
  if ((mget c.names (⟨message,f.Name⟩:zp)).getD false) then (
   some (6,c.names,c.numbers)
  ) else (
   zfM f.Number>>=fun rv2=>
   if (!rv2) then (
    some (7,c.names,c.numbers)
   ) else (
    if ((mget c.numbers (⟨message,f.Number⟩:zq)).getD false) then (
     some (8,c.names,c.numbers)
    ) else (
     zbZ c.kinds f.Kind>>=fun rv3=>
     if (!rv3) then (
      some (9,c.names,c.numbers)
     ) else (
      (
       if f.Packed then (
        zgp f>>=fun rv4=>
        some (!rv4)
       ) else (
        some false
       )
      )>>=fun g=>
      if g then (
       some (10,c.names,c.numbers)
      ) else (
       zev c f>>=fun rv5=>
       if (!rv5) then (
        some (11,c.names,c.numbers)
       ) else (
        some (0,(mput c.names (⟨message,f.Name⟩:zp) true),(mput c.numbers (⟨message,f.Number⟩:zq) true))
       )
      )
     )
    )
   )
  )
 )
def zdI (c:zaK) (m:zh):Option (Int×(List (zp×Bool))×(List (zq×Bool))):=
 zfT m.Name>>=fun rv=>
 if (!rv) then (
  some (2,c.names,c.numbers)
 ) else (
  if ((mget c.names (⟨(-1),m.Name⟩:zp)).getD false) then (
   some (3,c.names,c.numbers)
  ) else (
   if (decide ((m.Fields.length:Int)>200)) then (
    some (4,c.names,c.numbers)
   ) else (
    some (0,(mput c.names (⟨(-1),m.Name⟩:zp) true),c.numbers)
   )
  )
 )
def zbl (i:Int) (sv:(List zh)) (n3:Int) (k:Int):Option ((Int×Int)⊕Int):=
 idx sv i>>=fun x3=>
 if (decide (k<(x3.Fields.length:Int))) then (
  idx sv i>>=fun x4=>
  idx x4.Fields k>>=fun x5=>
  some (.inl ((IntKind.i64.wrap (n3+(IntKind.i64.wrap (Int.tdiv (x5.Name.length:Int) 100)))),(IntKind.i64.wrap (k+1))))
 ) else (
  some (.inr n3)
 )
def zdg (i:Int) (sv:(List zh)) (n3:Int) (k:Int):Option Int:=zak (fun s:(Int×Int)=>zbl i sv s.1 s.2) (n3,k)
def zbk (sv:(List zh)) (n:Int) (i:Int):Option ((Int×Int)⊕Int):=
 if (decide (i<(sv.length:Int))) then (
  idx sv i>>=fun x=>
  idx sv i>>=fun x2=>
  zdg i sv (IntKind.i64.wrap ((IntKind.i64.wrap ((IntKind.i64.wrap (n+1))+(IntKind.i64.wrap (Int.tdiv (x.Name.length:Int) 100))))+(x2.Fields.length:Int))) 0>>=fun q=>
  some (.inl (q,(IntKind.i64.wrap (i+1))))
 ) else (
  some (.inr n)
 )
def zdf (sv:(List zh)) (n:Int) (i:Int):Option Int:=zak (fun s:(Int×Int)=>zbk sv s.1 s.2) (n,i)
def zfl (sv:(List zh)):Option Bool:=
 zdf sv 0 0>>=fun q2=>
 some (decide (q2≤500))
theorem zkT {i:Int} {sv:(List zh)} {n3:Int} {k:Int} {n3':Int} {k':Int} (h:zbl i sv n3 k=some (.inl (n3',k'))):zdg i sv n3 k=zdg i sv n3' k':=zM (body:=fun s:(Int×Int)=>zbl i sv s.1 s.2) h
theorem zkU {i:Int} {sv:(List zh)} {n3:Int} {k:Int} {oo_:Int} (h:zbl i sv n3 k=some (.inr oo_)):zdg i sv n3 k=some oo_:=zN (body:=fun s:(Int×Int)=>zbl i sv s.1 s.2) h
theorem zkR {sv:(List zh)} {n:Int} {i:Int} {n':Int} {i':Int} (h:zbk sv n i=some (.inl (n',i'))):zdf sv n i=zdf sv n' i':=zM (body:=fun s:(Int×Int)=>zbk sv s.1 s.2) h
theorem zkS {sv:(List zh)} {n:Int} {i:Int} {oo_:Int} (h:zbk sv n i=some (.inr oo_)):zdf sv n i=some oo_:=zN (body:=fun s:(Int×Int)=>zbk sv s.1 s.2) h
def zbA (rv:(List Int)) (sv:(List zh)) (v2:Int) (x:zh) (v3:Int) (f6:(List (zp×Bool))) (f7:(List (zq×Bool))):Option ((Int×(List (zp×Bool))×(List (zq×Bool)))⊕(((List (zp×Bool))×(List (zq×Bool)))⊕(Int×Int))):=
 if (decide (v3<(x.Fields.length:Int))) then (
  idx x.Fields v3>>=fun x2=>
  zeu (⟨(sv.length:Int),rv,f6,f7⟩:zaK) v2 x2>>=fun rv5=>
  if (rv5.1 !=0) then (
   some (.inr (.inr (v3,rv5.1)))
  ) else (
   some (.inl ((IntKind.i64.wrap (v3+1)),rv5.2.1,rv5.2.2))
  )
 ) else (
  some (.inr (.inl (f6,f7)))
 )
def zdk (rv:(List Int)) (sv:(List zh)) (v2:Int) (x:zh) (v3:Int) (f6:(List (zp×Bool))) (f7:(List (zq×Bool))):Option (((List (zp×Bool))×(List (zq×Bool)))⊕(Int×Int)):=zak (fun s:(Int×(List (zp×Bool))×(List (zq×Bool)))=>zbA rv sv v2 x s.1 s.2.1 s.2.2) (v3,f6,f7)
def zaV (rv:(List Int)) (sv:(List zh)) (v2:Int) (f:(List (zp×Bool))) (f2:(List (zq×Bool))):Option ((Int×(List (zp×Bool))×(List (zq×Bool)))⊕(Unit⊕(Int×Int×Int))):=
 if (decide (v2<(sv.length:Int))) then (
  idx sv v2>>=fun x=>
  zdI (⟨(sv.length:Int),rv,f,f2⟩:zaK) x>>=fun rv3=>
  if (rv3.1 !=0) then (
   some (.inr (.inr (v2,(-1),rv3.1)))
  ) else (
   zdk rv sv v2 x 0 rv3.2.1 rv3.2.2>>=fun q=>
   match q with
   | .inl u=>(
    some (.inl ((IntKind.i64.wrap (v2+1)),u.1,u.2))
   )
   | .inr u2=>(
    some (.inr (.inr (v2,u2.1,u2.2)))
   )
  )
 ) else (
  some (.inr (.inl ()))
 )
def zeH (rv:(List Int)) (sv:(List zh)) (v2:Int) (f:(List (zp×Bool))) (f2:(List (zq×Bool))):Option (Unit⊕(Int×Int×Int)):=zak (fun s:(Int×(List (zp×Bool))×(List (zq×Bool)))=>zaV rv sv s.1 s.2.1 s.2.2) (v2,f,f2)
def zhs (sv:(List zh)):Option (zaX×Int):=
 if ((decide ((sv.length:Int)<1))|| (decide ((sv.length:Int)>100))) then (
  some ((⟨(-1),(-1),1⟩:zaX),9)
 ) else (
  zmQ>>=fun rv=>
  zeH rv sv 0 ([]:(List (zp×Bool))) ([]:(List (zq×Bool)))>>=fun q2=>
  match q2 with
  | .inl u3=>(
   some ((⟨0,0,0⟩:zaX),0)
  )
  | .inr u4=>(
   some ((⟨u4.1,u4.2.1,u4.2.2⟩:zaX),9)
  )
 )
theorem znX {rv:(List Int)} {sv:(List zh)} {v2:Int} {x:zh} {v3:Int} {f6:(List (zp×Bool))} {f7:(List (zq×Bool))} {v3':Int} {f6':(List (zp×Bool))} {f7':(List (zq×Bool))} (h:zbA rv sv v2 x v3 f6 f7=some (.inl (v3',f6',f7'))):zdk rv sv v2 x v3 f6 f7=zdk rv sv v2 x v3' f6' f7':=zM (body:=fun s:(Int×(List (zp×Bool))×(List (zq×Bool)))=>zbA rv sv v2 x s.1 s.2.1 s.2.2) h
theorem ziN {rv:(List Int)} {sv:(List zh)} {v2:Int} {x:zh} {v3:Int} {f6:(List (zp×Bool))} {f7:(List (zq×Bool))} {oo_:(((List (zp×Bool))×(List (zq×Bool)))⊕(Int×Int))} (h:zbA rv sv v2 x v3 f6 f7=some (.inr oo_)):zdk rv sv v2 x v3 f6 f7=some oo_:=zN (body:=fun s:(Int×(List (zp×Bool))×(List (zq×Bool)))=>zbA rv sv v2 x s.1 s.2.1 s.2.2) h
theorem znW {rv:(List Int)} {sv:(List zh)} {v2:Int} {f:(List (zp×Bool))} {f2:(List (zq×Bool))} {v2':Int} {f':(List (zp×Bool))} {f2':(List (zq×Bool))} (h:zaV rv sv v2 f f2=some (.inl (v2',f',f2'))):zeH rv sv v2 f f2=zeH rv sv v2' f' f2':=zM (body:=fun s:(Int×(List (zp×Bool))×(List (zq×Bool)))=>zaV rv sv s.1 s.2.1 s.2.2) h
theorem zdY {rv:(List Int)} {sv:(List zh)} {v2:Int} {f:(List (zp×Bool))} {f2:(List (zq×Bool))} {oo_:(Unit⊕(Int×Int×Int))} (h:zaV rv sv v2 f f2=some (.inr oo_)):zeH rv sv v2 f f2=some oo_:=zN (body:=fun s:(Int×(List (zp×Bool))×(List (zq×Bool)))=>zaV rv sv s.1 s.2.1 s.2.2) h
def zht (sv:(List zh)):Option Bool:=
 zhs sv>>=fun rv=>
 some (rv.2==0)
def zaM (sv:Str) (i:Int):Option (Int⊕(Unit⊕Unit)):=
 if (decide (i<(sv.length:Int))) then (
  idx sv i>>=fun c=>
  if (!(if (decide ((c.toNat:Int)≥65)) then ((decide ((c.toNat:Int)≤90))|| (if (decide ((c.toNat:Int)≥97)) then ((decide ((c.toNat:Int)≤122))|| (((c.toNat:Int)==95)|| ((decide (i>0))&&((decide ((c.toNat:Int)≥48))&&(decide ((c.toNat:Int)≤57)))))) else (((c.toNat:Int)==95)|| ((decide (i>0))&&((decide ((c.toNat:Int)≥48))&&(decide ((c.toNat:Int)≤57))))))) else (if (decide ((c.toNat:Int)≥97)) then ((decide ((c.toNat:Int)≤122))|| (((c.toNat:Int)==95)|| ((decide (i>0))&&((decide ((c.toNat:Int)≥48))&&(decide ((c.toNat:Int)≤57)))))) else (((c.toNat:Int)==95)|| ((decide (i>0))&&((decide ((c.toNat:Int)≥48))&&(decide ((c.toNat:Int)≤57)))))))) then (
   some (.inr (.inr ()))
  ) else (
   some (.inl (IntKind.i64.wrap (i+1)))
  )
 ) else (
  some (.inr (.inl ()))
 )
def zcG (sv:Str) (i:Int):Option (Unit⊕Unit):=zak (fun s:Int=>zaM sv s) i
def zdN (sv:Str):Option Bool:=
 zcG sv 0>>=fun q=>
 match q with
 | .inl u=>(
  some ((decide ((sv.length:Int)≥1))&&(decide ((sv.length:Int)≤60)))
 )
 | .inr u2=>(
  some false
 )
theorem zkz {sv:Str} {i:Int} {i':Int} (h:zaM sv i=some (.inl i')):zcG sv i=zcG sv i':=zM (body:=fun s:Int=>zaM sv s) h
theorem zgJ {sv:Str} {i:Int} {oo_:(Unit⊕Unit)} (h:zaM sv i=some (.inr oo_)):zcG sv i=some oo_:=zN (body:=fun s:Int=>zaM sv s) h
def zaS (i:Int) (k:Int) (sv:(List zh)) (x2:zc) (name:Bool) (number:Bool) (j:Int):Option ((Bool×Bool×Int)⊕(Bool×Bool)):=
 if (decide (j<k)) then (
  (
   if name then (
    some true
   ) else (
    idx sv i>>=fun x3=>
    idx x3.Fields j>>=fun x4=>
    some (x4.Name==x2.Name)
   )
  )>>=fun g=>
  (
   if number then (
    some true
   ) else (
    idx sv i>>=fun x5=>
    idx x5.Fields j>>=fun x6=>
    some (x6.Number==x2.Number)
   )
  )>>=fun g2=>
  some (.inl (g,g2,(IntKind.i64.wrap (j+1))))
 ) else (
  some (.inr (name,number))
 )
def zco (i:Int) (k:Int) (sv:(List zh)) (x2:zc) (name:Bool) (number:Bool) (j:Int):Option (Bool×Bool):=zak (fun s:(Bool×Bool×Int)=>zaS i k sv x2 s.1 s.2.1 s.2.2) (name,number,j)
def zeo (sv:(List zh)) (i:Int) (k:Int):Option Int:=
 idx sv i>>=fun x=>
 idx x.Fields k>>=fun x2=>
 zco i k sv x2 false false 0>>=fun q=>
 zdN x2.Name>>=fun rv=>
 if (!rv) then (
  some 5
 ) else (
  if q.1 then (
   some 6
  ) else (
   if ((decide (x2.Number<1))|| ((decide (x2.Number>536870911))|| ((decide (x2.Number≥19000))&&(decide (x2.Number<20000))))) then (
    some 7
   ) else (
    if q.2 then (
     some 8
    ) else (
     zds x2.Kind>>=fun rv2=>
     if (!rv2) then (
      some 9
     ) else (
      (
       if x2.Packed then (
        if x2.Repeated then (
         zbm x2.Kind>>=fun rv3=>
         some (!rv3)
        ) else (
         some (!false)
        )
       ) else (
        some false
       )
      )>>=fun g3=>
      if g3 then (
       some 10
      ) else (
       if (if (x2.Kind==17) then ((decide (x2.Of<0))|| ((decide (x2.Of≥(sv.length:Int)))|| ((x2.Kind !=17)&&(x2.Of !=0)))) else ((x2.Kind !=17)&&(x2.Of !=0))) then (
        some 11
       ) else (
        some 0
       )
      )
     )
    )
   )
  )
 )
theorem zjP {i:Int} {k:Int} {sv:(List zh)} {x2:zc} {name:Bool} {number:Bool} {j:Int} {name':Bool} {number':Bool} {j':Int} (h:zaS i k sv x2 name number j=some (.inl (name',number',j'))):zco i k sv x2 name number j=zco i k sv x2 name' number' j':=zM (body:=fun s:(Bool×Bool×Int)=>zaS i k sv x2 s.1 s.2.1 s.2.2) h
theorem zjQ {i:Int} {k:Int} {sv:(List zh)} {x2:zc} {name:Bool} {number:Bool} {j:Int} {oo_:(Bool×Bool)} (h:zaS i k sv x2 name number j=some (.inr oo_)):zco i k sv x2 name number j=some oo_:=zN (body:=fun s:(Bool×Bool×Int)=>zaS i k sv x2 s.1 s.2.1 s.2.2) h
def zaR (i:Int) (sv:(List zh)) (twice:Bool) (k:Int):Option ((Bool×Int)⊕Bool):=
 if (decide (k<i)) then (
  (
   if twice then (
    some true
   ) else (
    idx sv k>>=fun x=>
    idx sv i>>=fun x2=>
    some (x.Name==x2.Name)
   )
  )>>=fun g=>
  some (.inl (g,(IntKind.i64.wrap (k+1))))
 ) else (
  some (.inr twice)
 )
def zcm (i:Int) (sv:(List zh)) (twice:Bool) (k:Int):Option Bool:=zak (fun s:(Bool×Int)=>zaR i sv s.1 s.2) (twice,k)
def zaF (i:Int) (sv:(List zh)) (k2:Int):Option (Int⊕(Unit⊕(Int×Int))):=
 idx sv i>>=fun x5=>
 if (decide (k2<(x5.Fields.length:Int))) then (
  zeo sv i k2>>=fun rv2=>
  if (decide (rv2>0)) then (
   some (.inr (.inr (k2,rv2)))
  ) else (
   some (.inl (IntKind.i64.wrap (k2+1)))
  )
 ) else (
  some (.inr (.inl ()))
 )
def zcn (i:Int) (sv:(List zh)) (k2:Int):Option (Unit⊕(Int×Int)):=zak (fun s:Int=>zaF i sv s) k2
def zaE (sv:(List zh)) (i:Int):Option (Int⊕(Unit⊕(Int×Int×Int))):=
 if (decide (i<(sv.length:Int))) then (
  zcm i sv false 0>>=fun q=>
  idx sv i>>=fun x3=>
  zdN x3.Name>>=fun rv=>
  if (!rv) then (
   some (.inr (.inr (i,(-1),2)))
  ) else (
   if q then (
    some (.inr (.inr (i,(-1),3)))
   ) else (
    idx sv i>>=fun x4=>
    if (decide ((x4.Fields.length:Int)>200)) then (
     some (.inr (.inr (i,(-1),4)))
    ) else (
     zcn i sv 0>>=fun q2=>
     match q2 with
     | .inl u=>(
      some (.inl (IntKind.i64.wrap (i+1)))
     )
     | .inr u2=>(
      some (.inr (.inr (i,u2.1,u2.2)))
     )
    )
   )
  )
 ) else (
  some (.inr (.inl ()))
 )
def zcl (sv:(List zh)) (i:Int):Option (Unit⊕(Int×Int×Int)):=zak (fun s:Int=>zaE sv s) i
def zen (sv:(List zh)):Option (Int×Int×Int):=
 if (((sv.length:Int)==0)|| (decide ((sv.length:Int)>100))) then (
  some ((-1),(-1),1)
 ) else (
  zcl sv 0>>=fun q3=>
  match q3 with
  | .inl u3=>(
   some (0,0,0)
  )
  | .inr u4=>(
   some (u4.1,u4.2.1,u4.2.2)
  )
 )
theorem zjM {i:Int} {sv:(List zh)} {twice:Bool} {k:Int} {twice':Bool} {k':Int} (h:zaR i sv twice k=some (.inl (twice',k'))):zcm i sv twice k=zcm i sv twice' k':=zM (body:=fun s:(Bool×Int)=>zaR i sv s.1 s.2) h
theorem zjN {i:Int} {sv:(List zh)} {twice:Bool} {k:Int} {oo_:Bool} (h:zaR i sv twice k=some (.inr oo_)):zcm i sv twice k=some oo_:=zN (body:=fun s:(Bool×Int)=>zaR i sv s.1 s.2) h
theorem zjO {i:Int} {sv:(List zh)} {k2:Int} {k2':Int} (h:zaF i sv k2=some (.inl k2')):zcn i sv k2=zcn i sv k2':=zM (body:=fun s:Int=>zaF i sv s) h
theorem zgE {i:Int} {sv:(List zh)} {k2:Int} {oo_:(Unit⊕(Int×Int))} (h:zaF i sv k2=some (.inr oo_)):zcn i sv k2=some oo_:=zN (body:=fun s:Int=>zaF i sv s) h
theorem zjL {sv:(List zh)} {i:Int} {i':Int} (h:zaE sv i=some (.inl i')):zcl sv i=zcl sv i':=zM (body:=fun s:Int=>zaE sv s) h
theorem zcf {sv:(List zh)} {i:Int} {oo_:(Unit⊕(Int×Int×Int))} (h:zaE sv i=some (.inr oo_)):zcl sv i=some oo_:=zN (body:=fun s:Int=>zaE sv s) h
def zaG (m:zh) (number:Int) (i:Int):Option (Int⊕(Unit⊕Int)):=
 if (decide (i<(m.Fields.length:Int))) then (
  idx m.Fields i>>=fun x=>
  if (x.Number==number) then (
   some (.inr (.inr i))
  ) else (
   some (.inl (IntKind.i64.wrap (i+1)))
  )
 ) else (
  some (.inr (.inl ()))
 )
def zcp (m:zh) (number:Int) (i:Int):Option (Unit⊕Int):=zak (fun s:Int=>zaG m number s) i
def zep (m:zh) (number:Int):Option Int:=
 zcp m number 0>>=fun q=>
 match q with
 | .inl u=>(
  some (-1)
 )
 | .inr u2=>(
  some u2
 )
theorem zjR {m:zh} {number:Int} {i:Int} {i':Int} (h:zaG m number i=some (.inl i')):zcp m number i=zcp m number i':=zM (body:=fun s:Int=>zaG m number s) h
theorem zgF {m:zh} {number:Int} {i:Int} {oo_:(Unit⊕Int)} (h:zaG m number i=some (.inr oo_)):zcp m number i=some oo_:=zN (body:=fun s:Int=>zaG m number s) h
def zax (i:Int) (m:zh) (out:(List Int)) (k:Int):Option (Int⊕Int):=
 (
  if (decide (k<(out.length:Int))) then (
   idx out k>>=fun x=>
   idx m.Fields x>>=fun x2=>
   idx m.Fields i>>=fun x3=>
   some (decide (x2.Number≤x3.Number))
  ) else (
   some false
  )
 )>>=fun g=>
 if g then (
  some (.inl (IntKind.i64.wrap (k+1)))
 ) else (
  some (.inr k)
 )
def zcd (i:Int) (m:zh) (out:(List Int)) (k:Int):Option Int:=zak (fun s:Int=>zax i m out s) k
def zaJ (m:zh) (out:(List Int)) (i:Int):Option (((List Int)×Int)⊕(List Int)):=
 if (decide (i<(m.Fields.length:Int))) then (
  zcd i m out 0>>=fun q=>
  cut out 0 q>>=fun v2=>
  app 8 ([]:(List Int)) v2>>=fun v3=>
  app 8 v3 ([i]:(List Int))>>=fun v4=>
  cut out q (out.length:Int)>>=fun v5=>
  app 8 v4 v5>>=fun v6=>
  some (.inl (v6,(IntKind.i64.wrap (i+1))))
 ) else (
  some (.inr out)
 )
def zcc (m:zh) (out:(List Int)) (i:Int):Option (List Int):=zak (fun s:((List Int)×Int)=>zaJ m s.1 s.2) (out,i)
def zdV (m:zh):Option (List Int):=
 zcc m [] 0>>=fun q2=>
 some q2
theorem zji {i:Int} {m:zh} {out:(List Int)} {k:Int} {k':Int} (h:zax i m out k=some (.inl k')):zcd i m out k=zcd i m out k':=zM (body:=fun s:Int=>zax i m out s) h
theorem zgl {i:Int} {m:zh} {out:(List Int)} {k:Int} {oo_:Int} (h:zax i m out k=some (.inr oo_)):zcd i m out k=some oo_:=zN (body:=fun s:Int=>zax i m out s) h
theorem zjg {m:zh} {out:(List Int)} {i:Int} {out':(List Int)} {i':Int} (h:zaJ m out i=some (.inl (out',i'))):zcc m out i=zcc m out' i':=zM (body:=fun s:((List Int)×Int)=>zaJ m s.1 s.2) h
theorem zjh {m:zh} {out:(List Int)} {i:Int} {oo_:(List Int)} (h:zaJ m out i=some (.inr oo_)):zcc m out i=some oo_:=zN (body:=fun s:((List Int)×Int)=>zaJ m s.1 s.2) h
def zeq (sv:(List zh)):Option Bool:=
 zen sv>>=fun rv=>
 some (rv.2.2==0)
end
end Go.Proofs.YtcbkcblkecmjnaaGreat
namespace Go.Proofs.YtcbkcblkecmjnaaGreat
open Go
set_option linter.unusedVariables false
noncomputable section
def zgA (k:Int):Option (Int×Int):=
 ((
  if (k==1) then (
   some (k==1)
  ) else (
   if (k==2) then (
    some (k==2)
   ) else (
    if (k==3) then (
     some (k==3)
    ) else (
     if (k==4) then (
      some (k==4)
     ) else (
      if (k==5) then (
       some (k==5)
      ) else (
       if (k==6) then (
        some (k==6)
       ) else (
        if (k==7) then (
         some (k==7)
        ) else (
         some (k==8)
        )
       )
      )
     )
    )
   )
  )
  :Option Bool))>>=fun p=>
 if p then (
  some (0,0)
 ) else (
  ((
   if (k==9) then (
    some (k==9)
   ) else (
    if (k==10) then (
     some (k==10)
    ) else (
     some (k==11)
    )
   )
   :Option Bool))>>=fun p2=>
  if p2 then (
   some (4,0)
  ) else (
   if (k==12) then (
    if (k==12) then (
     some (8,0)
    ) else (
     some (0,2)
    )
   ) else (
    if (k==13) then (
     if (k==13) then (
      some (8,0)
     ) else (
      some (0,2)
     )
    ) else (
     if (k==14) then (
      some (8,0)
     ) else (
      some (0,2)
     )
    )
   )
  )
 )
def zhr (b:(List UInt8)):Option (Int×Int):=
 zfA b>>=fun rv=>
 if ((rv.2.2 !=0)|| (rv.2.1 !=(b.length:Int))) then (
  some (0,12)
 ) else (
  some (rv.1,0)
 )
def zhq (k:Int) (b:(List UInt8)):Option (Int×Int):=
 zgA k>>=fun rv=>
 if (rv.2 !=0) then (
  some (0,rv.2)
 ) else (
  if (rv.1==0) then (
   zhr b>>=fun rv2=>
   some (rv2.1,rv2.2)
  ) else (
   if (rv.1 !=(b.length:Int)) then (
    some (0,12)
   ) else (
    zkQ b>>=fun rv3=>
    some (rv3,0)
   )
  )
 )
def ziv (k:Int) (b:(List UInt8)):Option (Int×Int):=
 zhq k b>>=fun rv=>
 if (rv.2 !=0) then (
  some (0,rv.2)
 ) else (
  zhN k rv.1>>=fun rv2=>
  some (rv2.1,rv2.2)
 )
def ziw (k:Int) (wv:Int):Option Int:=
 zgA k>>=fun rv=>
 if ((rv.2 !=0)|| (rv.1 !=0)) then (
  some rv.1
 ) else (
  zhN k wv>>=fun rv2=>
  zmA rv2.1>>=fun rv3=>
  some rv3
 )
def zdO (k:Int) (b:(List UInt8)):Option (Int×Int):=
 zbm k>>=fun rv=>
 if (!rv) then (
  some (0,2)
 ) else (
  zdb k>>=fun rv2=>
  zeQ rv2 b>>=fun rv3=>
  if (!rv3) then (
   some (0,12)
  ) else (
   zeN b>>=fun rv4=>
   zdb k>>=fun rv5=>
   if (rv5==0) then (
    zbc b 0>>=fun rv6=>
    zdr k rv6.1>>=fun rv7=>
    some (rv7,0)
   ) else (
    zdr k rv4>>=fun rv8=>
    some (rv8,0)
   )
  )
 )
end
end Go.Proofs.YtcbkcblkecmjnaaGreat
namespace Go.Proofs.YtcbkcblkecmjnaaGreat
open Go
set_option linter.unusedVariables false
noncomputable section
def zlj (k:Int):Option Int:=
 ziw k 0>>=fun rv=>
 some rv
def zli (wide:Int) (b:(List UInt8)):Option (Int×Int):=
 if (wide==1) then (
  zhd b>>=fun rv=>
  some (rv.1,rv.2)
 ) else (
  if (decide (wide>(b.length:Int))) then (
   some (0,3)
  ) else (
   some (wide,0)
  )
 )
def zbz {σ:Type} (kf:(Rnd σ ((List UInt8)×Int))) (rv:Int) (rest:(List UInt8)) (sg2:σ):Option (((List UInt8)×σ)⊕(σ⊕σ)):=
 if (decide ((rest.length:Int)>0)) then (
  zli rv rest>>=fun rv2=>
  cut rest 0 rv2.1>>=fun v3=>
  kf sg2 (v3,rv2.2)>>=fun y2=>
  if ((!y2.1)|| (rv2.2 !=0)) then (
   some (.inr (.inr y2.2))
  ) else (
   cut rest rv2.1 (rest.length:Int)>>=fun v5=>
   some (.inl (v5,y2.2))
  )
 ) else (
  some (.inr (.inl sg2))
 )
def zeF {σ:Type} (kf:(Rnd σ ((List UInt8)×Int))) (rv:Int) (rest:(List UInt8)) (sg2:σ):Option (σ⊕σ):=zak (fun s:((List UInt8)×σ)=>zbz kf rv s.1 s.2) (rest,sg2)
def zee {σ:Type} (v:Int) (v2:(List UInt8)) (kf:Rnd σ ((List UInt8)×Int)) (sg:σ):Option σ:=
 zlj v>>=fun rv=>
 if (rv==0) then (
  kf sg (([]:(List UInt8)),2)>>=fun y=>
  some y.2
 ) else (
  zeF kf rv v2 sg>>=fun q=>
  match q with
  | .inl u=>(
   some u
  )
  | .inr u2=>(
   some u2
  )
 )
theorem znV {σ:Type} {kf:(Rnd σ ((List UInt8)×Int))} {rv:Int} {rest:(List UInt8)} {sg2:σ} {rest':(List UInt8)} {sg2':σ} (h:zbz kf rv rest sg2=some (.inl (rest',sg2'))):zeF kf rv rest sg2=zeF kf rv rest' sg2':=zM (body:=fun s:((List UInt8)×σ)=>zbz kf rv s.1 s.2) h
theorem zgH {σ:Type} {kf:(Rnd σ ((List UInt8)×Int))} {rv:Int} {rest:(List UInt8)} {sg2:σ} {oo_:(σ⊕σ)} (h:zbz kf rv rest sg2=some (.inr oo_)):zeF kf rv rest sg2=some oo_:=zN (body:=fun s:((List UInt8)×σ)=>zbz kf rv s.1 s.2) h
def zhT (k:Int) (b:(List UInt8)):Option (Int×(List UInt8)):=
 some (k,b)
def zdD (k:Int) (f:(List Int)) (x:(List UInt8)) (x2:Int):Option ((List Int)⊕(Int×(List Int))):=
 if (x2 !=0) then (
  some (.inr (x2,f))
 ) else (
  ziv k x>>=fun rv2=>
  app 8 f ([rv2.1]:(List Int))>>=fun v=>
  some (.inl v)
 )
def zlh (k:Int) (b:(List UInt8)):Option ((List Int)×Int):=
 zhT k b>>=fun rv=>
 zee rv.1 rv.2 (rnd (fun (s:(List Int)) (x:((List UInt8)×Int))=>zdD k s x.1 x.2)) (.inl [])>>=fun q=>
 match q with
 | .inl u=>(
  some (u,0)
 )
 | .inr j=>(
  some ([],j.1)
 )
def zaB (b:(List UInt8)) (k:Int) (out:(List Int)) (atv:Int):Option (((List Int)×Int)⊕((List Int)⊕Int)):=
 if (decide (atv<(b.length:Int))) then (
  ((
   if (decide (k<12)) then (
    some 4
   ) else (
    some 8
   )
   :Option Int))>>=fun p=>
  ((
   if (decide (k<9)) then (
    zbc b atv>>=fun rv2=>
    if (rv2.2.2 !=0) then (
     some (.inr rv2.2.2)
    ) else (
     some (.inl rv2.2.1)
    )
   ) else (
    some (.inl p)
   )
   :Option (Int⊕Int)))>>=fun p2=>
  match p2 with
  | .inl u=>(
   if (decide ((IntKind.i64.wrap (atv+u))>(b.length:Int))) then (
    some (.inr (.inr 3))
   ) else (
    app 8 out ([(IntKind.i64.wrap (atv+u))]:(List Int))>>=fun v3=>
    some (.inl (v3,(IntKind.i64.wrap (atv+u))))
   )
  )
  | .inr u2=>(
   some (.inr (.inr u2))
  )
 ) else (
  some (.inr (.inl out))
 )
def zbW (b:(List UInt8)) (k:Int) (out:(List Int)) (atv:Int):Option ((List Int)⊕Int):=zak (fun s:((List Int)×Int)=>zaB b k s.1 s.2) (out,atv)
def zdP (k:Int) (b:(List UInt8)):Option ((List Int)×Int):=
 zbm k>>=fun rv=>
 if (!rv) then (
  some ([],2)
 ) else (
  zbW b k [] 0>>=fun q=>
  match q with
  | .inl u3=>(
   some (u3,0)
  )
  | .inr u4=>(
   some ([],u4)
  )
 )
theorem zkA {b:(List UInt8)} {k:Int} {out:(List Int)} {atv:Int} {out':(List Int)} {atv':Int} (h:zaB b k out atv=some (.inl (out',atv'))):zbW b k out atv=zbW b k out' atv':=zM (body:=fun s:((List Int)×Int)=>zaB b k s.1 s.2) h
theorem zgK {b:(List UInt8)} {k:Int} {out:(List Int)} {atv:Int} {oo_:((List Int)⊕Int)} (h:zaB b k out atv=some (.inr oo_)):zbW b k out atv=some oo_:=zN (body:=fun s:((List Int)×Int)=>zaB b k s.1 s.2) h
def zav (b:(List UInt8)) (k:Int) (rv:((List Int)×Int)) (out:(List Int)) (i:Int):Option (((List Int)×Int)⊕(List Int)):=
 if (decide (i<(rv.1.length:Int))) then (
  ((
   if (decide (i>0)) then (
    idx rv.1 (IntKind.i64.wrap (i - 1))>>=fun x=>
    some x
   ) else (
    some 0
   )
   :Option Int))>>=fun p=>
  idx rv.1 i>>=fun x2=>
  cut b p x2>>=fun v=>
  zdO k v>>=fun rv2=>
  app 8 out ([rv2.1]:(List Int))>>=fun v2=>
  some (.inl (v2,(IntKind.i64.wrap (i+1))))
 ) else (
  some (.inr out)
 )
def zbx (b:(List UInt8)) (k:Int) (rv:((List Int)×Int)) (out:(List Int)) (i:Int):Option (List Int):=zak (fun s:((List Int)×Int)=>zav b k rv s.1 s.2) (out,i)
def zer (k:Int) (b:(List UInt8)):Option ((List Int)×Int):=
 zdP k b>>=fun rv=>
 zbx b k rv [] 0>>=fun q=>
 some (q,rv.2)
theorem zjS {b:(List UInt8)} {k:Int} {rv:((List Int)×Int)} {out:(List Int)} {i:Int} {out':(List Int)} {i':Int} (h:zav b k rv out i=some (.inl (out',i'))):zbx b k rv out i=zbx b k rv out' i':=zM (body:=fun s:((List Int)×Int)=>zav b k rv s.1 s.2) h
theorem zey {b:(List UInt8)} {k:Int} {rv:((List Int)×Int)} {out:(List Int)} {i:Int} {oo_:(List Int)} (h:zav b k rv out i=some (.inr oo_)):zbx b k rv out i=some oo_:=zN (body:=fun s:((List Int)×Int)=>zav b k rv s.1 s.2) h
def zeY (f:Int) (x:(List UInt8)) (x2:Int):Option (Int⊕(Int×Int)):=
 if (x2 !=0) then (
  some (.inr (x2,f))
 ) else (
  some (.inl (IntKind.i64.wrap (f+1)))
 )
def zlg (k:Int) (b:(List UInt8)):Option (Int×Int):=
 zhT k b>>=fun rv=>
 zee rv.1 rv.2 (rnd (fun (s:Int) (x:((List UInt8)×Int))=>zeY s x.1 x.2)) (.inl 0)>>=fun q=>
 match q with
 | .inl u=>(
  some (u,0)
 )
 | .inr j=>(
  some (0,j.1)
 )
end
end Go.Proofs.YtcbkcblkecmjnaaGreat
namespace Go.Proofs.YtcbkcblkecmjnaaGreat
open Go
set_option linter.unusedVariables false
noncomputable section
def zhw (f:zc) (v:Int):Option Bool:=
 some (f.Number==v)
def zD (sv:(List zc)) (v:Int) (v2:Int):Option (Int⊕(Unit⊕Int)):=
 if (decide (v2<(sv.length:Int))) then (
  idx sv v2>>=fun x=>
  zhw x v>>=fun rv=>
  if rv then (
   some (.inr (.inr v2))
  ) else (
   some (.inl (IntKind.i64.wrap (v2+1)))
  )
 ) else (
  some (.inr (.inl ()))
 )
def zW (sv:(List zc)) (v:Int) (v2:Int):Option (Unit⊕Int):=zak (fun s:Int=>zD sv v s) v2
def zat (sv:(List zc)) (v:Int):Option Int:=
 zW sv v 0>>=fun q=>
 match q with
 | .inl u=>(
  some (-1)
 )
 | .inr u2=>(
  some u2
 )
theorem zdn {sv:(List zc)} {v:Int} {v2:Int} {v2':Int} (h:zD sv v v2=some (.inl v2')):zW sv v v2=zW sv v v2':=zM (body:=fun s:Int=>zD sv v s) h
theorem zbw {sv:(List zc)} {v:Int} {v2:Int} {oo_:(Unit⊕Int)} (h:zD sv v v2=some (.inr oo_)):zW sv v v2=some oo_:=zN (body:=fun s:Int=>zD sv v s) h
def zjH (m:zh) (number:Int):Option Int:=
 zat m.Fields number>>=fun rv=>
 some rv
def zjI (f:zc) (wire:Int):Option Bool:=
 (
  if f.Repeated then (
   if (wire==2) then (
    zgZ f.Kind>>=fun rv=>
    some rv
   ) else (
    some false
   )
  ) else (
   some false
  )
 )>>=fun g=>
 some g
def zlt (k:Int) (wire:Int):Option Bool:=
 zjb k>>=fun rv=>
 some ((rv.2==0)&&(rv.1==wire))
def zhe (m:zh) (hv:zK):Option zP:=
 zjH m hv.number>>=fun rv=>
 if (rv==(-1)) then (
  some (⟨(-1),false,0⟩:zP)
 ) else (
  idx m.Fields rv>>=fun x=>
  zjI x hv.wire>>=fun rv2=>
  (
   if (!rv2) then (
    zlt x.Kind hv.wire>>=fun rv3=>
    some (!rv3)
   ) else (
    some false
   )
  )>>=fun g=>
  if g then (
   some (⟨0,false,6⟩:zP)
  ) else (
   some (⟨rv,rv2,0⟩:zP)
  )
 )
def zje (m:zh) (b:(List UInt8)) (fromv:Int) (met:(List (zK×zP))):Option (zf×Int×(List (zK×zP))):=
 zha b fromv>>=fun rv=>
 if (rv.2 !=0) then (
  some ((⟨(⟨0,0,0,0,0⟩:zo),0,false⟩:zf),rv.2,met)
 ) else (
  ((
   if (!(mget met (⟨rv.1.Number,rv.1.Wire⟩:zK)).isSome) then (
    zhe m (⟨rv.1.Number,rv.1.Wire⟩:zK)>>=fun rv2=>
    some ((mput met (⟨rv.1.Number,rv.1.Wire⟩:zK) rv2),rv2.field,rv2.run,rv2.e)
   ) else (
    some (met,((mget met (⟨rv.1.Number,rv.1.Wire⟩:zK)).getD (⟨0,false,0⟩:zP)).field,((mget met (⟨rv.1.Number,rv.1.Wire⟩:zK)).getD (⟨0,false,0⟩:zP)).run,((mget met (⟨rv.1.Number,rv.1.Wire⟩:zK)).getD (⟨0,false,0⟩:zP)).e)
   )
   :Option ((List (zK×zP))×Int×Bool×Int)))>>=fun p=>
  if (p.2.2.2 !=0) then (
   some ((⟨(⟨0,0,0,0,0⟩:zo),0,false⟩:zf),p.2.2.2,p.1)
  ) else (
   some ((⟨rv.1,p.2.1,p.2.2.1⟩:zf),0,p.1)
  )
 )
def zcN (b:(List UInt8)) (m:zh) (l:(List zf)) (met:(List (zK×zP))) (fromv:Int):Option (((List zf)×(List (zK×zP))×Int)⊕((List zf)⊕(Int×Int))):=
 if (decide (fromv<(b.length:Int))) then (
  zje m b fromv met>>=fun rv2=>
  if (rv2.2.1 !=0) then (
   some (.inr (.inr (fromv,rv2.2.1)))
  ) else (
   app 56 l ([rv2.1]:(List zf))>>=fun v=>
   some (.inl (v,rv2.2.2,rv2.1.Record.To))
  )
 ) else (
  some (.inr (.inl l))
 )
def zgt (b:(List UInt8)) (m:zh) (l:(List zf)) (met:(List (zK×zP))) (fromv:Int):Option ((List zf)⊕(Int×Int)):=zak (fun s:((List zf)×(List (zK×zP))×Int)=>zcN b m s.1 s.2.1 s.2.2) (l,met,fromv)
def znm (m:zh) (b:(List UInt8)):Option ((List zf)×Int×Int):=
 zgt b m [] ([]:(List (zK×zP))) 0>>=fun q=>
 match q with
 | .inl u=>(
  some (u,0,0)
 )
 | .inr u2=>(
  some ([],u2.1,u2.2)
 )
theorem zmd {b:(List UInt8)} {m:zh} {l:(List zf)} {met:(List (zK×zP))} {fromv:Int} {l':(List zf)} {met':(List (zK×zP))} {fromv':Int} (h:zcN b m l met fromv=some (.inl (l',met',fromv'))):zgt b m l met fromv=zgt b m l' met' fromv':=zM (body:=fun s:((List zf)×(List (zK×zP))×Int)=>zcN b m s.1 s.2.1 s.2.2) h
theorem ziI {b:(List UInt8)} {m:zh} {l:(List zf)} {met:(List (zK×zP))} {fromv:Int} {oo_:((List zf)⊕(Int×Int))} (h:zcN b m l met fromv=some (.inr oo_)):zgt b m l met fromv=some oo_:=zN (body:=fun s:((List zf)×(List (zK×zP))×Int)=>zcN b m s.1 s.2.1 s.2.2) h
def zls (m:zh) (b:(List UInt8)) (fromv:Int):Option (zf×Int):=
 zje m b fromv ([]:(List (zK×zP)))>>=fun rv2=>
 some (rv2.1,rv2.2.1)
def zdQ (m:zh) (b:(List UInt8)) (fromv:Int):Option (zG×Int):=
 zdM b fromv>>=fun rv=>
 if (rv.2 !=0) then (
  some ((⟨(⟨0,0,0,0,0⟩:zo),0,false⟩:zG),rv.2)
 ) else (
  zep m rv.1.Number>>=fun rv2=>
  if (decide (rv2<0)) then (
   some ((⟨rv.1,(-1),false⟩:zG),0)
  ) else (
   idx m.Fields rv2>>=fun x=>
   (
    if x.Repeated then (
     zbm x.Kind>>=fun rv3=>
     if rv3 then (
      some (rv.1.Wire==2)
     ) else (
      some false
     )
    ) else (
     some false
    )
   )>>=fun g=>
   if g then (
    some ((⟨rv.1,rv2,true⟩:zG),0)
   ) else (
    (
     zds x.Kind>>=fun rv4=>
     if (!rv4) then (
      some true
     ) else (
      zdb x.Kind>>=fun rv5=>
      some (rv5 !=rv.1.Wire)
     )
    )>>=fun g2=>
    if g2 then (
     some ((⟨(⟨0,0,0,0,0⟩:zo),0,false⟩:zG),6)
    ) else (
     some ((⟨rv.1,rv2,false⟩:zG),0)
    )
   )
  )
 )
def zaz (b:(List UInt8)) (m:zh) (out:(List zG)) (atv:Int):Option (((List zG)×Int)⊕((List zG)⊕(Int×Int))):=
 if (decide (atv<(b.length:Int))) then (
  zdQ m b atv>>=fun rv=>
  if (rv.2 !=0) then (
   some (.inr (.inr (atv,rv.2)))
  ) else (
   app 56 out ([rv.1]:(List zG))>>=fun v3=>
   some (.inl (v3,rv.1.R.To))
  )
 ) else (
  some (.inr (.inl out))
 )
def zch (b:(List UInt8)) (m:zh) (out:(List zG)) (atv:Int):Option ((List zG)⊕(Int×Int)):=zak (fun s:((List zG)×Int)=>zaz b m s.1 s.2) (out,atv)
def zfn (m:zh) (b:(List UInt8)):Option ((List zG)×Int×Int):=
 zch b m [] 0>>=fun q=>
 match q with
 | .inl u=>(
  some (u,0,0)
 )
 | .inr u2=>(
  some ([],u2.1,u2.2)
 )
theorem zgY {b:(List UInt8)} {m:zh} {out:(List zG)} {atv:Int} {out':(List zG)} {atv':Int} (h:zaz b m out atv=some (.inl (out',atv'))):zch b m out atv=zch b m out' atv':=zM (body:=fun s:((List zG)×Int)=>zaz b m s.1 s.2) h
theorem zfo {b:(List UInt8)} {m:zh} {out:(List zG)} {atv:Int} {oo_:((List zG)⊕(Int×Int))} (h:zaz b m out atv=some (.inr oo_)):zch b m out atv=some oo_:=zN (body:=fun s:((List zG)×Int)=>zaz b m s.1 s.2) h
end
end Go.Proofs.YtcbkcblkecmjnaaGreat
namespace Go.Proofs.YtcbkcblkecmjnaaGreat
open Go
set_option linter.unusedVariables false
noncomputable section
def zfN (wv:zap) (message:Int) (fromv:Int) (tov:Int):Option (zf×Int×(List (zm×zf))):=
 cut wv.b 0 tov>>=fun v=>
 zha v fromv>>=fun rv=>
 if (rv.2 !=0) then (
  some ((⟨(⟨0,0,0,0,0⟩:zo),0,false⟩:zf),rv.2,wv.met)
 ) else (
  if (!(mget wv.met (⟨message,rv.1.Number,rv.1.Wire⟩:zm)).isSome) then (
   idx wv.s message>>=fun x=>
   zls x v fromv>>=fun rv2=>
   if (rv2.2 !=0) then (
    some ((⟨(⟨0,0,0,0,0⟩:zo),0,false⟩:zf),rv2.2,wv.met)
   ) else (
    some ((⟨rv.1,rv2.1.Field,rv2.1.Run⟩:zf),0,(mput wv.met (⟨message,rv.1.Number,rv.1.Wire⟩:zm) rv2.1))
   )
  ) else (
   some ((⟨rv.1,(((mget wv.met (⟨message,rv.1.Number,rv.1.Wire⟩:zm)).getD (⟨(⟨0,0,0,0,0⟩:zo),0,false⟩:zf)).Field),(((mget wv.met (⟨message,rv.1.Number,rv.1.Wire⟩:zm)).getD (⟨(⟨0,0,0,0,0⟩:zo),0,false⟩:zf)).Run)⟩:zf),0,wv.met)
  )
 )
def ziC (f:zc) (isRun:Bool) (value:(List UInt8)):Option Int:=
 if isRun then (
  zlg f.Kind value>>=fun rv=>
  some rv.2
 ) else (
  (
   if (f.Kind==15) then (
    zjd value>>=fun rv2=>
    some (!rv2)
   ) else (
    some false
   )
  )>>=fun g=>
  if g then (
   some 7
  ) else (
   if (f.Kind==17) then (
    some 8
   ) else (
    some 0
   )
  )
 )
def zar (d:Int) (message:Int) (rec_valid_walk_value:zap→Int→zf→Int→Option (zA×(List (zm×zf)))) (tov:Int) (wv:zap) (wv2:(List (zm×zf))) (fromv2:Int) (depth:Int):Option (((List (zm×zf))×Int×Int)⊕(((List (zm×zf))×Int)⊕((List (zm×zf))×Int×Int×Int))):=
 if (decide (fromv2<tov)) then (
  zfN (⟨wv.s,wv.b,wv2⟩:zap) message fromv2 tov>>=fun rv2=>
  if (rv2.2.1 !=0) then (
   some (.inr (.inr (rv2.2.2,0,fromv2,rv2.2.1)))
  ) else (
   rec_valid_walk_value (⟨wv.s,wv.b,rv2.2.2⟩:zap) message rv2.1 d>>=fun rv4=>
   if (rv4.1.e !=0) then (
    some (.inr (.inr (rv4.2,rv4.1.depth,rv4.1.place,rv4.1.e)))
   ) else (
    some (.inl (rv4.2,rv2.1.Record.To,(if depth<rv4.1.depth then rv4.1.depth else depth)))
   )
  )
 ) else (
  some (.inr (.inl (wv2,depth)))
 )
def zbS (d:Int) (message:Int) (rec_valid_walk_value:zap→Int→zf→Int→Option (zA×(List (zm×zf)))) (tov:Int) (wv:zap) (wv2:(List (zm×zf))) (fromv2:Int) (depth:Int):Option (((List (zm×zf))×Int)⊕((List (zm×zf))×Int×Int×Int)):=zak (fun s:((List (zm×zf))×Int×Int)=>zar d message rec_valid_walk_value tov wv s.1 s.2.1 s.2.2) (wv2,fromv2,depth)
def zdL (rec_valid_walk_message:zap→Int→Int→Int→Int→Option (zA×(List (zm×zf)))) (rec_valid_walk_value:zap→Int→zf→Int→Option (zA×(List (zm×zf)))) (wv:zap) (message:Int) (fromv:Int) (tov:Int) (d:Int):Option (zA×(List (zm×zf))):=
 zbS d message rec_valid_walk_value tov wv wv.met fromv 0>>=fun q=>
 match q with
 | .inl u=>(
  some ((⟨u.2,0,0⟩:zA),u.1)
 )
 | .inr u2=>(
  some ((⟨u2.2.1,u2.2.2.1,u2.2.2.2⟩:zA),u2.1)
 )
def zdy (rec_valid_walk_message:zap→Int→Int→Int→Int→Option (zA×(List (zm×zf)))) (rec_valid_walk_value:zap→Int→zf→Int→Option (zA×(List (zm×zf)))) (wv:zap) (message:Int) (v:zf) (d:Int):Option (zA×(List (zm×zf))):=
 if (v.Field==(-1)) then (
  some ((⟨0,0,0⟩:zA),wv.met)
 ) else (
  idx wv.s message>>=fun x=>
  idx x.Fields v.Field>>=fun x2=>
  if ((x2.Kind==17)&&(decide (d>0))) then (
   rec_valid_walk_message wv x2.Of v.Record.At v.Record.To (IntKind.i64.wrap (d - 1))>>=fun rv2=>
   some ((⟨(IntKind.i64.wrap (rv2.1.depth+1)),rv2.1.place,rv2.1.e⟩:zA),rv2.2)
  ) else (
   cut wv.b v.Record.At v.Record.To>>=fun v3=>
   ziC x2 v.Run v3>>=fun rv3=>
   if (rv3 !=0) then (
    some ((⟨0,v.Record.From,rv3⟩:zA),wv.met)
   ) else (
    some ((⟨0,0,0⟩:zA),wv.met)
   )
  )
 )
def zas:Nat→(zap→Int→Int→Int→Int→Option (zA×(List (zm×zf))))×(zap→Int→zf→Int→Option (zA×(List (zm×zf))))
  | 0=>(fun _ _ _ _ _=>none,fun _ _ _ _=>none)
  | fuel+1=>(fun wv message fromv tov d=>zdL (zas fuel).1 (zas fuel).2 wv message fromv tov d,fun wv message v d=>zdy (zas fuel).1 (zas fuel).2 wv message v d)
def zbf (fuel:Nat):zap→Int→Int→Int→Int→Option (zA×(List (zm×zf))):=(zas fuel).1
def zdx (fuel:Nat):zap→Int→zf→Int→Option (zA×(List (zm×zf))):=(zas fuel).2
theorem zjY {d:Int} {message:Int} {rec_valid_walk_value:zap→Int→zf→Int→Option (zA×(List (zm×zf)))} {tov:Int} {wv:zap} {wv2:(List (zm×zf))} {fromv2:Int} {depth:Int} {wv2':(List (zm×zf))} {fromv2':Int} {depth':Int} (h:zar d message rec_valid_walk_value tov wv wv2 fromv2 depth=some (.inl (wv2',fromv2',depth'))):zbS d message rec_valid_walk_value tov wv wv2 fromv2 depth=zbS d message rec_valid_walk_value tov wv wv2' fromv2' depth':=zM (body:=fun s:((List (zm×zf))×Int×Int)=>zar d message rec_valid_walk_value tov wv s.1 s.2.1 s.2.2) h
theorem zdo {d:Int} {message:Int} {rec_valid_walk_value:zap→Int→zf→Int→Option (zA×(List (zm×zf)))} {tov:Int} {wv:zap} {wv2:(List (zm×zf))} {fromv2:Int} {depth:Int} {oo_:(((List (zm×zf))×Int)⊕((List (zm×zf))×Int×Int×Int))} (h:zar d message rec_valid_walk_value tov wv wv2 fromv2 depth=some (.inr oo_)):zbS d message rec_valid_walk_value tov wv wv2 fromv2 depth=some oo_:=zN (body:=fun s:((List (zm×zf))×Int×Int)=>zar d message rec_valid_walk_value tov wv s.1 s.2.1 s.2.2) h
def zjF (sv:(List zh)) (root:Int) (d:Int):Option Int:=
 zht sv>>=fun rv=>
 if (!rv) then (
  some 9
 ) else (
  if ((decide (root<0))|| ((decide (root≥(sv.length:Int)))|| ((decide (d<0))|| (decide (d>64))))) then (
   some 2
  ) else (
   some 0
  )
 )
def zjG (fuel:Nat) (sv:(List zh)) (root:Int) (b:(List UInt8)) (d:Int):Option zA:=
 zjF sv root d>>=fun rv=>
 if (rv !=0) then (
  some (⟨0,0,rv⟩:zA)
 ) else (
  zbf fuel (⟨sv,b,([]:(List (zm×zf)))⟩:zap) root 0 (b.length:Int) d>>=fun rv3=>
  some rv3.1
 )
def ziB (fuel:Nat) (sv:(List zh)) (root:Int) (b:(List UInt8)) (d:Int):Option (Int×Int):=
 zjG fuel sv root b d>>=fun rv=>
 some (rv.place,rv.e)
def zeR (sv:(List zh)) (root:Int) (d:Int):Option Int:=
 zeq sv>>=fun rv=>
 if (!rv) then (
  some 9
 ) else (
  if ((decide (root<0))|| ((decide (root≥(sv.length:Int)))|| ((decide (d<0))|| (decide (d>64))))) then (
   some 2
  ) else (
   some 0
  )
 )
def zaw (b:(List UInt8)) (d:Int) (m:Int) (rec_darningref11_First:(List zh)→Int→(List UInt8)→Int→Option (Int×Int)) (sv:(List zh)) (atv:Int):Option (Int⊕(Unit⊕(Int×Int))):=
 if (decide (atv<(b.length:Int))) then (
  idx sv m>>=fun x=>
  zdQ x b atv>>=fun rv=>
  if (rv.2 !=0) then (
   some (.inr (.inr (atv,rv.2)))
  ) else (
   cut b rv.1.R.At rv.1.R.To>>=fun v3=>
   if (decide (rv.1.Field≥0)) then (
    idx sv m>>=fun x2=>
    idx x2.Fields rv.1.Field>>=fun x3=>
    if rv.1.Run then (
     zdP x3.Kind v3>>=fun rv2=>
     if (rv2.2 !=0) then (
      some (.inr (.inr (atv,rv2.2)))
     ) else (
      some (.inl rv.1.R.To)
     )
    ) else (
     (
      if (x3.Kind==15) then (
       zcz v3>>=fun rv3=>
       some (!rv3)
      ) else (
       some false
      )
     )>>=fun g=>
     if g then (
      some (.inr (.inr (atv,7)))
     ) else (
      if (x3.Kind==17) then (
       if (d==0) then (
        some (.inr (.inr (atv,8)))
       ) else (
        rec_darningref11_First sv x3.Of v3 (IntKind.i64.wrap (d - 1))>>=fun rv4=>
        if (rv4.2 !=0) then (
         some (.inr (.inr ((IntKind.i64.wrap (rv.1.R.At+rv4.1)),rv4.2)))
        ) else (
         some (.inl rv.1.R.To)
        )
       )
      ) else (
       some (.inl rv.1.R.To)
      )
     )
    )
   ) else (
    some (.inl rv.1.R.To)
   )
  )
 ) else (
  some (.inr (.inl ()))
 )
def zby (b:(List UInt8)) (d:Int) (m:Int) (rec_darningref11_First:(List zh)→Int→(List UInt8)→Int→Option (Int×Int)) (sv:(List zh)) (atv:Int):Option (Unit⊕(Int×Int)):=zak (fun s:Int=>zaw b d m rec_darningref11_First sv s) atv
def zbX (rec_darningref11_First:(List zh)→Int→(List UInt8)→Int→Option (Int×Int)) (sv:(List zh)) (m:Int) (b:(List UInt8)) (d:Int):Option (Int×Int):=
 zby b d m rec_darningref11_First sv 0>>=fun q=>
 match q with
 | .inl u=>(
  some (0,0)
 )
 | .inr u2=>(
  some (u2.1,u2.2)
 )
def zbv:Nat→(List zh)→Int→(List UInt8)→Int→Option (Int×Int)
  | 0,_,_,_,_=>none
  | fuel+1,sv,m,b,d=>zbX (zbv fuel) sv m b d
theorem zjT {b:(List UInt8)} {d:Int} {m:Int} {rec_darningref11_First:(List zh)→Int→(List UInt8)→Int→Option (Int×Int)} {sv:(List zh)} {atv:Int} {atv':Int} (h:zaw b d m rec_darningref11_First sv atv=some (.inl atv')):zby b d m rec_darningref11_First sv atv=zby b d m rec_darningref11_First sv atv':=zM (body:=fun s:Int=>zaw b d m rec_darningref11_First sv s) h
theorem zez {b:(List UInt8)} {d:Int} {m:Int} {rec_darningref11_First:(List zh)→Int→(List UInt8)→Int→Option (Int×Int)} {sv:(List zh)} {atv:Int} {oo_:(Unit⊕(Int×Int))} (h:zaw b d m rec_darningref11_First sv atv=some (.inr oo_)):zby b d m rec_darningref11_First sv atv=some oo_:=zN (body:=fun s:Int=>zaw b d m rec_darningref11_First sv s) h
def zes (fuel:Nat) (sv:(List zh)) (root:Int) (b:(List UInt8)) (d:Int):Option (Int×Int):=
 zeR sv root d>>=fun rv=>
 if (rv !=0) then (
  some (0,rv)
 ) else (
  zbv fuel sv root b d>>=fun rv2=>
  some (rv2.1,rv2.2)
 )
end
end Go.Proofs.YtcbkcblkecmjnaaGreat
namespace Go.Proofs.YtcbkcblkecmjnaaGreat
open Go
set_option linter.unusedVariables false
noncomputable section
def zeZ (v:zb):Option Int:=
 some (IntKind.i64.wrap ((IntKind.i64.wrap ((v.Words.length:Int)+(v.Texts.length:Int)))+(v.Subs.length:Int)))
def zbu (rec_darninglaw14_OfValue:zb→Option zb) (x:ze) (i:Int) (f:(List zb)):Option ((Int×(List zb))⊕(List zb)):=
 if (decide (i<(x.Values.length:Int))) then (
  idx x.Values i>>=fun x2=>
  rec_darninglaw14_OfValue x2>>=fun rv=>
  app 80 f ([rv]:(List zb))>>=fun v2=>
  some (.inl ((IntKind.i64.wrap (i+1)),v2))
 ) else (
  some (.inr f)
 )
def zdq (rec_darninglaw14_OfValue:zb→Option zb) (x:ze) (i:Int) (f:(List zb)):Option (List zb):=zak (fun s:(Int×(List zb))=>zbu rec_darninglaw14_OfValue x s.1 s.2) (i,f)
def zeL (rec_darninglaw14_Of:ze→Option ze) (rec_darninglaw14_OfValue:zb→Option zb) (x:ze):Option ze:=
 app 16 ([]:(List Str)) x.Unknown>>=fun v=>
 zdq rec_darninglaw14_OfValue x 0 []>>=fun q=>
 some (⟨q,v⟩:ze)
def zaC (rec_darninglaw14_Of:ze→Option ze) (v:zb) (i:Int) (f:(List ze)):Option ((Int×(List ze))⊕(List ze)):=
 if (decide (i<(v.Subs.length:Int))) then (
  idx v.Subs i>>=fun x=>
  rec_darninglaw14_Of x>>=fun rv=>
  app 48 f ([rv]:(List ze))>>=fun v2=>
  some (.inl ((IntKind.i64.wrap (i+1)),v2))
 ) else (
  some (.inr f)
 )
def zbU (rec_darninglaw14_Of:ze→Option ze) (v:zb) (i:Int) (f:(List ze)):Option (List ze):=zak (fun s:(Int×(List ze))=>zaC rec_darninglaw14_Of v s.1 s.2) (i,f)
def zcZ (rec_darninglaw14_Of:ze→Option ze) (rec_darninglaw14_OfValue:zb→Option zb) (v:zb):Option zb:=
 zbU rec_darninglaw14_Of v 0 []>>=fun q=>
 some (⟨v.Number,v.Words,v.Texts,q⟩:zb)
def zaq:Nat→(ze→Option ze)×(zb→Option zb)
  | 0=>(fun _=>none,fun _=>none)
  | fuel+1=>(fun x=>zeL (zaq fuel).1 (zaq fuel).2 x,fun v=>zcZ (zaq fuel).1 (zaq fuel).2 v)
def zcb (fuel:Nat):ze→Option ze:=(zaq fuel).1
def zcA (fuel:Nat):zb→Option zb:=(zaq fuel).2
theorem zlv {rec_darninglaw14_OfValue:zb→Option zb} {x:ze} {i:Int} {f:(List zb)} {i':Int} {f':(List zb)} (h:zbu rec_darninglaw14_OfValue x i f=some (.inl (i',f'))):zdq rec_darninglaw14_OfValue x i f=zdq rec_darninglaw14_OfValue x i' f':=zM (body:=fun s:(Int×(List zb))=>zbu rec_darninglaw14_OfValue x s.1 s.2) h
theorem zlw {rec_darninglaw14_OfValue:zb→Option zb} {x:ze} {i:Int} {f:(List zb)} {oo_:(List zb)} (h:zbu rec_darninglaw14_OfValue x i f=some (.inr oo_)):zdq rec_darninglaw14_OfValue x i f=some oo_:=zN (body:=fun s:(Int×(List zb))=>zbu rec_darninglaw14_OfValue x s.1 s.2) h
theorem ziQ {rec_darninglaw14_Of:ze→Option ze} {v:zb} {i:Int} {f:(List ze)} {i':Int} {f':(List ze)} (h:zaC rec_darninglaw14_Of v i f=some (.inl (i',f'))):zbU rec_darninglaw14_Of v i f=zbU rec_darninglaw14_Of v i' f':=zM (body:=fun s:(Int×(List ze))=>zaC rec_darninglaw14_Of v s.1 s.2) h
theorem ziR {rec_darninglaw14_Of:ze→Option ze} {v:zb} {i:Int} {f:(List ze)} {oo_:(List ze)} (h:zaC rec_darninglaw14_Of v i f=some (.inr oo_)):zbU rec_darninglaw14_Of v i f=some oo_:=zN (body:=fun s:(Int×(List ze))=>zaC rec_darninglaw14_Of v s.1 s.2) h
def zcV (b:(List UInt8)) (l:(List zf)) (all:(List Str)) (v2:Int):Option (((List Str)×Int)⊕(List Str)):=
 if (decide (v2<(l.length:Int))) then (
  idx l v2>>=fun x=>
  cut b x.Record.At x.Record.To>>=fun v3=>
  idx all v2>>=fun x2=>
  some (.inl ((all.set (Int.toNat v2) v3),(IntKind.i64.wrap (v2+1))))
 ) else (
  some (.inr all)
 )
def zfW (b:(List UInt8)) (l:(List zf)) (all:(List Str)) (v2:Int):Option (List Str):=zak (fun s:((List Str)×Int)=>zcV b l s.1 s.2) (all,v2)
def zjD (b:(List UInt8)) (l:(List zf)):Option (List Str):=
 mkO 16 ([]:Str) (l.length:Int) (l.length:Int)>>=fun v=>
 zfW b l v 0>>=fun q=>
 some q
theorem zpG {b:(List UInt8)} {l:(List zf)} {all:(List Str)} {v2:Int} {all':(List Str)} {v2':Int} (h:zcV b l all v2=some (.inl (all',v2'))):zfW b l all v2=zfW b l all' v2':=zM (body:=fun s:((List Str)×Int)=>zcV b l s.1 s.2) h
theorem zpH {b:(List UInt8)} {l:(List zf)} {all:(List Str)} {v2:Int} {oo_:(List Str)} (h:zcV b l all v2=some (.inr oo_)):zfW b l all v2=some oo_:=zN (body:=fun s:((List Str)×Int)=>zcV b l s.1 s.2) h
def zcW (b:(List UInt8)) (k:Int) (l:(List zf)) (all:(List Int)) (v:Int):Option (((List Int)×Int)⊕(List Int)):=
 if (decide (v<(l.length:Int))) then (
  idx l v>>=fun x=>
  cut b x.Record.At x.Record.To>>=fun v2=>
  zlh k v2>>=fun rv=>
  app 8 all rv.1>>=fun v3=>
  some (.inl (v3,(IntKind.i64.wrap (v+1))))
 ) else (
  some (.inr all)
 )
def zfX (b:(List UInt8)) (k:Int) (l:(List zf)) (all:(List Int)) (v:Int):Option (List Int):=zak (fun s:((List Int)×Int)=>zcW b k l s.1 s.2) (all,v)
def zjE (k:Int) (b:(List UInt8)) (l:(List zf)):Option (List Int):=
 zfX b k l [] 0>>=fun q=>
 some q
theorem zpI {b:(List UInt8)} {k:Int} {l:(List zf)} {all:(List Int)} {v:Int} {all':(List Int)} {v':Int} (h:zcW b k l all v=some (.inl (all',v'))):zfX b k l all v=zfX b k l all' v':=zM (body:=fun s:((List Int)×Int)=>zcW b k l s.1 s.2) h
theorem zpJ {b:(List UInt8)} {k:Int} {l:(List zf)} {all:(List Int)} {v:Int} {oo_:(List Int)} (h:zcW b k l all v=some (.inr oo_)):zfX b k l all v=some oo_:=zN (body:=fun s:((List Int)×Int)=>zcW b k l s.1 s.2) h
def zbM (b:(List UInt8)) (rv:((List zf)×Int×Int)) (known:(List (Int×(List zf)))) (v:Int) (f:(List Str)):Option (((List (Int×(List zf)))×Int×(List Str))⊕((List (Int×(List zf)))×(List Str))):=
 if (decide (v<(rv.1.length:Int))) then (
  idx rv.1 v>>=fun x2=>
  if (x2.Field==(-1)) then (
   cut b x2.Record.From x2.Record.To>>=fun v2=>
   app 16 f ([v2]:(List Str))>>=fun v3=>
   some (.inl (known,(IntKind.i64.wrap (v+1)),v3))
  ) else (
   app 56 ((mget known x2.Record.Number).getD []) ([x2]:(List zf))>>=fun v4=>
   some (.inl ((mput known x2.Record.Number v4),(IntKind.i64.wrap (v+1)),f))
  )
 ) else (
  some (.inr (known,f))
 )
def zeJ (b:(List UInt8)) (rv:((List zf)×Int×Int)) (known:(List (Int×(List zf)))) (v:Int) (f:(List Str)):Option ((List (Int×(List zf)))×(List Str)):=zak (fun s:((List (Int×(List zf)))×Int×(List Str))=>zbM b rv s.1 s.2.1 s.2.2) (known,v,f)
def zbN (b:(List UInt8)) (q:((List (Int×(List zf)))×(List Str))) (rec_tree_value:(List zh)→zc→(List UInt8)→(List zf)→Option zb) (sv:(List zh)) (v5:(List Int)) (x:zh) (v6:Int) (f3:(List zb)):Option ((Int×(List zb))⊕(List zb)):=
 if (decide (v6<(v5.length:Int))) then (
  idx v5 v6>>=fun x3=>
  idx ((mget q.1 x3).getD []) 0>>=fun x4=>
  idx x.Fields x4.Field>>=fun x5=>
  rec_tree_value sv x5 b ((mget q.1 x3).getD [])>>=fun rv2=>
  zeZ rv2>>=fun rv3=>
  if (decide (rv3>0)) then (
   app 80 f3 ([rv2]:(List zb))>>=fun v7=>
   some (.inl ((IntKind.i64.wrap (v6+1)),v7))
  ) else (
   some (.inl ((IntKind.i64.wrap (v6+1)),f3))
  )
 ) else (
  some (.inr f3)
 )
def zeK (b:(List UInt8)) (q:((List (Int×(List zf)))×(List Str))) (rec_tree_value:(List zh)→zc→(List UInt8)→(List zf)→Option zb) (sv:(List zh)) (v5:(List Int)) (x:zh) (v6:Int) (f3:(List zb)):Option (List zb):=zak (fun s:(Int×(List zb))=>zbN b q rec_tree_value sv v5 x s.1 s.2) (v6,f3)
def zgr (rec_tree_meaning:(List zh)→Int→(List UInt8)→Option ze) (rec_tree_subs:(List zh)→zc→(List UInt8)→(List zf)→Option (List ze)) (rec_tree_value:(List zh)→zc→(List UInt8)→(List zf)→Option zb) (sv:(List zh)) (message:Int) (b:(List UInt8)):Option ze:=
 idx sv message>>=fun x=>
 znm x b>>=fun rv=>
 zeJ b rv ([]:(List (Int×(List zf)))) 0 []>>=fun q=>
 zpb q.1>>=fun v5=>
 zeK b q rec_tree_value sv v5 x 0 []>>=fun q2=>
 some (⟨q2,q.2⟩:ze)
def zdE (b:(List UInt8)) (l:(List zf)) (pieces:(List (List UInt8))) (v2:Int):Option (((List (List UInt8))×Int)⊕(List (List UInt8))):=
 if (decide (v2<(l.length:Int))) then (
  idx l v2>>=fun x=>
  cut b x.Record.At x.Record.To>>=fun v3=>
  idx pieces v2>>=fun x2=>
  some (.inl ((pieces.set (Int.toNat v2) v3),(IntKind.i64.wrap (v2+1))))
 ) else (
  some (.inr pieces)
 )
def zgC (b:(List UInt8)) (l:(List zf)) (pieces:(List (List UInt8))) (v2:Int):Option (List (List UInt8)):=zak (fun s:((List (List UInt8))×Int)=>zdE b l s.1 s.2) (pieces,v2)
def zdF (f:zc) (p:(List (List UInt8))) (rec_tree_meaning:(List zh)→Int→(List UInt8)→Option ze) (sv:(List zh)) (all:(List ze)) (v6:Int):Option (((List ze)×Int)⊕(List ze)):=
 if (decide (v6<(p.length:Int))) then (
  idx p v6>>=fun x3=>
  rec_tree_meaning sv f.Of x3>>=fun rv2=>
  idx all v6>>=fun x4=>
  some (.inl ((all.set (Int.toNat v6) rv2),(IntKind.i64.wrap (v6+1))))
 ) else (
  some (.inr all)
 )
def zfa (f:zc) (p:(List (List UInt8))) (rec_tree_meaning:(List zh)→Int→(List UInt8)→Option ze) (sv:(List zh)) (all:(List ze)) (v6:Int):Option (List ze):=zak (fun s:((List ze)×Int)=>zdF f p rec_tree_meaning sv s.1 s.2) (all,v6)
def zhc (rec_tree_meaning:(List zh)→Int→(List UInt8)→Option ze) (rec_tree_subs:(List zh)→zc→(List UInt8)→(List zf)→Option (List ze)) (rec_tree_value:(List zh)→zc→(List UInt8)→(List zf)→Option zb) (sv:(List zh)) (f:zc) (b:(List UInt8)) (l:(List zf)):Option (List ze):=
 mkO 24 ([]:(List UInt8)) (l.length:Int) (l.length:Int)>>=fun v=>
 zgC b l v 0>>=fun q=>
 ((
  if ((!f.Repeated)&&(decide ((q.length:Int)>1))) then (
   zbY q>>=fun rv=>
   some ([rv]:(List (List UInt8)))
  ) else (
   some q
  )
  :Option (List (List UInt8))))>>=fun p=>
 mkO 48 ((⟨[],[]⟩:ze):ze) (p.length:Int) (p.length:Int)>>=fun v5=>
 zfa f p rec_tree_meaning sv v5 0>>=fun q2=>
 some q2
def zgD (rec_tree_meaning:(List zh)→Int→(List UInt8)→Option ze) (rec_tree_subs:(List zh)→zc→(List UInt8)→(List zf)→Option (List ze)) (rec_tree_value:(List zh)→zc→(List UInt8)→(List zf)→Option zb) (sv:(List zh)) (f:zc) (b:(List UInt8)) (l:(List zf)):Option zb:=
 ((
  if ((!f.Repeated)&&(f.Kind !=17)) then (
   cut l (IntKind.i64.wrap ((l.length:Int) - 1)) (l.length:Int)>>=fun v2=>
   some v2
  ) else (
   some l
  )
  :Option (List zf)))>>=fun p=>
 if (f.Kind==17) then (
  rec_tree_subs sv f b p>>=fun rv=>
  some (⟨f.Number,[],[],rv⟩:zb)
 ) else (
  ((
   if (f.Kind==15) then (
    some (f.Kind==15)
   ) else (
    some (f.Kind==16)
   )
   :Option Bool))>>=fun p2=>
  if p2 then (
   zjD b p>>=fun rv2=>
   some (⟨f.Number,[],rv2,[]⟩:zb)
  ) else (
   zjE f.Kind b p>>=fun rv3=>
   some (⟨f.Number,rv3,[],[]⟩:zb)
  )
 )
def zaa:Nat→((List zh)→Int→(List UInt8)→Option ze)×((List zh)→zc→(List UInt8)→(List zf)→Option (List ze))×((List zh)→zc→(List UInt8)→(List zf)→Option zb)
  | 0=>(fun _ _ _=>none,fun _ _ _ _=>none,fun _ _ _ _=>none)
  | fuel+1=>(fun sv message b=>zgr (zaa fuel).1 (zaa fuel).2.1 (zaa fuel).2.2 sv message b,fun sv f b l=>zhc (zaa fuel).1 (zaa fuel).2.1 (zaa fuel).2.2 sv f b l,fun sv f b l=>zgD (zaa fuel).1 (zaa fuel).2.1 (zaa fuel).2.2 sv f b l)
def zef (fuel:Nat):(List zh)→Int→(List UInt8)→Option ze:=(zaa fuel).1
def znO (fuel:Nat):(List zh)→zc→(List UInt8)→(List zf)→Option (List ze):=(zaa fuel).2.1
def zhW (fuel:Nat):(List zh)→zc→(List UInt8)→(List zf)→Option zb:=(zaa fuel).2.2
theorem ziO {b:(List UInt8)} {rv:((List zf)×Int×Int)} {known:(List (Int×(List zf)))} {v:Int} {f:(List Str)} {known':(List (Int×(List zf)))} {v':Int} {f':(List Str)} (h:zbM b rv known v f=some (.inl (known',v',f'))):zeJ b rv known v f=zeJ b rv known' v' f':=zM (body:=fun s:((List (Int×(List zf)))×Int×(List Str))=>zbM b rv s.1 s.2.1 s.2.2) h
theorem znY {b:(List UInt8)} {rv:((List zf)×Int×Int)} {known:(List (Int×(List zf)))} {v:Int} {f:(List Str)} {oo_:((List (Int×(List zf)))×(List Str))} (h:zbM b rv known v f=some (.inr oo_)):zeJ b rv known v f=some oo_:=zN (body:=fun s:((List (Int×(List zf)))×Int×(List Str))=>zbM b rv s.1 s.2.1 s.2.2) h
theorem ziP {b:(List UInt8)} {q:((List (Int×(List zf)))×(List Str))} {rec_tree_value:(List zh)→zc→(List UInt8)→(List zf)→Option zb} {sv:(List zh)} {v5:(List Int)} {x:zh} {v6:Int} {f3:(List zb)} {v6':Int} {f3':(List zb)} (h:zbN b q rec_tree_value sv v5 x v6 f3=some (.inl (v6',f3'))):zeK b q rec_tree_value sv v5 x v6 f3=zeK b q rec_tree_value sv v5 x v6' f3':=zM (body:=fun s:(Int×(List zb))=>zbN b q rec_tree_value sv v5 x s.1 s.2) h
theorem znZ {b:(List UInt8)} {q:((List (Int×(List zf)))×(List Str))} {rec_tree_value:(List zh)→zc→(List UInt8)→(List zf)→Option zb} {sv:(List zh)} {v5:(List Int)} {x:zh} {v6:Int} {f3:(List zb)} {oo_:(List zb)} (h:zbN b q rec_tree_value sv v5 x v6 f3=some (.inr oo_)):zeK b q rec_tree_value sv v5 x v6 f3=some oo_:=zN (body:=fun s:(Int×(List zb))=>zbN b q rec_tree_value sv v5 x s.1 s.2) h
theorem zqF {b:(List UInt8)} {l:(List zf)} {pieces:(List (List UInt8))} {v2:Int} {pieces':(List (List UInt8))} {v2':Int} (h:zdE b l pieces v2=some (.inl (pieces',v2'))):zgC b l pieces v2=zgC b l pieces' v2':=zM (body:=fun s:((List (List UInt8))×Int)=>zdE b l s.1 s.2) h
theorem zqG {b:(List UInt8)} {l:(List zf)} {pieces:(List (List UInt8))} {v2:Int} {oo_:(List (List UInt8))} (h:zdE b l pieces v2=some (.inr oo_)):zgC b l pieces v2=some oo_:=zN (body:=fun s:((List (List UInt8))×Int)=>zdE b l s.1 s.2) h
theorem zqH {f:zc} {p:(List (List UInt8))} {rec_tree_meaning:(List zh)→Int→(List UInt8)→Option ze} {sv:(List zh)} {all:(List ze)} {v6:Int} {all':(List ze)} {v6':Int} (h:zdF f p rec_tree_meaning sv all v6=some (.inl (all',v6'))):zfa f p rec_tree_meaning sv all v6=zfa f p rec_tree_meaning sv all' v6':=zM (body:=fun s:((List ze)×Int)=>zdF f p rec_tree_meaning sv s.1 s.2) h
theorem zqI {f:zc} {p:(List (List UInt8))} {rec_tree_meaning:(List zh)→Int→(List UInt8)→Option ze} {sv:(List zh)} {all:(List ze)} {v6:Int} {oo_:(List ze)} (h:zdF f p rec_tree_meaning sv all v6=some (.inr oo_)):zfa f p rec_tree_meaning sv all v6=some oo_:=zN (body:=fun s:((List ze)×Int)=>zdF f p rec_tree_meaning sv s.1 s.2) h
def ziY (fuel:Nat) (sv:(List zh)) (root:Int) (b:(List UInt8)) (d:Int):Option (ze×Int):=
 ziB fuel sv root b d>>=fun rv=>
 if (rv.2 !=0) then (
  some ((⟨[],[]⟩:ze),rv.2)
 ) else (
  zef fuel sv root b>>=fun rv2=>
  some (rv2,0)
 )
def zek (fuel:Nat):Option Bool:=
 ziY fuel ([(⟨[109],([(⟨[97],1,3,false,false,0⟩:zc)]:(List zc))⟩:zh)]:List zh) 0 ([(8:UInt8),(1:UInt8),(8:UInt8),(2:UInt8)]:List UInt8) 0>>=fun rv=>
 idx ([(⟨[97],1,3,false,false,0⟩:zc)]:(List zc)) 0>>=fun x=>
 ziY fuel ([(⟨[109],(([(⟨[97],1,3,false,false,0⟩:zc)]:(List zc)).set (Int.toNat 0) (⟨x.Name,x.Number,x.Kind,true,x.Packed,x.Of⟩:zc))⟩:zh)]:List zh) 0 ([(8:UInt8),(1:UInt8),(8:UInt8),(2:UInt8)]:List UInt8) 0>>=fun rv2=>
 (
  if ((IntKind.i64.wrap ((IntKind.i64.wrap rv.2)+(IntKind.i64.wrap rv2.2)))==0) then (
   if ((rv.1.Values.length:Int)==1) then (
    idx rv.1.Values 0>>=fun x2=>
    zci x2.Words ([2]:(List Int))>>=fun rv3=>
    if rv3 then (
     if ((rv2.1.Values.length:Int)==1) then (
      idx rv2.1.Values 0>>=fun x3=>
      zci x3.Words ([1,2]:(List Int))>>=fun rv4=>
      some rv4
     ) else (
      some false
     )
    ) else (
     some false
    )
   ) else (
    some false
   )
  ) else (
   some false
  )
 )>>=fun g=>
 some g
def zcU (most:Int) (rec_tree_depth:ze→Int→Option Int) (x2:zb) (deep3:Int) (v3:Int):Option ((Int×Int)⊕(Int⊕Int)):=
 if (decide (v3<(x2.Subs.length:Int))) then (
  idx x2.Subs v3>>=fun x3=>
  if (decide (most≤0)) then (
   some (.inr (.inr 1))
  ) else (
   rec_tree_depth x3 (IntKind.i64.wrap (most - 1))>>=fun rv=>
   if (decide ((if deep3<(IntKind.i64.wrap (1+rv)) then (IntKind.i64.wrap (1+rv)) else deep3)>most)) then (
    some (.inr (.inr (if deep3<(IntKind.i64.wrap (1+rv)) then (IntKind.i64.wrap (1+rv)) else deep3)))
   ) else (
    some (.inl ((if deep3<(IntKind.i64.wrap (1+rv)) then (IntKind.i64.wrap (1+rv)) else deep3),(IntKind.i64.wrap (v3+1))))
   )
  )
 ) else (
  some (.inr (.inl deep3))
 )
def zfV (most:Int) (rec_tree_depth:ze→Int→Option Int) (x2:zb) (deep3:Int) (v3:Int):Option (Int⊕Int):=zak (fun s:(Int×Int)=>zcU most rec_tree_depth x2 s.1 s.2) (deep3,v3)
def zcT (most:Int) (rec_tree_depth:ze→Int→Option Int) (x:ze) (deep:Int) (v:Int):Option ((Int×Int)⊕(Int⊕Int)):=
 if (decide (v<(x.Values.length:Int))) then (
  idx x.Values v>>=fun x2=>
  zfV most rec_tree_depth x2 deep 0>>=fun q=>
  match q with
  | .inl u=>(
   some (.inl (u,(IntKind.i64.wrap (v+1))))
  )
  | .inr u2=>(
   some (.inr (.inr u2))
  )
 ) else (
  some (.inr (.inl deep))
 )
def zfU (most:Int) (rec_tree_depth:ze→Int→Option Int) (x:ze) (deep:Int) (v:Int):Option (Int⊕Int):=zak (fun s:(Int×Int)=>zcT most rec_tree_depth x s.1 s.2) (deep,v)
def zhu (rec_tree_depth:ze→Int→Option Int) (x:ze) (most:Int):Option Int:=
 zfU most rec_tree_depth x 0 0>>=fun q2=>
 match q2 with
 | .inl u3=>(
  some u3
 )
 | .inr u4=>(
  some u4
 )
def zfh:Nat→ze→Int→Option Int
  | 0,_,_=>none
  | fuel+1,x,most=>zhu (zfh fuel) x most
theorem zpE {most:Int} {rec_tree_depth:ze→Int→Option Int} {x2:zb} {deep3:Int} {v3:Int} {deep3':Int} {v3':Int} (h:zcU most rec_tree_depth x2 deep3 v3=some (.inl (deep3',v3'))):zfV most rec_tree_depth x2 deep3 v3=zfV most rec_tree_depth x2 deep3' v3':=zM (body:=fun s:(Int×Int)=>zcU most rec_tree_depth x2 s.1 s.2) h
theorem zpF {most:Int} {rec_tree_depth:ze→Int→Option Int} {x2:zb} {deep3:Int} {v3:Int} {oo_:(Int⊕Int)} (h:zcU most rec_tree_depth x2 deep3 v3=some (.inr oo_)):zfV most rec_tree_depth x2 deep3 v3=some oo_:=zN (body:=fun s:(Int×Int)=>zcU most rec_tree_depth x2 s.1 s.2) h
theorem zpC {most:Int} {rec_tree_depth:ze→Int→Option Int} {x:ze} {deep:Int} {v:Int} {deep':Int} {v':Int} (h:zcT most rec_tree_depth x deep v=some (.inl (deep',v'))):zfU most rec_tree_depth x deep v=zfU most rec_tree_depth x deep' v':=zM (body:=fun s:(Int×Int)=>zcT most rec_tree_depth x s.1 s.2) h
theorem zpD {most:Int} {rec_tree_depth:ze→Int→Option Int} {x:ze} {deep:Int} {v:Int} {oo_:(Int⊕Int)} (h:zcT most rec_tree_depth x deep v=some (.inr oo_)):zfU most rec_tree_depth x deep v=some oo_:=zN (body:=fun s:(Int×Int)=>zcT most rec_tree_depth x s.1 s.2) h
def zjC (fuel:Nat) (x:ze):Option Int:=
 zfh fuel x 131072>>=fun rv=>
 some rv
def zeS (v:zb):Option Int:=
 some (IntKind.i64.wrap ((IntKind.i64.wrap ((v.Words.length:Int)+(v.Texts.length:Int)))+(v.Subs.length:Int)))
def zaN (av:ze) (b:ze) (rec_darningref14_SameValue:zb→zb→Option Bool) (i:Int):Option (Int⊕(Unit⊕Unit)):=
 if (decide (i<(av.Values.length:Int))) then (
  idx av.Values i>>=fun x=>
  idx b.Values i>>=fun x2=>
  rec_darningref14_SameValue x x2>>=fun rv=>
  if (!rv) then (
   some (.inr (.inr ()))
  ) else (
   some (.inl (IntKind.i64.wrap (i+1)))
  )
 ) else (
  some (.inr (.inl ()))
 )
def zcH (av:ze) (b:ze) (rec_darningref14_SameValue:zb→zb→Option Bool) (i:Int):Option (Unit⊕Unit):=zak (fun s:Int=>zaN av b rec_darningref14_SameValue s) i
def zaO (av:ze) (b:ze) (i2:Int):Option (Int⊕(Unit⊕Unit)):=
 if (decide (i2<(av.Unknown.length:Int))) then (
  idx av.Unknown i2>>=fun x3=>
  idx b.Unknown i2>>=fun x4=>
  if (!(x3==x4)) then (
   some (.inr (.inr ()))
  ) else (
   some (.inl (IntKind.i64.wrap (i2+1)))
  )
 ) else (
  some (.inr (.inl ()))
 )
def zcI (av:ze) (b:ze) (i2:Int):Option (Unit⊕Unit):=zak (fun s:Int=>zaO av b s) i2
def zdW (rec_darningref14_Same:ze→ze→Option Bool) (rec_darningref14_SameValue:zb→zb→Option Bool) (av:ze) (b:ze):Option Bool:=
 if (((av.Values.length:Int) !=(b.Values.length:Int))|| ((av.Unknown.length:Int) !=(b.Unknown.length:Int))) then (
  some false
 ) else (
  zcH av b rec_darningref14_SameValue 0>>=fun q=>
  match q with
  | .inl u=>(
   zcI av b 0>>=fun q2=>
   match q2 with
   | .inl u2=>(
    some true
   )
   | .inr u3=>(
    some false
   )
  )
  | .inr u4=>(
   some false
  )
 )
def zal (av:zb) (b:zb) (i:Int):Option (Int⊕(Unit⊕Unit)):=
 if (decide (i<(av.Words.length:Int))) then (
  idx av.Words i>>=fun x=>
  idx b.Words i>>=fun x2=>
  if (x !=x2) then (
   some (.inr (.inr ()))
  ) else (
   some (.inl (IntKind.i64.wrap (i+1)))
  )
 ) else (
  some (.inr (.inl ()))
 )
def zbG (av:zb) (b:zb) (i:Int):Option (Unit⊕Unit):=zak (fun s:Int=>zal av b s) i
def zam (av:zb) (b:zb) (i2:Int):Option (Int⊕(Unit⊕Unit)):=
 if (decide (i2<(av.Texts.length:Int))) then (
  idx av.Texts i2>>=fun x3=>
  idx b.Texts i2>>=fun x4=>
  if (!(x3==x4)) then (
   some (.inr (.inr ()))
  ) else (
   some (.inl (IntKind.i64.wrap (i2+1)))
  )
 ) else (
  some (.inr (.inl ()))
 )
def zbH (av:zb) (b:zb) (i2:Int):Option (Unit⊕Unit):=zak (fun s:Int=>zam av b s) i2
def zan (av:zb) (b:zb) (rec_darningref14_Same:ze→ze→Option Bool) (i3:Int):Option (Int⊕(Unit⊕Unit)):=
 if (decide (i3<(av.Subs.length:Int))) then (
  idx av.Subs i3>>=fun x5=>
  idx b.Subs i3>>=fun x6=>
  rec_darningref14_Same x5 x6>>=fun rv=>
  if (!rv) then (
   some (.inr (.inr ()))
  ) else (
   some (.inl (IntKind.i64.wrap (i3+1)))
  )
 ) else (
  some (.inr (.inl ()))
 )
def zbI (av:zb) (b:zb) (rec_darningref14_Same:ze→ze→Option Bool) (i3:Int):Option (Unit⊕Unit):=zak (fun s:Int=>zan av b rec_darningref14_Same s) i3
def zcs (rec_darningref14_Same:ze→ze→Option Bool) (rec_darningref14_SameValue:zb→zb→Option Bool) (av:zb) (b:zb):Option Bool:=
 if ((av.Number !=b.Number)|| (((av.Words.length:Int) !=(b.Words.length:Int))|| (((av.Texts.length:Int) !=(b.Texts.length:Int))|| ((av.Subs.length:Int) !=(b.Subs.length:Int))))) then (
  some false
 ) else (
  zbG av b 0>>=fun q=>
  match q with
  | .inl u=>(
   zbH av b 0>>=fun q2=>
   match q2 with
   | .inl u2=>(
    zbI av b rec_darningref14_Same 0>>=fun q3=>
    match q3 with
    | .inl u3=>(
     some true
    )
    | .inr u4=>(
     some false
    )
   )
   | .inr u5=>(
    some false
   )
  )
  | .inr u6=>(
   some false
  )
 )
def zae:Nat→(ze→ze→Option Bool)×(zb→zb→Option Bool)
  | 0=>(fun _ _=>none,fun _ _=>none)
  | fuel+1=>(fun av b=>zdW (zae fuel).1 (zae fuel).2 av b,fun av b=>zcs (zae fuel).1 (zae fuel).2 av b)
def zbp (fuel:Nat):ze→ze→Option Bool:=(zae fuel).1
def zbL (fuel:Nat):zb→zb→Option Bool:=(zae fuel).2
theorem zkB {av:ze} {b:ze} {rec_darningref14_SameValue:zb→zb→Option Bool} {i:Int} {i':Int} (h:zaN av b rec_darningref14_SameValue i=some (.inl i')):zcH av b rec_darningref14_SameValue i=zcH av b rec_darningref14_SameValue i':=zM (body:=fun s:Int=>zaN av b rec_darningref14_SameValue s) h
theorem zgL {av:ze} {b:ze} {rec_darningref14_SameValue:zb→zb→Option Bool} {i:Int} {oo_:(Unit⊕Unit)} (h:zaN av b rec_darningref14_SameValue i=some (.inr oo_)):zcH av b rec_darningref14_SameValue i=some oo_:=zN (body:=fun s:Int=>zaN av b rec_darningref14_SameValue s) h
theorem zkC {av:ze} {b:ze} {i2:Int} {i2':Int} (h:zaO av b i2=some (.inl i2')):zcI av b i2=zcI av b i2':=zM (body:=fun s:Int=>zaO av b s) h
theorem zgM {av:ze} {b:ze} {i2:Int} {oo_:(Unit⊕Unit)} (h:zaO av b i2=some (.inr oo_)):zcI av b i2=some oo_:=zN (body:=fun s:Int=>zaO av b s) h
theorem zik {av:zb} {b:zb} {i:Int} {i':Int} (h:zal av b i=some (.inl i')):zbG av b i=zbG av b i':=zM (body:=fun s:Int=>zal av b s) h
theorem zfw {av:zb} {b:zb} {i:Int} {oo_:(Unit⊕Unit)} (h:zal av b i=some (.inr oo_)):zbG av b i=some oo_:=zN (body:=fun s:Int=>zal av b s) h
theorem zil {av:zb} {b:zb} {i2:Int} {i2':Int} (h:zam av b i2=some (.inl i2')):zbH av b i2=zbH av b i2':=zM (body:=fun s:Int=>zam av b s) h
theorem zfx {av:zb} {b:zb} {i2:Int} {oo_:(Unit⊕Unit)} (h:zam av b i2=some (.inr oo_)):zbH av b i2=some oo_:=zN (body:=fun s:Int=>zam av b s) h
theorem zim {av:zb} {b:zb} {rec_darningref14_Same:ze→ze→Option Bool} {i3:Int} {i3':Int} (h:zan av b rec_darningref14_Same i3=some (.inl i3')):zbI av b rec_darningref14_Same i3=zbI av b rec_darningref14_Same i3':=zM (body:=fun s:Int=>zan av b rec_darningref14_Same s) h
theorem zfy {av:zb} {b:zb} {rec_darningref14_Same:ze→ze→Option Bool} {i3:Int} {oo_:(Unit⊕Unit)} (h:zan av b rec_darningref14_Same i3=some (.inr oo_)):zbI av b rec_darningref14_Same i3=some oo_:=zN (body:=fun s:Int=>zan av b rec_darningref14_Same s) h
def zbe (b:(List UInt8)) (i:Int) (rec_darningref14_Of:(List zh)→Int→(List UInt8)→Option ze) (rv:((List zG)×Int×Int)) (rv2:(List Int)) (sv:(List zh)) (x5:zc) (joined:(List UInt8)) (met:Bool) (k:Int) (f3:(List Int)) (f4:(List Str)) (f5:(List ze)):Option (((List UInt8)×Bool×Int×(List Int)×(List Str)×(List ze))⊕((List UInt8)×Bool×(List Int)×(List Str)×(List ze))):=
 if (decide (k<(rv.1.length:Int))) then (
  idx rv.1 k>>=fun x6=>
  idx rv2 i>>=fun x7=>
  if (x6.Field !=x7) then (
   some (.inl (joined,met,(IntKind.i64.wrap (k+1)),f3,f4,f5))
  ) else (
   idx rv.1 k>>=fun x8=>
   idx rv.1 k>>=fun x9=>
   cut b x8.R.At x9.R.To>>=fun v=>
   ((
    if (!x5.Repeated) then (
     some ([],[])
    ) else (
     some (f3,f4)
    )
    :Option ((List Int)×(List Str))))>>=fun p=>
   idx rv.1 k>>=fun x10=>
   if x10.Run then (
    zer x5.Kind v>>=fun rv3=>
    app 8 p.1 rv3.1>>=fun v2=>
    some (.inl (joined,true,(IntKind.i64.wrap (k+1)),v2,p.2,f5))
   ) else (
    zbm x5.Kind>>=fun rv4=>
    if rv4 then (
     zdO x5.Kind v>>=fun rv5=>
     app 8 p.1 ([rv5.1]:(List Int))>>=fun v3=>
     some (.inl (joined,true,(IntKind.i64.wrap (k+1)),v3,p.2,f5))
    ) else (
     if ((x5.Kind==17)&&x5.Repeated) then (
      rec_darningref14_Of sv x5.Of v>>=fun rv6=>
      app 48 f5 ([rv6]:(List ze))>>=fun v5=>
      some (.inl (joined,true,(IntKind.i64.wrap (k+1)),p.1,p.2,v5))
     ) else (
      if (x5.Kind==17) then (
       app 1 joined v>>=fun v6=>
       some (.inl (v6,true,(IntKind.i64.wrap (k+1)),p.1,p.2,f5))
      ) else (
       app 16 p.2 ([v]:(List Str))>>=fun v7=>
       some (.inl (joined,true,(IntKind.i64.wrap (k+1)),p.1,v7,f5))
      )
     )
    )
   )
  )
 ) else (
  some (.inr (joined,met,f3,f4,f5))
 )
def zdu (b:(List UInt8)) (i:Int) (rec_darningref14_Of:(List zh)→Int→(List UInt8)→Option ze) (rv:((List zG)×Int×Int)) (rv2:(List Int)) (sv:(List zh)) (x5:zc) (joined:(List UInt8)) (met:Bool) (k:Int) (f3:(List Int)) (f4:(List Str)) (f5:(List ze)):Option ((List UInt8)×Bool×(List Int)×(List Str)×(List ze)):=zak (fun s:((List UInt8)×Bool×Int×(List Int)×(List Str)×(List ze))=>zbe b i rec_darningref14_Of rv rv2 sv x5 s.1 s.2.1 s.2.2.1 s.2.2.2.1 s.2.2.2.2.1 s.2.2.2.2.2) (joined,met,k,f3,f4,f5)
def zbd (b:(List UInt8)) (rec_darningref14_Of:(List zh)→Int→(List UInt8)→Option ze) (root:Int) (rv:((List zG)×Int×Int)) (rv2:(List Int)) (sv:(List zh)) (i:Int) (f:(List zb)):Option ((Int×(List zb))⊕(List zb)):=
 if (decide (i<(rv2.length:Int))) then (
  idx sv root>>=fun x3=>
  idx rv2 i>>=fun x4=>
  idx x3.Fields x4>>=fun x5=>
  zdu b i rec_darningref14_Of rv rv2 sv x5 [] false 0 [] [] []>>=fun q=>
  ((
   if (q.2.1&&((x5.Kind==17)&&(!x5.Repeated))) then (
    rec_darningref14_Of sv x5.Of q.1>>=fun rv7=>
    some ([rv7]:(List ze))
   ) else (
    some q.2.2.2.2
   )
   :Option (List ze)))>>=fun p2=>
  zeS (⟨x5.Number,q.2.2.1,q.2.2.2.1,p2⟩:zb)>>=fun rv8=>
  if (decide (rv8>0)) then (
   app 80 f ([(⟨x5.Number,q.2.2.1,q.2.2.2.1,p2⟩:zb)]:(List zb))>>=fun v9=>
   some (.inl ((IntKind.i64.wrap (i+1)),v9))
  ) else (
   some (.inl ((IntKind.i64.wrap (i+1)),f))
  )
 ) else (
  some (.inr f)
 )
def zdt (b:(List UInt8)) (rec_darningref14_Of:(List zh)→Int→(List UInt8)→Option ze) (root:Int) (rv:((List zG)×Int×Int)) (rv2:(List Int)) (sv:(List zh)) (i:Int) (f:(List zb)):Option (List zb):=zak (fun s:(Int×(List zb))=>zbd b rec_darningref14_Of root rv rv2 sv s.1 s.2) (i,f)
def zaH (b:(List UInt8)) (rv:((List zG)×Int×Int)) (k2:Int) (f12:(List Str)):Option ((Int×(List Str))⊕(List Str)):=
 if (decide (k2<(rv.1.length:Int))) then (
  idx rv.1 k2>>=fun x11=>
  if (decide (x11.Field<0)) then (
   idx rv.1 k2>>=fun x12=>
   idx rv.1 k2>>=fun x13=>
   cut b x12.R.From x13.R.To>>=fun v10=>
   app 16 f12 ([v10]:(List Str))>>=fun v11=>
   some (.inl ((IntKind.i64.wrap (k2+1)),v11))
  ) else (
   some (.inl ((IntKind.i64.wrap (k2+1)),f12))
  )
 ) else (
  some (.inr f12)
 )
def zdv (b:(List UInt8)) (rv:((List zG)×Int×Int)) (k2:Int) (f12:(List Str)):Option (List Str):=zak (fun s:(Int×(List Str))=>zaH b rv s.1 s.2) (k2,f12)
def zeT (rec_darningref14_Of:(List zh)→Int→(List UInt8)→Option ze) (sv:(List zh)) (root:Int) (b:(List UInt8)):Option ze:=
 idx sv root>>=fun x=>
 zfn x b>>=fun rv=>
 idx sv root>>=fun x2=>
 zdV x2>>=fun rv2=>
 zdt b rec_darningref14_Of root rv rv2 sv 0 []>>=fun q2=>
 zdv b rv 0 []>>=fun q3=>
 some (⟨q2,q3⟩:ze)
def zdi:Nat→(List zh)→Int→(List UInt8)→Option ze
  | 0,_,_,_=>none
  | fuel+1,sv,root,b=>zeT (zdi fuel) sv root b
theorem zhl {b:(List UInt8)} {i:Int} {rec_darningref14_Of:(List zh)→Int→(List UInt8)→Option ze} {rv:((List zG)×Int×Int)} {rv2:(List Int)} {sv:(List zh)} {x5:zc} {joined:(List UInt8)} {met:Bool} {k:Int} {f3:(List Int)} {f4:(List Str)} {f5:(List ze)} {joined':(List UInt8)} {met':Bool} {k':Int} {f3':(List Int)} {f4':(List Str)} {f5':(List ze)} (h:zbe b i rec_darningref14_Of rv rv2 sv x5 joined met k f3 f4 f5=some (.inl (joined',met',k',f3',f4',f5'))):zdu b i rec_darningref14_Of rv rv2 sv x5 joined met k f3 f4 f5=zdu b i rec_darningref14_Of rv rv2 sv x5 joined' met' k' f3' f4' f5':=zM (body:=fun s:((List UInt8)×Bool×Int×(List Int)×(List Str)×(List ze))=>zbe b i rec_darningref14_Of rv rv2 sv x5 s.1 s.2.1 s.2.2.1 s.2.2.2.1 s.2.2.2.2.1 s.2.2.2.2.2) h
theorem zlE {b:(List UInt8)} {i:Int} {rec_darningref14_Of:(List zh)→Int→(List UInt8)→Option ze} {rv:((List zG)×Int×Int)} {rv2:(List Int)} {sv:(List zh)} {x5:zc} {joined:(List UInt8)} {met:Bool} {k:Int} {f3:(List Int)} {f4:(List Str)} {f5:(List ze)} {oo_:((List UInt8)×Bool×(List Int)×(List Str)×(List ze))} (h:zbe b i rec_darningref14_Of rv rv2 sv x5 joined met k f3 f4 f5=some (.inr oo_)):zdu b i rec_darningref14_Of rv rv2 sv x5 joined met k f3 f4 f5=some oo_:=zN (body:=fun s:((List UInt8)×Bool×Int×(List Int)×(List Str)×(List ze))=>zbe b i rec_darningref14_Of rv rv2 sv x5 s.1 s.2.1 s.2.2.1 s.2.2.2.1 s.2.2.2.2.1 s.2.2.2.2.2) h
theorem zlC {b:(List UInt8)} {rec_darningref14_Of:(List zh)→Int→(List UInt8)→Option ze} {root:Int} {rv:((List zG)×Int×Int)} {rv2:(List Int)} {sv:(List zh)} {i:Int} {f:(List zb)} {i':Int} {f':(List zb)} (h:zbd b rec_darningref14_Of root rv rv2 sv i f=some (.inl (i',f'))):zdt b rec_darningref14_Of root rv rv2 sv i f=zdt b rec_darningref14_Of root rv rv2 sv i' f':=zM (body:=fun s:(Int×(List zb))=>zbd b rec_darningref14_Of root rv rv2 sv s.1 s.2) h
theorem zlD {b:(List UInt8)} {rec_darningref14_Of:(List zh)→Int→(List UInt8)→Option ze} {root:Int} {rv:((List zG)×Int×Int)} {rv2:(List Int)} {sv:(List zh)} {i:Int} {f:(List zb)} {oo_:(List zb)} (h:zbd b rec_darningref14_Of root rv rv2 sv i f=some (.inr oo_)):zdt b rec_darningref14_Of root rv rv2 sv i f=some oo_:=zN (body:=fun s:(Int×(List zb))=>zbd b rec_darningref14_Of root rv rv2 sv s.1 s.2) h
theorem zhm {b:(List UInt8)} {rv:((List zG)×Int×Int)} {k2:Int} {f12:(List Str)} {k2':Int} {f12':(List Str)} (h:zaH b rv k2 f12=some (.inl (k2',f12'))):zdv b rv k2 f12=zdv b rv k2' f12':=zM (body:=fun s:(Int×(List Str))=>zaH b rv s.1 s.2) h
theorem zlF {b:(List UInt8)} {rv:((List zG)×Int×Int)} {k2:Int} {f12:(List Str)} {oo_:(List Str)} (h:zaH b rv k2 f12=some (.inr oo_)):zdv b rv k2 f12=some oo_:=zN (body:=fun s:(Int×(List Str))=>zaH b rv s.1 s.2) h
def zaU (i:Int) (rec_darningref14_Depth:ze→Option Int) (x:ze) (d3:Int) (k:Int):Option ((Int×Int)⊕Int):=
 idx x.Values i>>=fun x2=>
 if (decide (k<(x2.Subs.length:Int))) then (
  idx x.Values i>>=fun x3=>
  idx x3.Subs k>>=fun x4=>
  rec_darningref14_Depth x4>>=fun rv=>
  some (.inl ((if d3<(IntKind.i64.wrap (1+rv)) then (IntKind.i64.wrap (1+rv)) else d3),(IntKind.i64.wrap (k+1))))
 ) else (
  some (.inr d3)
 )
def zcr (i:Int) (rec_darningref14_Depth:ze→Option Int) (x:ze) (d3:Int) (k:Int):Option Int:=zak (fun s:(Int×Int)=>zaU i rec_darningref14_Depth x s.1 s.2) (d3,k)
def zaT (rec_darningref14_Depth:ze→Option Int) (x:ze) (d:Int) (i:Int):Option ((Int×Int)⊕Int):=
 if (decide (i<(x.Values.length:Int))) then (
  zcr i rec_darningref14_Depth x d 0>>=fun q=>
  some (.inl (q,(IntKind.i64.wrap (i+1))))
 ) else (
  some (.inr d)
 )
def zcq (rec_darningref14_Depth:ze→Option Int) (x:ze) (d:Int) (i:Int):Option Int:=zak (fun s:(Int×Int)=>zaT rec_darningref14_Depth x s.1 s.2) (d,i)
def zdH (rec_darningref14_Depth:ze→Option Int) (x:ze):Option Int:=
 zcq rec_darningref14_Depth x 0 0>>=fun q2=>
 some q2
def zbK:Nat→ze→Option Int
  | 0,_=>none
  | fuel+1,x=>zdH (zbK fuel) x
theorem zjW {i:Int} {rec_darningref14_Depth:ze→Option Int} {x:ze} {d3:Int} {k:Int} {d3':Int} {k':Int} (h:zaU i rec_darningref14_Depth x d3 k=some (.inl (d3',k'))):zcr i rec_darningref14_Depth x d3 k=zcr i rec_darningref14_Depth x d3' k':=zM (body:=fun s:(Int×Int)=>zaU i rec_darningref14_Depth x s.1 s.2) h
theorem zjX {i:Int} {rec_darningref14_Depth:ze→Option Int} {x:ze} {d3:Int} {k:Int} {oo_:Int} (h:zaU i rec_darningref14_Depth x d3 k=some (.inr oo_)):zcr i rec_darningref14_Depth x d3 k=some oo_:=zN (body:=fun s:(Int×Int)=>zaU i rec_darningref14_Depth x s.1 s.2) h
theorem zjU {rec_darningref14_Depth:ze→Option Int} {x:ze} {d:Int} {i:Int} {d':Int} {i':Int} (h:zaT rec_darningref14_Depth x d i=some (.inl (d',i'))):zcq rec_darningref14_Depth x d i=zcq rec_darningref14_Depth x d' i':=zM (body:=fun s:(Int×Int)=>zaT rec_darningref14_Depth x s.1 s.2) h
theorem zjV {rec_darningref14_Depth:ze→Option Int} {x:ze} {d:Int} {i:Int} {oo_:Int} (h:zaT rec_darningref14_Depth x d i=some (.inr oo_)):zcq rec_darningref14_Depth x d i=some oo_:=zN (body:=fun s:(Int×Int)=>zaT rec_darningref14_Depth x s.1 s.2) h
def zdT (fuel:Nat) (sv:(List zh)) (root:Int) (b:(List UInt8)) (d:Int):Option Bool:=
 zek fuel>>=fun rv=>
 if (!rv) then (
  some false
 ) else (
  zfl sv>>=fun rv2=>
  if ((!rv2)|| (decide ((b.length:Int)>1500))) then (
   some true
  ) else (
   ziY fuel sv root b d>>=fun rv3=>
   zes fuel sv root b d>>=fun rv4=>
   if (rv4.2 !=0) then (
    (
     if ((IntKind.i64.wrap rv3.2)==rv4.2) then (
      zcb fuel rv3.1>>=fun rv5=>
      zbp fuel rv5 (⟨[],[]⟩:ze)>>=fun rv6=>
      some rv6
     ) else (
      some false
     )
    )>>=fun g=>
    some g
   ) else (
    zdi fuel sv root b>>=fun rv7=>
    (
     if ((IntKind.i64.wrap rv3.2)==0) then (
      zcb fuel rv3.1>>=fun rv8=>
      zbp fuel rv8 rv7>>=fun rv9=>
      if rv9 then (
       zjC fuel rv3.1>>=fun rv10=>
       zbK fuel rv7>>=fun rv11=>
       some (rv10==rv11)
      ) else (
       some false
      )
     ) else (
      some false
     )
    )>>=fun g2=>
    some g2
   )
  )
 )
end
end Go.Proofs.YtcbkcblkecmjnaaGreat
