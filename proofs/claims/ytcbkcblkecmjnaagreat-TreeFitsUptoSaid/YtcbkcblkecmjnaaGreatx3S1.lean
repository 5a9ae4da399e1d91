/-
  What the Go functions do, as plain functions. No condition.
-/
import Derived.Test.YtcbkcblkecmjnaaGreatx3K2
namespace Go.Proofs.YtcbkcblkecmjnaaGreat
open Go
set_option linter.unusedVariables false
abbrev Str:=List UInt8
structure zGa where
  a0:Str
  a1:Str
  a2:Str
  a3:Str
  a4:Str
  a5:Str
  a6:Str
  a7:Str
  a8:Str
  a9:Str
  a10:Str
  a11:Str
  a12:Str
  a13:Str
  a14:Str deriving DecidableEq
structure zq where
  Number:Int
  Wire:Int
  From:Int
  At:Int
  To:Int deriving DecidableEq
def zN:Rp zq:=⟨5,true,fun x=>[.int .i64 x.Number,.int .i64 x.Wire,.int .i64 x.From,.int .i64 x.At,.int .i64 x.To],fun _=>rfl,by decide⟩
structure ze where
  Record:zq
  Field:Int
  Run:Bool deriving DecidableEq
def zh:Rp ze:=⟨7,true,fun x=>[.int .i64 x.Record.Number,.int .i64 x.Record.Wire,.int .i64 x.Record.From,.int .i64 x.Record.At,.int .i64 x.Record.To,.int .i64 x.Field,.bool x.Run],fun _=>rfl,by decide⟩
structure zw where
  name:Str
  wire:Int deriving DecidableEq
def zE:Rp zw:=⟨2,true,fun x=>[.str x.name,.int .i64 x.wire],fun _=>rfl,by decide⟩
structure za where
  Name:Str
  Number:Int
  Kind:Int
  Repeated:Bool
  Packed:Bool
  Of:Int deriving DecidableEq
def zb:Rp za:=⟨6,true,fun x=>[.str x.Name,.int .i64 x.Number,.int .i64 x.Kind,.bool x.Repeated,.bool x.Packed,.int .i64 x.Of],fun _=>rfl,by decide⟩
mutual
structure zf where
  Values:(List zc)
  Unknown:(List Str)
structure zc where
  Number:Int
  Words:(List Int)
  Texts:(List Str)
  Subs:(List zf)
end
mutual
def zfM:zf→List LV
  | ⟨x0,x1⟩=>[.sl x0.length 4 (zcG x0),.sl x1.length Rp.str.size (x1.flatMap Rp.str.lv)]
def zfp:List zf→List LV
  | []=>[]
  | x::l=>zfM x++zfp l
def zcR:zc→List LV
  | ⟨x0,x1,x2,x3⟩=>[.int .i64 x0,.sl x1.length (Rp.int .u64).size (x1.flatMap (Rp.int .u64).lv),.sl x2.length Rp.str.size (x2.flatMap Rp.str.lv),.sl x3.length 2 (zfp x3)]
def zcG:List zc→List LV
  | []=>[]
  | x::l=>zcR x++zcG l
end
theorem zol (l:List zf):zfp l=l.flatMap zfM:=by
  induction l with
  | nil=>rfl
  | cons x l ih=>rw [zfp,ih,List.flatMap_cons]
def zj:Rp zf:=⟨2,true,zfM,fun x=>by cases x;rfl,by decide⟩
theorem ziO (l:List zc):zcG l=l.flatMap zcR:=by
  induction l with
  | nil=>rfl
  | cons x l ih=>rw [zcG,ih,List.flatMap_cons]
def zd:Rp zc:=⟨4,true,zcR,fun x=>by cases x;rfl,by decide⟩
theorem zab (x:zf):zj.lv x=[.sl x.Values.length zd.size (x.Values.flatMap zd.lv),.sl x.Unknown.length Rp.str.size (x.Unknown.flatMap Rp.str.lv)]:=by
  cases x;simp only [zj,zfM,ziO,zd]<;>rfl
theorem zx (x:zc):zd.lv x=[.int .i64 x.Number,.sl x.Words.length (Rp.int .u64).size (x.Words.flatMap (Rp.int .u64).lv),.sl x.Texts.length Rp.str.size (x.Texts.flatMap Rp.str.lv),.sl x.Subs.length zj.size (x.Subs.flatMap zj.lv)]:=by
  cases x;simp only [zd,zcR,zol,zj]<;>rfl
structure zg where
  Name:Str
  Fields:(List za) deriving DecidableEq
def zi:Rp zg:=⟨2,true,fun x=>[.str x.Name,.sl x.Fields.length zb.size (x.Fields.flatMap zb.lv)],fun _=>rfl,by decide⟩
structure zbg where
  Number:Int
  Wire:Int deriving DecidableEq
def zeN:Rp zbg:=⟨2,true,fun x=>[.int .i64 x.Number,.int .i64 x.Wire],fun _=>rfl,by decide⟩
structure zo where
  message:Int
  name:Str deriving DecidableEq
def zu:Rp zo:=⟨2,true,fun x=>[.int .i64 x.message,.str x.name],fun _=>rfl,by decide⟩
structure zp where
  message:Int
  number:Int deriving DecidableEq
def zt:Rp zp:=⟨2,true,fun x=>[.int .i64 x.message,.int .i64 x.number],fun _=>rfl,by decide⟩
structure zaI where
  size:Int
  kinds:(List Int)
  names:(List (zo×Bool))
  numbers:(List (zp×Bool))
structure zaT where
  Message:Int
  Field:Int
  What:Int deriving DecidableEq
def zdp:Rp zaT:=⟨3,true,fun x=>[.int .i64 x.Message,.int .i64 x.Field,.int .i64 x.What],fun _=>rfl,by decide⟩
structure zJ where
  number:Int
  wire:Int deriving DecidableEq
def zP:Rp zJ:=⟨2,true,fun x=>[.int .i64 x.number,.int .i64 x.wire],fun _=>rfl,by decide⟩
structure zM where
  field:Int
  run:Bool
  e:Int deriving DecidableEq
def zR:Rp zM:=⟨3,true,fun x=>[.int .i64 x.field,.bool x.run,.int .u8 x.e],fun _=>rfl,by decide⟩
structure ztp where
  R:zq
  Field:Int
  Run:Bool deriving DecidableEq
structure zm where
  message:Int
  number:Int
  wire:Int deriving DecidableEq
def zk:Rp zm:=⟨3,true,fun x=>[.int .i64 x.message,.int .i64 x.number,.int .i64 x.wire],fun _=>rfl,by decide⟩
structure zam where
  s:(List zg)
  b:(List UInt8)
  met:(List (zm×ze))
structure zA where
  depth:Int
  place:Int
  e:Int deriving DecidableEq
def zaw:Rp zA:=⟨3,true,fun x=>[.int .i64 x.depth,.int .i64 x.place,.int .u8 x.e],fun _=>rfl,by decide⟩
structure zGb where
  a0:Int
  a1:Int deriving DecidableEq
end Go.Proofs.YtcbkcblkecmjnaaGreat
namespace Go.Proofs.YtcbkcblkecmjnaaGreat
open Go
set_option linter.unusedVariables false
noncomputable section
def zcm (n:Int):Option (List UInt8):=
 if (decide (n<0)) then (
  none
 ) else (
  if (decide ((IntKind.i64.wrap (n - (IntKind.i64.wrap (0 - 0))))>0)) then (
   mkO 1 (0:UInt8) (IntKind.i64.wrap (n - (IntKind.i64.wrap (0 - 0)))) (IntKind.i64.wrap (n - (IntKind.i64.wrap (0 - 0))))>>=fun v=>
   cut v 0 0>>=fun v2=>
   some v2
  ) else (
   some []
  )
 )
def zac (slices:(List (List UInt8))) (size:Int) (v:Int):Option ((Int×Int)⊕Int):=
 if (decide (v<(slices.length:Int))) then (
  idx slices v>>=fun x=>
  if (decide ((IntKind.i64.wrap (size+(x.length:Int)))<0)) then (
   none
  ) else (
   some (.inl ((IntKind.i64.wrap (size+(x.length:Int))),(IntKind.i64.wrap (v+1))))
  )
 ) else (
  some (.inr size)
 )
def zbd (slices:(List (List UInt8))) (size:Int) (v:Int):Option Int:=zai (fun s:(Int×Int)=>zac slices s.1 s.2) (size,v)
def zad (slices:(List (List UInt8))) (newslice:(List UInt8)) (v2:Int):Option (((List UInt8)×Int)⊕(List UInt8)):=
 if (decide (v2<(slices.length:Int))) then (
  idx slices v2>>=fun x2=>
  app 1 newslice x2>>=fun v3=>
  some (.inl (v3,(IntKind.i64.wrap (v2+1))))
 ) else (
  some (.inr newslice)
 )
def zbe (slices:(List (List UInt8))) (newslice:(List UInt8)) (v2:Int):Option (List UInt8):=zai (fun s:((List UInt8)×Int)=>zad slices s.1 s.2) (newslice,v2)
def zbR (slices:(List (List UInt8))):Option (List UInt8):=
 zbd slices 0 0>>=fun q=>
 zcm q>>=fun rv=>
 zbe slices rv 0>>=fun q2=>
 some q2
theorem zha {slices:(List (List UInt8))} {size:Int} {v:Int} {size':Int} {v':Int} (h:zac slices size v=some (.inl (size',v'))):zbd slices size v=zbd slices size' v':=zL (body:=fun s:(Int×Int)=>zac slices s.1 s.2) h
theorem zhb {slices:(List (List UInt8))} {size:Int} {v:Int} {oo_:Int} (h:zac slices size v=some (.inr oo_)):zbd slices size v=some oo_:=zK (body:=fun s:(Int×Int)=>zac slices s.1 s.2) h
theorem zhc {slices:(List (List UInt8))} {newslice:(List UInt8)} {v2:Int} {newslice':(List UInt8)} {v2':Int} (h:zad slices newslice v2=some (.inl (newslice',v2'))):zbe slices newslice v2=zbe slices newslice' v2':=zL (body:=fun s:((List UInt8)×Int)=>zad slices s.1 s.2) h
theorem zhd {slices:(List (List UInt8))} {newslice:(List UInt8)} {v2:Int} {oo_:(List UInt8)} (h:zad slices newslice v2=some (.inr oo_)):zbe slices newslice v2=some oo_:=zK (body:=fun s:((List UInt8)×Int)=>zad slices s.1 s.2) h
def zaf (sv:(List Int)) (v:Int) (v2:Int):Option (Int⊕(Unit⊕Int)):=
 if (decide (v2<(sv.length:Int))) then (
  idx sv v2>>=fun x=>
  if (v==x) then (
   some (.inr (.inr v2))
  ) else (
   some (.inl (IntKind.i64.wrap (v2+1)))
  )
 ) else (
  some (.inr (.inl ()))
 )
def zbv (sv:(List Int)) (v:Int) (v2:Int):Option (Unit⊕Int):=zai (fun s:Int=>zaf sv v s) v2
def zcD (sv:(List Int)) (v:Int):Option Int:=
 zbv sv v 0>>=fun q=>
 match q with
 | .inl u=>(
  some (-1)
 )
 | .inr u2=>(
  some u2
 )
theorem zhO {sv:(List Int)} {v:Int} {v2:Int} {v2':Int} (h:zaf sv v v2=some (.inl v2')):zbv sv v v2=zbv sv v v2':=zL (body:=fun s:Int=>zaf sv v s) h
theorem zfd {sv:(List Int)} {v:Int} {v2:Int} {oo_:(Unit⊕Int)} (h:zaf sv v v2=some (.inr oo_)):zbv sv v v2=some oo_:=zK (body:=fun s:Int=>zaf sv v s) h
def zbS (sv:(List Int)) (v:Int):Option Bool:=
 zcD sv v>>=fun rv=>
 some (decide (rv≥0))
end
end Go.Proofs.YtcbkcblkecmjnaaGreat
namespace Go.Proofs.YtcbkcblkecmjnaaGreat
open Go
set_option linter.unusedVariables false
noncomputable section
def zdU (wv2:Int) (n:Int):Option ((Int×Int)⊕Int):=
 if (wv2 !=0) then (
  some (.inl ((shrI .u64 wv2 7),(IntKind.i64.wrap (n+1))))
 ) else (
  some (.inr n)
 )
def zgP (wv2:Int) (n:Int):Option Int:=zai (fun s:(Int×Int)=>zdU s.1 s.2) (wv2,n)
def zmz (wv:Int):Option Int:=
 zgP (shrI .u64 wv 7) 1>>=fun q=>
 some q
theorem zqX {wv2:Int} {n:Int} {wv2':Int} {n':Int} (h:zdU wv2 n=some (.inl (wv2',n'))):zgP wv2 n=zgP wv2' n':=zL (body:=fun s:(Int×Int)=>zdU s.1 s.2) h
theorem zqY {wv2:Int} {n:Int} {oo_:Int} (h:zdU wv2 n=some (.inr oo_)):zgP wv2 n=some oo_:=zK (body:=fun s:(Int×Int)=>zdU s.1 s.2) h
def zhE (wv:Int):Option Int:=
 some (IntKind.u32.wrap wv)
def zhY (wv:Int):Option Int:=
 zhE wv>>=fun rv=>
 some (IntKind.i32.wrap rv)
def zhZ (n:Int):Option Int:=
 some (IntKind.u64.wrap (IntKind.i64.wrap n))
def zdk (v:(List UInt8)) (wv:Int) (v2:Int):Option ((Int×Int)⊕Int):=
 if (decide (v2<(v.length:Int))) then (
  idx v v2>>=fun x=>
  shlO .u64 (IntKind.u64.wrap (x.toNat:Int)) (IntKind.i64.wrap (8*v2))>>=fun v3=>
  some (.inl ((orI .u64 wv v3),(IntKind.i64.wrap (v2+1))))
 ) else (
  some (.inr wv)
 )
def zgf (v:(List UInt8)) (wv:Int) (v2:Int):Option Int:=zai (fun s:(Int×Int)=>zdk v s.1 s.2) (wv,v2)
def zkQ (b:(List UInt8)):Option Int:=
 cut b 0 (if (8:Int)<(b.length:Int) then 8 else (b.length:Int))>>=fun v=>
 zgf v 0 0>>=fun q=>
 some q
theorem zpK {v:(List UInt8)} {wv:Int} {v2:Int} {wv':Int} {v2':Int} (h:zdk v wv v2=some (.inl (wv',v2'))):zgf v wv v2=zgf v wv' v2':=zL (body:=fun s:(Int×Int)=>zdk v s.1 s.2) h
theorem zpL {v:(List UInt8)} {wv:Int} {v2:Int} {oo_:Int} (h:zdk v wv v2=some (.inr oo_)):zgf v wv v2=some oo_:=zK (body:=fun s:(Int×Int)=>zdk v s.1 s.2) h
def zdJ (wv:Int):Option Int:=
 if (decide ((IntKind.i64.wrap (Int.tmod wv 4294967296))≥2147483648)) then (
  some (IntKind.i64.wrap ((IntKind.i64.wrap (Int.tmod wv 4294967296)) - 4294967296))
 ) else (
  some (IntKind.i64.wrap (Int.tmod wv 4294967296))
 )
def zez (n:Int):Option Int:=
 if (decide (n≥0)) then (
  some (IntKind.u64.wrap n)
 ) else (
  some (IntKind.u64.wrap (18446744073709551615 - (IntKind.u64.wrap (IntKind.i64.wrap (0 - (IntKind.i64.wrap (n+1)))))))
 )
end
end Go.Proofs.YtcbkcblkecmjnaaGreat
namespace Go.Proofs.YtcbkcblkecmjnaaGreat
open Go
set_option linter.unusedVariables false
noncomputable section
def zbT (v:(List UInt8)) (wv:Int) (v2:Int):Option ((Int×Int)⊕(Unit⊕(Int×Int×Int))):=
 if (decide (v2<(v.length:Int))) then (
  idx v v2>>=fun x=>
  if ((v2==9)&&(decide ((x.toNat:Int)>1))) then (
   some (.inr (.inr (0,0,4)))
  ) else (
   shlO .u64 (IntKind.u64.wrap (andI .u8 (x.toNat:Int) 127)) (IntKind.i64.wrap (7*v2))>>=fun v4=>
   if (decide ((x.toNat:Int)<128)) then (
    some (.inr (.inr ((orI .u64 wv v4),(IntKind.i64.wrap (v2+1)),0)))
   ) else (
    some (.inl ((orI .u64 wv v4),(IntKind.i64.wrap (v2+1))))
   )
  )
 ) else (
  some (.inr (.inl ()))
 )
def zfg (v:(List UInt8)) (wv:Int) (v2:Int):Option (Unit⊕(Int×Int×Int)):=zai (fun s:(Int×Int)=>zbT v s.1 s.2) (wv,v2)
def zeM (b:(List UInt8)):Option (Int×Int×Int):=
 cut b 0 (if (10:Int)<(b.length:Int) then 10 else (b.length:Int))>>=fun v=>
 zfg v 0 0>>=fun q=>
 match q with
 | .inl u=>(
  some (0,0,3)
 )
 | .inr u2=>(
  some (u2.1,u2.2.1,u2.2.2)
 )
theorem zoD {v:(List UInt8)} {wv:Int} {v2:Int} {wv':Int} {v2':Int} (h:zbT v wv v2=some (.inl (wv',v2'))):zfg v wv v2=zfg v wv' v2':=zL (body:=fun s:(Int×Int)=>zbT v s.1 s.2) h
theorem zgO {v:(List UInt8)} {wv:Int} {v2:Int} {oo_:(Unit⊕(Int×Int×Int))} (h:zbT v wv v2=some (.inr oo_)):zfg v wv v2=some oo_:=zK (body:=fun s:(Int×Int)=>zbT v s.1 s.2) h
def zhW (b2:(List UInt8)) (l:(List Int)):Option (((List UInt8)×(List Int))⊕((List Int)⊕Int)):=
 if (decide ((b2.length:Int)>0)) then (
  zeM b2>>=fun rv=>
  if (rv.2.2 !=0) then (
   some (.inr (.inr rv.2.2))
  ) else (
   app 8 l ([rv.1]:(List Int))>>=fun v2=>
   cut b2 rv.2.1 (b2.length:Int)>>=fun v3=>
   some (.inl (v3,v2))
  )
 ) else (
  some (.inr (.inl l))
 )
def znZ (b2:(List UInt8)) (l:(List Int)):Option ((List Int)⊕Int):=zai (fun s:((List UInt8)×(List Int))=>zhW s.1 s.2) (b2,l)
theorem zpA {b2:(List UInt8)} {l:(List Int)} {oo_:((List Int)⊕Int)} (h:zhW b2 l=some (.inr oo_)):znZ b2 l=some oo_:=zK (body:=fun s:((List UInt8)×(List Int))=>zhW s.1 s.2) h
def zaK (av:(List Int)) (b:(List Int)) (i:Int):Option (Int⊕(Unit⊕Unit)):=
 if (decide (i<(av.length:Int))) then (
  idx av i>>=fun x=>
  idx b i>>=fun x2=>
  if (x !=x2) then (
   some (.inr (.inr ()))
  ) else (
   some (.inl (IntKind.i64.wrap (i+1)))
  )
 ) else (
  some (.inr (.inl ()))
 )
def zbA (av:(List Int)) (b:(List Int)) (i:Int):Option (Unit⊕Unit):=zai (fun s:Int=>zaK av b s) i
def zbZ (av:(List Int)) (b:(List Int)):Option Bool:=
 if ((av.length:Int) !=(b.length:Int)) then (
  some false
 ) else (
  zbA av b 0>>=fun q=>
  match q with
  | .inl u=>(
   some true
  )
  | .inr u2=>(
   some false
  )
 )
theorem zkt {av:(List Int)} {b:(List Int)} {i:Int} {i':Int} (h:zaK av b i=some (.inl i')):zbA av b i=zbA av b i':=zL (body:=fun s:Int=>zaK av b s) h
theorem zgz {av:(List Int)} {b:(List Int)} {i:Int} {oo_:(Unit⊕Unit)} (h:zaK av b i=some (.inr oo_)):zbA av b i=some oo_:=zK (body:=fun s:Int=>zaK av b s) h
def zay (atv:Int) (b:(List UInt8)) (n:Int):Option (Int⊕Int):=
 (
  if (decide ((IntKind.i64.wrap (atv+n))<(b.length:Int))) then (
   if (decide (n<10)) then (
    idx b (IntKind.i64.wrap (atv+n))>>=fun x=>
    some (decide ((x.toNat:Int)≥128))
   ) else (
    some false
   )
  ) else (
   some false
  )
 )>>=fun g=>
 if g then (
  some (.inl (IntKind.i64.wrap (n+1)))
 ) else (
  some (.inr n)
 )
def zct (atv:Int) (b:(List UInt8)) (n:Int):Option Int:=zai (fun s:Int=>zay atv b s) n
def zaV (atv:Int) (b:(List UInt8)) (wv:Int) (i:Int):Option ((Int×Int)⊕Int):=
 if (decide (i≥0)) then (
  idx b (IntKind.i64.wrap (atv+i))>>=fun x3=>
  some (.inl ((IntKind.u64.wrap ((IntKind.u64.wrap (128*wv))+(IntKind.u64.wrap (Int.tmod (x3.toNat:Int) 128)))),(IntKind.i64.wrap (i - 1))))
 ) else (
  some (.inr wv)
 )
def zcu (atv:Int) (b:(List UInt8)) (wv:Int) (i:Int):Option Int:=zai (fun s:(Int×Int)=>zaV atv b s.1 s.2) (wv,i)
def zcO (b:(List UInt8)) (atv:Int):Option (Int×Int×Int):=
 zct atv b 0>>=fun q=>
 if (q==10) then (
  some (0,0,4)
 ) else (
  if ((IntKind.i64.wrap (atv+q))==(b.length:Int)) then (
   some (0,0,3)
  ) else (
   (
    if (q==9) then (
     idx b (IntKind.i64.wrap (atv+q))>>=fun x2=>
     some (decide ((x2.toNat:Int)>1))
    ) else (
     some false
    )
   )>>=fun g2=>
   if g2 then (
    some (0,0,4)
   ) else (
    zcu atv b 0 q>>=fun q2=>
    some (q2,(IntKind.i64.wrap (q+1)),0)
   )
  )
 )
theorem zkq {atv:Int} {b:(List UInt8)} {n:Int} {n':Int} (h:zay atv b n=some (.inl n')):zct atv b n=zct atv b n':=zL (body:=fun s:Int=>zay atv b s) h
theorem zeO {atv:Int} {b:(List UInt8)} {n:Int} {oo_:Int} (h:zay atv b n=some (.inr oo_)):zct atv b n=some oo_:=zK (body:=fun s:Int=>zay atv b s) h
theorem zkr {atv:Int} {b:(List UInt8)} {wv:Int} {i:Int} {wv':Int} {i':Int} (h:zaV atv b wv i=some (.inl (wv',i'))):zcu atv b wv i=zcu atv b wv' i':=zL (body:=fun s:(Int×Int)=>zaV atv b s.1 s.2) h
theorem zks {atv:Int} {b:(List UInt8)} {wv:Int} {i:Int} {oo_:Int} (h:zaV atv b wv i=some (.inr oo_)):zcu atv b wv i=some oo_:=zK (body:=fun s:(Int×Int)=>zaV atv b s.1 s.2) h
def zgY (b:(List UInt8)):Option (Int×Int):=
 zeM b>>=fun rv=>
 some (rv.2.1,rv.2.2)
end
end Go.Proofs.YtcbkcblkecmjnaaGreat
namespace Go.Proofs.YtcbkcblkecmjnaaGreat
open Go
set_option linter.unusedVariables false
noncomputable section
def zgG (wire:Int):Option Bool:=
 if (wire==0) then (
  if (wire==0) then (
   some true
  ) else (
   some false
  )
 ) else (
  if (wire==1) then (
   if (wire==1) then (
    some true
   ) else (
    some false
   )
  ) else (
   if (wire==2) then (
    if (wire==2) then (
     some true
    ) else (
     some false
    )
   ) else (
    if (wire==5) then (
     some true
    ) else (
     some false
    )
   )
  )
 )
def zlo (t:zbg):Option Bool:=
 (
  if (decide (t.Number≥1)) then (
   if (decide (t.Number≤536870911)) then (
    zgG t.Wire>>=fun rv=>
    some rv
   ) else (
    some false
   )
  ) else (
   some false
  )
 )>>=fun g=>
 some g
def zne (b:(List UInt8)):Option (zbg×Int×Int):=
 zeM b>>=fun rv=>
 if (rv.2.2 !=0) then (
  some ((⟨0,0⟩:zbg),0,rv.2.2)
 ) else (
  zlo (⟨(IntKind.i64.wrap (if (536870912:Int)<(shrI .u64 rv.1 3) then 536870912 else (shrI .u64 rv.1 3))),(IntKind.i64.wrap (andI .u64 rv.1 7))⟩:zbg)>>=fun rv2=>
  if (!rv2) then (
   some ((⟨0,0⟩:zbg),0,5)
  ) else (
   some ((⟨(IntKind.i64.wrap (if (536870912:Int)<(shrI .u64 rv.1 3) then 536870912 else (shrI .u64 rv.1 3))),(IntKind.i64.wrap (andI .u64 rv.1 7))⟩:zbg),rv.2.1,0)
  )
 )
def zdZ (number:Int) (wire:Int):Option Bool:=
 some ((decide (number≥1))&&((decide (number≤536870911))&&((wire==0)|| ((wire==1)|| ((wire==2)|| (wire==5))))))
def zeA (b:(List UInt8)) (atv:Int):Option (Int×Int×Int×Int):=
 zcO b atv>>=fun rv=>
 if (rv.2.2 !=0) then (
  some (0,0,0,rv.2.2)
 ) else (
  (
   if (decide (rv.1>4294967295)) then (
    some true
   ) else (
    zdZ (IntKind.i64.wrap (IntKind.u64.wrap (Int.tdiv rv.1 8))) (IntKind.i64.wrap (Int.tmod rv.1 8))>>=fun rv2=>
    some (!rv2)
   )
  )>>=fun g=>
  if g then (
   some (0,0,0,5)
  ) else (
   some ((IntKind.i64.wrap (IntKind.u64.wrap (Int.tdiv rv.1 8))),(IntKind.i64.wrap (Int.tmod rv.1 8)),rv.2.1,0)
  )
 )
end
end Go.Proofs.YtcbkcblkecmjnaaGreat
namespace Go.Proofs.YtcbkcblkecmjnaaGreat
open Go
set_option linter.unusedVariables false
noncomputable section
def zpz (c:Int):Option (Int×Int):=
 if ((shrI .u8 c 7)==0) then (
  some (1,(IntKind.u32.wrap c))
 ) else (
  if ((shrI .u8 c 5)==6) then (
   some (2,(IntKind.u32.wrap (andI .u8 c 31)))
  ) else (
   if ((shrI .u8 c 4)==14) then (
    some (3,(IntKind.u32.wrap (andI .u8 c 15)))
   ) else (
    if ((shrI .u8 c 3)==30) then (
     some (4,(IntKind.u32.wrap (andI .u8 c 7)))
    ) else (
     some (0,0)
    )
   )
  )
 )
def zlx (wv:Int):Option Int:=
 if ((shrI .u32 wv 7)==0) then (
  some 1
 ) else (
  if ((shrI .u32 wv 11)==0) then (
   some 2
  ) else (
   if ((shrI .u32 wv 11)==27) then (
    some 0
   ) else (
    if ((shrI .u32 wv 16)==0) then (
     some 3
    ) else (
     if (decide (wv≤1114111)) then (
      some 4
     ) else (
      some 0
     )
    )
   )
  )
 )
def zdw (v2:(List UInt8)) (wv:Int) (v3:Int):Option ((Int×Int)⊕(Int⊕Unit)):=
 if (decide (v3<(v2.length:Int))) then (
  idx v2 v3>>=fun x2=>
  if ((shrI .u8 (x2.toNat:Int) 6) !=2) then (
   some (.inr (.inr ()))
  ) else (
   some (.inl ((orI .u32 (shlI .u32 wv 6) (IntKind.u32.wrap (andI .u8 (x2.toNat:Int) 63))),(IntKind.i64.wrap (v3+1))))
  )
 ) else (
  some (.inr (.inl wv))
 )
def zcc (v2:(List UInt8)) (wv:Int) (v3:Int):Option (Int⊕Unit):=zai (fun s:(Int×Int)=>zdw v2 s.1 s.2) (wv,v3)
def zlw (b:(List UInt8)):Option Int:=
 if ((b.length:Int)==0) then (
  some 0
 ) else (
  idx b 0>>=fun x=>
  zpz (x.toNat:Int)>>=fun rv=>
  if ((rv.1==0)|| (decide (rv.1>(b.length:Int)))) then (
   some 0
  ) else (
   cut b 1 rv.1>>=fun v2=>
   zcc v2 rv.2 0>>=fun q=>
   match q with
   | .inl u=>(
    zlx u>>=fun rv2=>
    if (rv.1 !=rv2) then (
     some 0
    ) else (
     some rv.1
    )
   )
   | .inr u2=>(
    some 0
   )
  )
 )
theorem zre {v2:(List UInt8)} {wv:Int} {v3:Int} {wv':Int} {v3':Int} (h:zdw v2 wv v3=some (.inl (wv',v3'))):zcc v2 wv v3=zcc v2 wv' v3':=zL (body:=fun s:(Int×Int)=>zdw v2 s.1 s.2) h
theorem zmc {v2:(List UInt8)} {wv:Int} {v3:Int} {oo_:(Int⊕Unit)} (h:zdw v2 wv v3=some (.inr oo_)):zcc v2 wv v3=some oo_:=zK (body:=fun s:(Int×Int)=>zdw v2 s.1 s.2) h
def zdV (b:(List UInt8)) (atv:Int) (points:Int) (size:Int):Option ((Int×Int×Int)⊕(Int×Int)):=
 if (decide (size>0)) then (
  cut b (IntKind.i64.wrap (atv+size)) (b.length:Int)>>=fun v=>
  zlw v>>=fun rv2=>
  some (.inl ((IntKind.i64.wrap (atv+size)),(IntKind.i64.wrap (points+1)),rv2))
 ) else (
  some (.inr (atv,points))
 )
def zgb (b:(List UInt8)) (atv:Int) (points:Int) (size:Int):Option (Int×Int):=zai (fun s:(Int×Int×Int)=>zdV b s.1 s.2.1 s.2.2) (atv,points,size)
def znk (b:(List UInt8)):Option (Int×Int):=
 zlw b>>=fun rv=>
 zgb b 0 0 rv>>=fun q=>
 some (q.1,q.2)
theorem zrf {b:(List UInt8)} {atv:Int} {points:Int} {size:Int} {atv':Int} {points':Int} {size':Int} (h:zdV b atv points size=some (.inl (atv',points',size'))):zgb b atv points size=zgb b atv' points' size':=zL (body:=fun s:(Int×Int×Int)=>zdV b s.1 s.2.1 s.2.2) h
theorem zrg {b:(List UInt8)} {atv:Int} {points:Int} {size:Int} {oo_:(Int×Int)} (h:zdV b atv points size=some (.inr oo_)):zgb b atv points size=some oo_:=zK (body:=fun s:(Int×Int×Int)=>zdV b s.1 s.2.1 s.2.2) h
def zlv (b:(List UInt8)):Option Int:=
 znk b>>=fun rv=>
 some rv.1
def zhS (b:(List UInt8)):Option Bool:=
 zlv b>>=fun rv=>
 some (rv==(b.length:Int))
def zeZ (rv:Int):Option (List UInt8):=
 if ((decide (rv<0))|| ((decide (rv>1114111))|| ((decide (rv≥55296))&&(decide (rv≤57343))))) then (
  some []
 ) else (
  if (decide (rv<128)) then (
   ziD (IntKind.u8.wrap rv)>>=fun y=>
   some ([y]:List UInt8)
  ) else (
   if (decide (rv<2048)) then (
    ziD (IntKind.u8.wrap (IntKind.i64.wrap (192+(IntKind.i64.wrap (Int.tdiv rv 64)))))>>=fun y2=>
    ziD (IntKind.u8.wrap (IntKind.i64.wrap (128+(Int.tmod rv 64))))>>=fun y3=>
    some ([y2,y3]:List UInt8)
   ) else (
    if (decide (rv<65536)) then (
     ziD (IntKind.u8.wrap (IntKind.i64.wrap (224+(IntKind.i64.wrap (Int.tdiv rv 4096)))))>>=fun y4=>
     ziD (IntKind.u8.wrap (IntKind.i64.wrap (128+(Int.tmod (IntKind.i64.wrap (Int.tdiv rv 64)) 64))))>>=fun y5=>
     ziD (IntKind.u8.wrap (IntKind.i64.wrap (128+(Int.tmod rv 64))))>>=fun y6=>
     some ([y4,y5,y6]:List UInt8)
    ) else (
     ziD (IntKind.u8.wrap (IntKind.i64.wrap (240+(IntKind.i64.wrap (Int.tdiv rv 262144)))))>>=fun y7=>
     ziD (IntKind.u8.wrap (IntKind.i64.wrap (128+(Int.tmod (IntKind.i64.wrap (Int.tdiv rv 4096)) 64))))>>=fun y8=>
     ziD (IntKind.u8.wrap (IntKind.i64.wrap (128+(Int.tmod (IntKind.i64.wrap (Int.tdiv rv 64)) 64))))>>=fun y9=>
     ziD (IntKind.u8.wrap (IntKind.i64.wrap (128+(Int.tmod rv 64))))>>=fun y10=>
     some ([y7,y8,y9,y10]:List UInt8)
    )
   )
  )
 )
def zaX (atv:Int) (b:(List UInt8)) (n:Int) (rv2:Int) (i:Int):Option ((Int×Int)⊕Int):=
 if (decide (i<n)) then (
  idx b (IntKind.i64.wrap (atv+i))>>=fun x3=>
  some (.inl ((IntKind.i64.wrap ((IntKind.i64.wrap (64*rv2))+(Int.tmod (IntKind.i64.wrap (x3.toNat:Int)) 64))),(IntKind.i64.wrap (i+1))))
 ) else (
  some (.inr rv2)
 )
def zbk (atv:Int) (b:(List UInt8)) (n:Int) (rv2:Int) (i:Int):Option Int:=zai (fun s:(Int×Int)=>zaX atv b n s.1 s.2) (rv2,i)
def zaW (atv:Int) (b:(List UInt8)) (n:Int):Option (Int⊕(Unit⊕Int)):=
 if ((decide (n≤4))&&(decide ((IntKind.i64.wrap (atv+n))≤(b.length:Int)))) then (
  idx b atv>>=fun x=>
  ((
   if (decide (n>1)) then (
    idx ([0,0,32,16,8]:(List Int)) n>>=fun x2=>
    remI (IntKind.i64.wrap (x.toNat:Int)) x2>>=fun v3=>
    some v3
   ) else (
    some (IntKind.i64.wrap (x.toNat:Int))
   )
   :Option Int))>>=fun p=>
  zbk atv b n p 1>>=fun q=>
  zeZ q>>=fun rv4=>
  cut b atv (IntKind.i64.wrap (atv+n))>>=fun v4=>
  if (rv4==v4) then (
   some (.inr (.inr n))
  ) else (
   some (.inl (IntKind.i64.wrap (n+1)))
  )
 ) else (
  some (.inr (.inl ()))
 )
def zcv (atv:Int) (b:(List UInt8)) (n:Int):Option (Unit⊕Int):=zai (fun s:Int=>zaW atv b s) n
def zeC (b:(List UInt8)) (atv:Int):Option Int:=
 zcv atv b 1>>=fun q2=>
 match q2 with
 | .inl u=>(
  some 0
 )
 | .inr u2=>(
  some u2
 )
theorem zkv {atv:Int} {b:(List UInt8)} {n:Int} {rv2:Int} {i:Int} {rv2':Int} {i':Int} (h:zaX atv b n rv2 i=some (.inl (rv2',i'))):zbk atv b n rv2 i=zbk atv b n rv2' i':=zL (body:=fun s:(Int×Int)=>zaX atv b n s.1 s.2) h
theorem zkw {atv:Int} {b:(List UInt8)} {n:Int} {rv2:Int} {i:Int} {oo_:Int} (h:zaX atv b n rv2 i=some (.inr oo_)):zbk atv b n rv2 i=some oo_:=zK (body:=fun s:(Int×Int)=>zaX atv b n s.1 s.2) h
theorem zku {atv:Int} {b:(List UInt8)} {n:Int} {n':Int} (h:zaW atv b n=some (.inl n')):zcv atv b n=zcv atv b n':=zL (body:=fun s:Int=>zaW atv b s) h
theorem zeP {atv:Int} {b:(List UInt8)} {n:Int} {oo_:(Unit⊕Int)} (h:zaW atv b n=some (.inr oo_)):zcv atv b n=some oo_:=zK (body:=fun s:Int=>zaW atv b s) h
def zaN (b:(List UInt8)) (most:Int) (atv:Int) (count:Int):Option ((Int×Int)⊕(Int×Int)):=
 zeC b atv>>=fun rv=>
 if ((rv==0)|| (decide ((IntKind.i64.wrap (atv+rv))>most))) then (
  some (.inr (atv,count))
 ) else (
  some (.inl ((IntKind.i64.wrap (atv+rv)),(IntKind.i64.wrap (count+1))))
 )
def zbK (b:(List UInt8)) (most:Int) (atv:Int) (count:Int):Option (Int×Int):=zai (fun s:(Int×Int)=>zaN b most s.1 s.2) (atv,count)
def zea (b:(List UInt8)) (most:Int):Option (Int×Int):=
 zbK b most 0 0>>=fun q=>
 some (q.1,q.2)
theorem zjJ {b:(List UInt8)} {most:Int} {atv:Int} {count:Int} {atv':Int} {count':Int} (h:zaN b most atv count=some (.inl (atv',count'))):zbK b most atv count=zbK b most atv' count':=zL (body:=fun s:(Int×Int)=>zaN b most s.1 s.2) h
theorem zjK {b:(List UInt8)} {most:Int} {atv:Int} {count:Int} {oo_:(Int×Int)} (h:zaN b most atv count=some (.inr oo_)):zbK b most atv count=some oo_:=zK (body:=fun s:(Int×Int)=>zaN b most s.1 s.2) h
def zeb (b:(List UInt8)):Option Bool:=
 zea b (b.length:Int)>>=fun rv=>
 some (rv.1==(b.length:Int))
end
end Go.Proofs.YtcbkcblkecmjnaaGreat
namespace Go.Proofs.YtcbkcblkecmjnaaGreat
open Go
set_option linter.unusedVariables false
noncomputable section
def zik (wire:Int) (b:(List UInt8)):Option (Int×Int×Int):=
 if (wire==0) then (
  zgY b>>=fun rv=>
  some (0,rv.1,rv.2)
 ) else (
  ((
   if (wire==1) then (
    some (0,0,8)
   ) else (
    if (wire==5) then (
     some (0,0,4)
    ) else (
     if (wire==2) then (
      zeM b>>=fun rv2=>
      some (rv2.2.1,rv2.2.2,rv2.1)
     ) else (
      some (0,0,0)
     )
    )
   )
   :Option (Int×Int×Int)))>>=fun p=>
  if (p.2.1 !=0) then (
   some (0,0,p.2.1)
  ) else (
   if (decide (p.2.2>(IntKind.u64.wrap (IntKind.i64.wrap ((b.length:Int) - p.1))))) then (
    some (0,0,3)
   ) else (
    some (p.1,(IntKind.i64.wrap (p.1+(IntKind.i64.wrap p.2.2))),0)
   )
  )
 )
def zfW (b:(List UInt8)) (fromv:Int):Option (zq×Int):=
 if ((decide (fromv<0))|| (decide (fromv≥(b.length:Int)))) then (
  some ((⟨0,0,0,0,0⟩:zq),2)
 ) else (
  cut b fromv (b.length:Int)>>=fun v2=>
  zne v2>>=fun rv=>
  if (rv.2.2 !=0) then (
   some ((⟨0,0,0,0,0⟩:zq),rv.2.2)
  ) else (
   cut b (IntKind.i64.wrap (fromv+rv.2.1)) (b.length:Int)>>=fun v3=>
   zik rv.1.Wire v3>>=fun rv2=>
   if (rv2.2.2 !=0) then (
    some ((⟨0,0,0,0,0⟩:zq),rv2.2.2)
   ) else (
    some ((⟨rv.1.Number,rv.1.Wire,fromv,(IntKind.i64.wrap ((IntKind.i64.wrap (fromv+rv.2.1))+rv2.1)),(IntKind.i64.wrap ((IntKind.i64.wrap (fromv+rv.2.1))+rv2.2.1))⟩:zq),0)
   )
  )
 )
def zeD (b:(List UInt8)) (fromv:Int):Option (zq×Int):=
 if ((decide (fromv<0))|| (decide (fromv≥(b.length:Int)))) then (
  some ((⟨0,0,0,0,0⟩:zq),2)
 ) else (
  zeA b fromv>>=fun rv=>
  if (rv.2.2.2 !=0) then (
   some ((⟨0,0,0,0,0⟩:zq),rv.2.2.2)
  ) else (
   ((
    if (rv.2.1==5) then (
     some 4
    ) else (
     some 8
    )
    :Option Int))>>=fun p=>
   ((
    if (rv.2.1==0) then (
     zcO b (IntKind.i64.wrap (fromv+rv.2.2.1))>>=fun rv2=>
     if (rv2.2.2 !=0) then (
      some (.inr rv2.2.2)
     ) else (
      some (.inl rv2.2.1)
     )
    ) else (
     some (.inl p)
    )
    :Option (Int⊕Int)))>>=fun p2=>
   match p2 with
   | .inl u=>(
    ((
     if (rv.2.1==2) then (
      zcO b (IntKind.i64.wrap (fromv+rv.2.2.1))>>=fun rv3=>
      if (rv3.2.2 !=0) then (
       some (.inr rv3.2.2)
      ) else (
       if (decide (rv3.1>(IntKind.u64.wrap (IntKind.i64.wrap ((IntKind.i64.wrap ((b.length:Int) - (IntKind.i64.wrap (fromv+rv.2.2.1)))) - rv3.2.1))))) then (
        some (.inr 3)
       ) else (
        some (.inl ((IntKind.i64.wrap ((IntKind.i64.wrap ((b.length:Int) - (IntKind.i64.wrap (fromv+rv.2.2.1)))) - rv3.2.1)),(IntKind.i64.wrap rv3.1),(IntKind.i64.wrap ((IntKind.i64.wrap (fromv+rv.2.2.1))+rv3.2.1))))
       )
      )
     ) else (
      some (.inl ((IntKind.i64.wrap ((b.length:Int) - (IntKind.i64.wrap (fromv+rv.2.2.1)))),u,(IntKind.i64.wrap (fromv+rv.2.2.1))))
     )
     :Option ((Int×Int×Int)⊕Int)))>>=fun p3=>
    match p3 with
    | .inl u2=>(
     if (decide (u2.2.1>u2.1)) then (
      some ((⟨0,0,0,0,0⟩:zq),3)
     ) else (
      some ((⟨rv.1,rv.2.1,fromv,u2.2.2,(IntKind.i64.wrap (u2.2.2+u2.2.1))⟩:zq),0)
     )
    )
    | .inr u3=>(
     some ((⟨0,0,0,0,0⟩:zq),u3)
    )
   )
   | .inr u4=>(
    some ((⟨0,0,0,0,0⟩:zq),u4)
   )
  )
 )
end
end Go.Proofs.YtcbkcblkecmjnaaGreat
namespace Go.Proofs.YtcbkcblkecmjnaaGreat
open Go
set_option linter.unusedVariables false
noncomputable section
def zlH (wv:Int):Option Int:=
 some (if (1:Int)<wv then 1 else wv)
def zgL (k:Int) (wv:Int):Option (Int×Int):=
 ((
  if (k==1) then (
   some (k==1)
  ) else (
   some (k==8)
  )
  :Option Bool))>>=fun p=>
 if p then (
  zhY wv>>=fun rv=>
  zhZ rv>>=fun rv2=>
  some (rv2,0)
 ) else (
  ((
   if (k==3) then (
    some (k==3)
   ) else (
    if (k==5) then (
     some (k==5)
    ) else (
     if (k==9) then (
      some (k==9)
     ) else (
      if (k==10) then (
       some (k==10)
      ) else (
       some (k==11)
      )
     )
    )
   )
   :Option Bool))>>=fun p2=>
  if p2 then (
   zhE wv>>=fun rv3=>
   some ((IntKind.u64.wrap rv3),0)
  ) else (
   if (k==7) then (
    zlH wv>>=fun rv4=>
    some (rv4,0)
   ) else (
    ((
     if (k==2) then (
      some (k==2)
     ) else (
      if (k==4) then (
       some (k==4)
      ) else (
       if (k==6) then (
        some (k==6)
       ) else (
        if (k==12) then (
         some (k==12)
        ) else (
         if (k==13) then (
          some (k==13)
         ) else (
          some (k==14)
         )
        )
       )
      )
     )
     :Option Bool))>>=fun p3=>
    if p3 then (
     some (wv,0)
    ) else (
     some (0,2)
    )
   )
  )
 )
def zjm:Option (List (Int×zw)):=
 some (mput (mput (mput (mput (mput (mput (mput (mput (mput (mput (mput (mput (mput (mput (mput (mput (mput ([]:(List (Int×zw))) 1 (⟨[105,110,116,51,50],0⟩:zw)) 2 (⟨[105,110,116,54,52],0⟩:zw)) 3 (⟨[117,105,110,116,51,50],0⟩:zw)) 4 (⟨[117,105,110,116,54,52],0⟩:zw)) 5 (⟨[115,105,110,116,51,50],0⟩:zw)) 6 (⟨[115,105,110,116,54,52],0⟩:zw)) 7 (⟨[98,111,111,108],0⟩:zw)) 8 (⟨[101,110,117,109],0⟩:zw)) 9 (⟨[102,105,120,101,100,51,50],5⟩:zw)) 10 (⟨[115,102,105,120,101,100,51,50],5⟩:zw)) 11 (⟨[102,108,111,97,116],5⟩:zw)) 12 (⟨[102,105,120,101,100,54,52],1⟩:zw)) 13 (⟨[115,102,105,120,101,100,54,52],1⟩:zw)) 14 (⟨[100,111,117,98,108,101],1⟩:zw)) 15 (⟨[115,116,114,105,110,103],2⟩:zw)) 16 (⟨[98,121,116,101,115],2⟩:zw)) 17 (⟨[109,101,115,115,97,103,101],2⟩:zw))
def zmL:Option (List Int):=
 zjm>>=fun rv=>
 zoQ rv>>=fun v=>
 some v
def ziW (k:Int):Option (Int×Int):=
 zjm>>=fun rv=>
 if (!(mget rv k).isSome) then (
  some (0,2)
 ) else (
  some (((mget rv k).getD (⟨[],0⟩:zw)).wire,0)
 )
def zbD (k:Int):Option Bool:=
 some ((decide (k≥1))&&(decide (k≤17)))
def zgT (k:Int):Option Bool:=
 ziW k>>=fun rv=>
 some ((rv.2==0)&&(rv.1 !=2))
def zbX (k:Int):Option Bool:=
 some ((decide (k≥1))&&(decide (k≤14)))
def zec (k:Int) (wv:Int):Option Int:=
 ((
  if (k==1) then (
   some (k==1)
  ) else (
   some (k==8)
  )
  :Option Bool))>>=fun p=>
 if p then (
  zdJ wv>>=fun rv=>
  zez rv>>=fun rv2=>
  some rv2
 ) else (
  ((
   if (k==3) then (
    some (k==3)
   ) else (
    if (k==5) then (
     some (k==5)
    ) else (
     if (k==9) then (
      some (k==9)
     ) else (
      if (k==10) then (
       some (k==10)
      ) else (
       some (k==11)
      )
     )
    )
   )
   :Option Bool))>>=fun p2=>
  if p2 then (
   some (Int.tmod wv 4294967296)
  ) else (
   if (k==7) then (
    if (decide (wv>0)) then (
     some 1
    ) else (
     some 0
    )
   ) else (
    some wv
   )
  )
 )
end
end Go.Proofs.YtcbkcblkecmjnaaGreat
namespace Go.Proofs.YtcbkcblkecmjnaaGreat
open Go
set_option linter.unusedVariables false
noncomputable section
def zfc (c:Int):Option Bool:=
 some ((decide (c≥48))&&(decide (c≤57)))
def zfs (c:Int):Option Bool:=
 some (if (decide (c≥97)) then ((decide (c≤122))|| (if (decide (c≥65)) then ((decide (c≤90))|| (c==95)) else (c==95))) else (if (decide (c≥65)) then ((decide (c≤90))|| (c==95)) else (c==95)))
def zbu (name:Str) (v2:Int):Option (Int⊕(Unit⊕Unit)):=
 if (decide (v2<(name.length:Int))) then (
  (
   idx name v2>>=fun c2=>
   zfs (c2.toNat:Int)>>=fun rv2=>
   if (!rv2) then (
    idx name v2>>=fun c3=>
    zfc (c3.toNat:Int)>>=fun rv3=>
    some (!rv3)
   ) else (
    some false
   )
  )>>=fun g2=>
  if g2 then (
   some (.inr (.inr ()))
  ) else (
   some (.inl (IntKind.i64.wrap (v2+1)))
  )
 ) else (
  some (.inr (.inl ()))
 )
def zdW (name:Str) (v2:Int):Option (Unit⊕Unit):=zai (fun s:Int=>zbu name s) v2
def zfA (name:Str):Option Bool:=
 (
  if (name==[]) then (
   some true
  ) else (
   if (decide ((name.length:Int)>60)) then (
    some true
   ) else (
    idx name 0>>=fun c=>
    zfc (c.toNat:Int)>>=fun rv=>
    some rv
   )
  )
 )>>=fun g=>
 if g then (
  some false
 ) else (
  zdW name 0>>=fun q=>
  match q with
  | .inl u=>(
   some true
  )
  | .inr u2=>(
   some false
  )
 )
theorem zmZ {name:Str} {v2:Int} {v2':Int} (h:zbu name v2=some (.inl v2')):zdW name v2=zdW name v2':=zL (body:=fun s:Int=>zbu name s) h
theorem zin {name:Str} {v2:Int} {oo_:(Unit⊕Unit)} (h:zbu name v2=some (.inr oo_)):zdW name v2=some oo_:=zK (body:=fun s:Int=>zbu name s) h
def zft (n:Int):Option Bool:=
 some ((decide (n≥1))&&((decide (n≤536870911))&&((decide (n<19000))|| (decide (n>19999)))))
def zfX (f:za):Option Bool:=
 (
  if f.Repeated then (
   zgT f.Kind>>=fun rv=>
   some rv
  ) else (
   some false
  )
 )>>=fun g=>
 some g
def zek (c:zaI) (f:za):Option Bool:=
 if (f.Kind==17) then (
  some ((decide (f.Of≥0))&&(decide (f.Of<c.size)))
 ) else (
  some (f.Of==0)
 )
def zej (c:zaI) (message:Int) (f:za):Option (Int×(List (zo×Bool))×(List (zp×Bool))):=
 zfA f.Name>>=fun rv=>
 if (!rv) then (
  some (5,c.names,c.numbers)
 ) else (
  if ((mget c.names (⟨message,f.Name⟩:zo)).getD false) then (
   some (6,c.names,c.numbers)
  ) else (
   zft f.Number>>=fun rv2=>
   if (!rv2) then (
    some (7,c.names,c.numbers)
   ) else (
    if ((mget c.numbers (⟨message,f.Number⟩:zp)).getD false) then (
     some (8,c.names,c.numbers)
    ) else (
     zbS c.kinds f.Kind>>=fun rv3=>
     if (!rv3) then (
      some (9,c.names,c.numbers)
     ) else (
      (
       if f.Packed then (
        zfX f>>=fun rv4=>
        some (!rv4)
       ) else (
        some false
       )
      )>>=fun g=>
      if g then (
       some (10,c.names,c.numbers)
      ) else (
       zek c f>>=fun rv5=>
       if (!rv5) then (
        some (11,c.names,c.numbers)
       ) else (
        some (0,(mput c.names (⟨message,f.Name⟩:zo) true),(mput c.numbers (⟨message,f.Number⟩:zp) true))
       )
      )
     )
    )
   )
  )
 )
def zdu (c:zaI) (m:zg):Option (Int×(List (zo×Bool))×(List (zp×Bool))):=
 zfA m.Name>>=fun rv=>
 if (!rv) then (
  some (2,c.names,c.numbers)
 ) else (
  if ((mget c.names (⟨(-1),m.Name⟩:zo)).getD false) then (
   some (3,c.names,c.numbers)
  ) else (
   if (decide ((m.Fields.length:Int)>200)) then (
    some (4,c.names,c.numbers)
   ) else (
    some (0,(mput c.names (⟨(-1),m.Name⟩:zo) true),c.numbers)
   )
  )
 )
def zbi (i:Int) (sv:(List zg)) (n3:Int) (k:Int):Option ((Int×Int)⊕Int):=
 idx sv i>>=fun x3=>
 if (decide (k<(x3.Fields.length:Int))) then (
  idx sv i>>=fun x4=>
  idx x4.Fields k>>=fun x5=>
  some (.inl ((IntKind.i64.wrap (n3+(IntKind.i64.wrap (Int.tdiv (x5.Name.length:Int) 100)))),(IntKind.i64.wrap (k+1))))
 ) else (
  some (.inr n3)
 )
def zcT (i:Int) (sv:(List zg)) (n3:Int) (k:Int):Option Int:=zai (fun s:(Int×Int)=>zbi i sv s.1 s.2) (n3,k)
def zbh (sv:(List zg)) (n:Int) (i:Int):Option ((Int×Int)⊕Int):=
 if (decide (i<(sv.length:Int))) then (
  idx sv i>>=fun x=>
  idx sv i>>=fun x2=>
  zcT i sv (IntKind.i64.wrap ((IntKind.i64.wrap ((IntKind.i64.wrap (n+1))+(IntKind.i64.wrap (Int.tdiv (x.Name.length:Int) 100))))+(x2.Fields.length:Int))) 0>>=fun q=>
  some (.inl (q,(IntKind.i64.wrap (i+1))))
 ) else (
  some (.inr n)
 )
def zcS (sv:(List zg)) (n:Int) (i:Int):Option Int:=zai (fun s:(Int×Int)=>zbh sv s.1 s.2) (n,i)
def zeY (sv:(List zg)):Option Bool:=
 zcS sv 0 0>>=fun q2=>
 some (decide (q2≤500))
theorem zkT {i:Int} {sv:(List zg)} {n3:Int} {k:Int} {n3':Int} {k':Int} (h:zbi i sv n3 k=some (.inl (n3',k'))):zcT i sv n3 k=zcT i sv n3' k':=zL (body:=fun s:(Int×Int)=>zbi i sv s.1 s.2) h
theorem zkU {i:Int} {sv:(List zg)} {n3:Int} {k:Int} {oo_:Int} (h:zbi i sv n3 k=some (.inr oo_)):zcT i sv n3 k=some oo_:=zK (body:=fun s:(Int×Int)=>zbi i sv s.1 s.2) h
theorem zkR {sv:(List zg)} {n:Int} {i:Int} {n':Int} {i':Int} (h:zbh sv n i=some (.inl (n',i'))):zcS sv n i=zcS sv n' i':=zL (body:=fun s:(Int×Int)=>zbh sv s.1 s.2) h
theorem zkS {sv:(List zg)} {n:Int} {i:Int} {oo_:Int} (h:zbh sv n i=some (.inr oo_)):zcS sv n i=some oo_:=zK (body:=fun s:(Int×Int)=>zbh sv s.1 s.2) h
def zbt (rv:(List Int)) (sv:(List zg)) (v2:Int) (x:zg) (v3:Int) (f6:(List (zo×Bool))) (f7:(List (zp×Bool))):Option ((Int×(List (zo×Bool))×(List (zp×Bool)))⊕(((List (zo×Bool))×(List (zp×Bool)))⊕(Int×Int))):=
 if (decide (v3<(x.Fields.length:Int))) then (
  idx x.Fields v3>>=fun x2=>
  zej (⟨(sv.length:Int),rv,f6,f7⟩:zaI) v2 x2>>=fun rv5=>
  if (rv5.1 !=0) then (
   some (.inr (.inr (v3,rv5.1)))
  ) else (
   some (.inl ((IntKind.i64.wrap (v3+1)),rv5.2.1,rv5.2.2))
  )
 ) else (
  some (.inr (.inl (f6,f7)))
 )
def zcY (rv:(List Int)) (sv:(List zg)) (v2:Int) (x:zg) (v3:Int) (f6:(List (zo×Bool))) (f7:(List (zp×Bool))):Option (((List (zo×Bool))×(List (zp×Bool)))⊕(Int×Int)):=zai (fun s:(Int×(List (zo×Bool))×(List (zp×Bool)))=>zbt rv sv v2 x s.1 s.2.1 s.2.2) (v3,f6,f7)
def zaQ (rv:(List Int)) (sv:(List zg)) (v2:Int) (f:(List (zo×Bool))) (f2:(List (zp×Bool))):Option ((Int×(List (zo×Bool))×(List (zp×Bool)))⊕(Unit⊕(Int×Int×Int))):=
 if (decide (v2<(sv.length:Int))) then (
  idx sv v2>>=fun x=>
  zdu (⟨(sv.length:Int),rv,f,f2⟩:zaI) x>>=fun rv3=>
  if (rv3.1 !=0) then (
   some (.inr (.inr (v2,(-1),rv3.1)))
  ) else (
   zcY rv sv v2 x 0 rv3.2.1 rv3.2.2>>=fun q=>
   match q with
   | .inl u=>(
    some (.inl ((IntKind.i64.wrap (v2+1)),u.1,u.2))
   )
   | .inr u2=>(
    some (.inr (.inr (v2,u2.1,u2.2)))
   )
  )
 ) else (
  some (.inr (.inl ()))
 )
def zeu (rv:(List Int)) (sv:(List zg)) (v2:Int) (f:(List (zo×Bool))) (f2:(List (zp×Bool))):Option (Unit⊕(Int×Int×Int)):=zai (fun s:(Int×(List (zo×Bool))×(List (zp×Bool)))=>zaQ rv sv s.1 s.2.1 s.2.2) (v2,f,f2)
def zhq (sv:(List zg)):Option (zaT×Int):=
 if ((decide ((sv.length:Int)<1))|| (decide ((sv.length:Int)>100))) then (
  some ((⟨(-1),(-1),1⟩:zaT),9)
 ) else (
  zmL>>=fun rv=>
  zeu rv sv 0 ([]:(List (zo×Bool))) ([]:(List (zp×Bool)))>>=fun q2=>
  match q2 with
  | .inl u3=>(
   some ((⟨0,0,0⟩:zaT),0)
  )
  | .inr u4=>(
   some ((⟨u4.1,u4.2.1,u4.2.2⟩:zaT),9)
  )
 )
theorem znO {rv:(List Int)} {sv:(List zg)} {v2:Int} {x:zg} {v3:Int} {f6:(List (zo×Bool))} {f7:(List (zp×Bool))} {v3':Int} {f6':(List (zo×Bool))} {f7':(List (zp×Bool))} (h:zbt rv sv v2 x v3 f6 f7=some (.inl (v3',f6',f7'))):zcY rv sv v2 x v3 f6 f7=zcY rv sv v2 x v3' f6' f7':=zL (body:=fun s:(Int×(List (zo×Bool))×(List (zp×Bool)))=>zbt rv sv v2 x s.1 s.2.1 s.2.2) h
theorem ziG {rv:(List Int)} {sv:(List zg)} {v2:Int} {x:zg} {v3:Int} {f6:(List (zo×Bool))} {f7:(List (zp×Bool))} {oo_:(((List (zo×Bool))×(List (zp×Bool)))⊕(Int×Int))} (h:zbt rv sv v2 x v3 f6 f7=some (.inr oo_)):zcY rv sv v2 x v3 f6 f7=some oo_:=zK (body:=fun s:(Int×(List (zo×Bool))×(List (zp×Bool)))=>zbt rv sv v2 x s.1 s.2.1 s.2.2) h
theorem znN {rv:(List Int)} {sv:(List zg)} {v2:Int} {f:(List (zo×Bool))} {f2:(List (zp×Bool))} {v2':Int} {f':(List (zo×Bool))} {f2':(List (zp×Bool))} (h:zaQ rv sv v2 f f2=some (.inl (v2',f',f2'))):zeu rv sv v2 f f2=zeu rv sv v2' f' f2':=zL (body:=fun s:(Int×(List (zo×Bool))×(List (zp×Bool)))=>zaQ rv sv s.1 s.2.1 s.2.2) h
theorem zdN {rv:(List Int)} {sv:(List zg)} {v2:Int} {f:(List (zo×Bool))} {f2:(List (zp×Bool))} {oo_:(Unit⊕(Int×Int×Int))} (h:zaQ rv sv v2 f f2=some (.inr oo_)):zeu rv sv v2 f f2=some oo_:=zK (body:=fun s:(Int×(List (zo×Bool))×(List (zp×Bool)))=>zaQ rv sv s.1 s.2.1 s.2.2) h
def zgj (sv:(List zg)):Option Bool:=
 zhq sv>>=fun rv=>
 some (rv.2==0)
def zaL (sv:Str) (i:Int):Option (Int⊕(Unit⊕Unit)):=
 if (decide (i<(sv.length:Int))) then (
  idx sv i>>=fun c=>
  if (!(if (decide ((c.toNat:Int)≥65)) then ((decide ((c.toNat:Int)≤90))|| (if (decide ((c.toNat:Int)≥97)) then ((decide ((c.toNat:Int)≤122))|| (((c.toNat:Int)==95)|| ((decide (i>0))&&((decide ((c.toNat:Int)≥48))&&(decide ((c.toNat:Int)≤57)))))) else (((c.toNat:Int)==95)|| ((decide (i>0))&&((decide ((c.toNat:Int)≥48))&&(decide ((c.toNat:Int)≤57))))))) else (if (decide ((c.toNat:Int)≥97)) then ((decide ((c.toNat:Int)≤122))|| (((c.toNat:Int)==95)|| ((decide (i>0))&&((decide ((c.toNat:Int)≥48))&&(decide ((c.toNat:Int)≤57)))))) else (((c.toNat:Int)==95)|| ((decide (i>0))&&((decide ((c.toNat:Int)≥48))&&(decide ((c.toNat:Int)≤57)))))))) then (
   some (.inr (.inr ()))
  ) else (
   some (.inl (IntKind.i64.wrap (i+1)))
  )
 ) else (
  some (.inr (.inl ()))
 )
def zcw (sv:Str) (i:Int):Option (Unit⊕Unit):=zai (fun s:Int=>zaL sv s) i
def zdy (sv:Str):Option Bool:=
 zcw sv 0>>=fun q=>
 match q with
 | .inl u=>(
  some ((decide ((sv.length:Int)≥1))&&(decide ((sv.length:Int)≤60)))
 )
 | .inr u2=>(
  some false
 )
theorem zkx {sv:Str} {i:Int} {i':Int} (h:zaL sv i=some (.inl i')):zcw sv i=zcw sv i':=zL (body:=fun s:Int=>zaL sv s) h
theorem zgA {sv:Str} {i:Int} {oo_:(Unit⊕Unit)} (h:zaL sv i=some (.inr oo_)):zcw sv i=some oo_:=zK (body:=fun s:Int=>zaL sv s) h
def zaP (i:Int) (k:Int) (sv:(List zg)) (x2:za) (name:Bool) (number:Bool) (j:Int):Option ((Bool×Bool×Int)⊕(Bool×Bool)):=
 if (decide (j<k)) then (
  (
   if name then (
    some true
   ) else (
    idx sv i>>=fun x3=>
    idx x3.Fields j>>=fun x4=>
    some (x4.Name==x2.Name)
   )
  )>>=fun g=>
  (
   if number then (
    some true
   ) else (
    idx sv i>>=fun x5=>
    idx x5.Fields j>>=fun x6=>
    some (x6.Number==x2.Number)
   )
  )>>=fun g2=>
  some (.inl (g,g2,(IntKind.i64.wrap (j+1))))
 ) else (
  some (.inr (name,number))
 )
def zcg (i:Int) (k:Int) (sv:(List zg)) (x2:za) (name:Bool) (number:Bool) (j:Int):Option (Bool×Bool):=zai (fun s:(Bool×Bool×Int)=>zaP i k sv x2 s.1 s.2.1 s.2.2) (name,number,j)
def zee (sv:(List zg)) (i:Int) (k:Int):Option Int:=
 idx sv i>>=fun x=>
 idx x.Fields k>>=fun x2=>
 zcg i k sv x2 false false 0>>=fun q=>
 zdy x2.Name>>=fun rv=>
 if (!rv) then (
  some 5
 ) else (
  if q.1 then (
   some 6
  ) else (
   if ((decide (x2.Number<1))|| ((decide (x2.Number>536870911))|| ((decide (x2.Number≥19000))&&(decide (x2.Number<20000))))) then (
    some 7
   ) else (
    if q.2 then (
     some 8
    ) else (
     zbD x2.Kind>>=fun rv2=>
     if (!rv2) then (
      some 9
     ) else (
      (
       if x2.Packed then (
        if x2.Repeated then (
         zbX x2.Kind>>=fun rv3=>
         some (!rv3)
        ) else (
         some (!false)
        )
       ) else (
        some false
       )
      )>>=fun g3=>
      if g3 then (
       some 10
      ) else (
       if (if (x2.Kind==17) then ((decide (x2.Of<0))|| ((decide (x2.Of≥(sv.length:Int)))|| ((x2.Kind !=17)&&(x2.Of !=0)))) else ((x2.Kind !=17)&&(x2.Of !=0))) then (
        some 11
       ) else (
        some 0
       )
      )
     )
    )
   )
  )
 )
theorem zjP {i:Int} {k:Int} {sv:(List zg)} {x2:za} {name:Bool} {number:Bool} {j:Int} {name':Bool} {number':Bool} {j':Int} (h:zaP i k sv x2 name number j=some (.inl (name',number',j'))):zcg i k sv x2 name number j=zcg i k sv x2 name' number' j':=zL (body:=fun s:(Bool×Bool×Int)=>zaP i k sv x2 s.1 s.2.1 s.2.2) h
theorem zjQ {i:Int} {k:Int} {sv:(List zg)} {x2:za} {name:Bool} {number:Bool} {j:Int} {oo_:(Bool×Bool)} (h:zaP i k sv x2 name number j=some (.inr oo_)):zcg i k sv x2 name number j=some oo_:=zK (body:=fun s:(Bool×Bool×Int)=>zaP i k sv x2 s.1 s.2.1 s.2.2) h
def zaO (i:Int) (sv:(List zg)) (twice:Bool) (k:Int):Option ((Bool×Int)⊕Bool):=
 if (decide (k<i)) then (
  (
   if twice then (
    some true
   ) else (
    idx sv k>>=fun x=>
    idx sv i>>=fun x2=>
    some (x.Name==x2.Name)
   )
  )>>=fun g=>
  some (.inl (g,(IntKind.i64.wrap (k+1))))
 ) else (
  some (.inr twice)
 )
def zce (i:Int) (sv:(List zg)) (twice:Bool) (k:Int):Option Bool:=zai (fun s:(Bool×Int)=>zaO i sv s.1 s.2) (twice,k)
def zaE (i:Int) (sv:(List zg)) (k2:Int):Option (Int⊕(Unit⊕(Int×Int))):=
 idx sv i>>=fun x5=>
 if (decide (k2<(x5.Fields.length:Int))) then (
  zee sv i k2>>=fun rv2=>
  if (decide (rv2>0)) then (
   some (.inr (.inr (k2,rv2)))
  ) else (
   some (.inl (IntKind.i64.wrap (k2+1)))
  )
 ) else (
  some (.inr (.inl ()))
 )
def zcf (i:Int) (sv:(List zg)) (k2:Int):Option (Unit⊕(Int×Int)):=zai (fun s:Int=>zaE i sv s) k2
def zaD (sv:(List zg)) (i:Int):Option (Int⊕(Unit⊕(Int×Int×Int))):=
 if (decide (i<(sv.length:Int))) then (
  zce i sv false 0>>=fun q=>
  idx sv i>>=fun x3=>
  zdy x3.Name>>=fun rv=>
  if (!rv) then (
   some (.inr (.inr (i,(-1),2)))
  ) else (
   if q then (
    some (.inr (.inr (i,(-1),3)))
   ) else (
    idx sv i>>=fun x4=>
    if (decide ((x4.Fields.length:Int)>200)) then (
     some (.inr (.inr (i,(-1),4)))
    ) else (
     zcf i sv 0>>=fun q2=>
     match q2 with
     | .inl u=>(
      some (.inl (IntKind.i64.wrap (i+1)))
     )
     | .inr u2=>(
      some (.inr (.inr (i,u2.1,u2.2)))
     )
    )
   )
  )
 ) else (
  some (.inr (.inl ()))
 )
def zcd (sv:(List zg)) (i:Int):Option (Unit⊕(Int×Int×Int)):=zai (fun s:Int=>zaD sv s) i
def zed (sv:(List zg)):Option (Int×Int×Int):=
 if (((sv.length:Int)==0)|| (decide ((sv.length:Int)>100))) then (
  some ((-1),(-1),1)
 ) else (
  zcd sv 0>>=fun q3=>
  match q3 with
  | .inl u3=>(
   some (0,0,0)
  )
  | .inr u4=>(
   some (u4.1,u4.2.1,u4.2.2)
  )
 )
theorem zjM {i:Int} {sv:(List zg)} {twice:Bool} {k:Int} {twice':Bool} {k':Int} (h:zaO i sv twice k=some (.inl (twice',k'))):zce i sv twice k=zce i sv twice' k':=zL (body:=fun s:(Bool×Int)=>zaO i sv s.1 s.2) h
theorem zjN {i:Int} {sv:(List zg)} {twice:Bool} {k:Int} {oo_:Bool} (h:zaO i sv twice k=some (.inr oo_)):zce i sv twice k=some oo_:=zK (body:=fun s:(Bool×Int)=>zaO i sv s.1 s.2) h
theorem zjO {i:Int} {sv:(List zg)} {k2:Int} {k2':Int} (h:zaE i sv k2=some (.inl k2')):zcf i sv k2=zcf i sv k2':=zL (body:=fun s:Int=>zaE i sv s) h
theorem zgn {i:Int} {sv:(List zg)} {k2:Int} {oo_:(Unit⊕(Int×Int))} (h:zaE i sv k2=some (.inr oo_)):zcf i sv k2=some oo_:=zK (body:=fun s:Int=>zaE i sv s) h
theorem zjL {sv:(List zg)} {i:Int} {i':Int} (h:zaD sv i=some (.inl i')):zcd sv i=zcd sv i':=zL (body:=fun s:Int=>zaD sv s) h
theorem zbV {sv:(List zg)} {i:Int} {oo_:(Unit⊕(Int×Int×Int))} (h:zaD sv i=some (.inr oo_)):zcd sv i=some oo_:=zK (body:=fun s:Int=>zaD sv s) h
def zeI (f:za) (v:Int):Option Bool:=
 some (f.Number==v)
def zD (sv:(List za)) (v:Int) (v2:Int):Option (Int⊕(Unit⊕Int)):=
 if (decide (v2<(sv.length:Int))) then (
  idx sv v2>>=fun x=>
  zeI x v>>=fun rv=>
  if rv then (
   some (.inr (.inr v2))
  ) else (
   some (.inl (IntKind.i64.wrap (v2+1)))
  )
 ) else (
  some (.inr (.inl ()))
 )
def zO (sv:(List za)) (v:Int) (v2:Int):Option (Unit⊕Int):=zai (fun s:Int=>zD sv v s) v2
def zag (sv:(List za)) (v:Int):Option Int:=
 zO sv v 0>>=fun q=>
 match q with
 | .inl u=>(
  some (-1)
 )
 | .inr u2=>(
  some u2
 )
theorem zcC {sv:(List za)} {v:Int} {v2:Int} {v2':Int} (h:zD sv v v2=some (.inl v2')):zO sv v v2=zO sv v v2':=zL (body:=fun s:Int=>zD sv v s) h
theorem zbf {sv:(List za)} {v:Int} {v2:Int} {oo_:(Unit⊕Int)} (h:zD sv v v2=some (.inr oo_)):zO sv v v2=some oo_:=zK (body:=fun s:Int=>zD sv v s) h
def zbP (m:zg) (v:Int):Option (Int×Bool):=
 zag m.Fields v>>=fun rv=>
 some ((if rv<0 then 0 else rv),(decide (rv≥0)))
def zet (m:zg) (number:Int):Option (Int×Bool):=
 zbP m number>>=fun rv=>
 some (rv.1,rv.2)
def zaF (m:zg) (number:Int) (i:Int):Option (Int⊕(Unit⊕Int)):=
 if (decide (i<(m.Fields.length:Int))) then (
  idx m.Fields i>>=fun x=>
  if (x.Number==number) then (
   some (.inr (.inr i))
  ) else (
   some (.inl (IntKind.i64.wrap (i+1)))
  )
 ) else (
  some (.inr (.inl ()))
 )
def zch (m:zg) (number:Int) (i:Int):Option (Unit⊕Int):=zai (fun s:Int=>zaF m number s) i
def zdg (m:zg) (number:Int):Option Int:=
 zch m number 0>>=fun q=>
 match q with
 | .inl u=>(
  some (-1)
 )
 | .inr u2=>(
  some u2
 )
theorem zjR {m:zg} {number:Int} {i:Int} {i':Int} (h:zaF m number i=some (.inl i')):zch m number i=zch m number i':=zL (body:=fun s:Int=>zaF m number s) h
theorem zgo {m:zg} {number:Int} {i:Int} {oo_:(Unit⊕Int)} (h:zaF m number i=some (.inr oo_)):zch m number i=some oo_:=zK (body:=fun s:Int=>zaF m number s) h
def zef (sv:(List zg)):Option Bool:=
 zed sv>>=fun rv=>
 some (rv.2.2==0)
end
end Go.Proofs.YtcbkcblkecmjnaaGreat
namespace Go.Proofs.YtcbkcblkecmjnaaGreat
open Go
set_option linter.unusedVariables false
noncomputable section
def zgi (k:Int):Option (Int×Int):=
 ((
  if (k==1) then (
   some (k==1)
  ) else (
   if (k==2) then (
    some (k==2)
   ) else (
    if (k==3) then (
     some (k==3)
    ) else (
     if (k==4) then (
      some (k==4)
     ) else (
      if (k==5) then (
       some (k==5)
      ) else (
       if (k==6) then (
        some (k==6)
       ) else (
        if (k==7) then (
         some (k==7)
        ) else (
         some (k==8)
        )
       )
      )
     )
    )
   )
  )
  :Option Bool))>>=fun p=>
 if p then (
  some (0,0)
 ) else (
  ((
   if (k==9) then (
    some (k==9)
   ) else (
    if (k==10) then (
     some (k==10)
    ) else (
     some (k==11)
    )
   )
   :Option Bool))>>=fun p2=>
  if p2 then (
   some (4,0)
  ) else (
   if (k==12) then (
    if (k==12) then (
     some (8,0)
    ) else (
     some (0,2)
    )
   ) else (
    if (k==13) then (
     if (k==13) then (
      some (8,0)
     ) else (
      some (0,2)
     )
    ) else (
     if (k==14) then (
      some (8,0)
     ) else (
      some (0,2)
     )
    )
   )
  )
 )
def zhp (b:(List UInt8)):Option (Int×Int):=
 zeM b>>=fun rv=>
 if ((rv.2.2 !=0)|| (rv.2.1 !=(b.length:Int))) then (
  some (0,12)
 ) else (
  some (rv.1,0)
 )
def zho (k:Int) (b:(List UInt8)):Option (Int×Int):=
 zgi k>>=fun rv=>
 if (rv.2 !=0) then (
  some (0,rv.2)
 ) else (
  if (rv.1==0) then (
   zhp b>>=fun rv2=>
   some (rv2.1,rv2.2)
  ) else (
   if (rv.1 !=(b.length:Int)) then (
    some (0,12)
   ) else (
    zkQ b>>=fun rv3=>
    some (rv3,0)
   )
  )
 )
def zil (k:Int) (b:(List UInt8)):Option (Int×Int):=
 zho k b>>=fun rv=>
 if (rv.2 !=0) then (
  some (0,rv.2)
 ) else (
  zgL k rv.1>>=fun rv2=>
  some (rv2.1,rv2.2)
 )
def zim (k:Int) (wv:Int):Option Int:=
 zgi k>>=fun rv=>
 if ((rv.2 !=0)|| (rv.1 !=0)) then (
  some rv.1
 ) else (
  zgL k wv>>=fun rv2=>
  zmz rv2.1>>=fun rv3=>
  some rv3
 )
end
end Go.Proofs.YtcbkcblkecmjnaaGreat
namespace Go.Proofs.YtcbkcblkecmjnaaGreat
open Go
set_option linter.unusedVariables false
noncomputable section
def zll (k:Int):Option Int:=
 zim k 0>>=fun rv=>
 some rv
def zlk (wide:Int) (b:(List UInt8)):Option (Int×Int):=
 if (wide==1) then (
  zgY b>>=fun rv=>
  some (rv.1,rv.2)
 ) else (
  if (decide (wide>(b.length:Int))) then (
   some (0,3)
  ) else (
   some (wide,0)
  )
 )
def zbs {σ:Type} (kf:(Rnd σ ((List UInt8)×Int))) (rv:Int) (rest:(List UInt8)) (sg2:σ):Option (((List UInt8)×σ)⊕(σ⊕σ)):=
 if (decide ((rest.length:Int)>0)) then (
  zlk rv rest>>=fun rv2=>
  cut rest 0 rv2.1>>=fun v3=>
  kf sg2 (v3,rv2.2)>>=fun y2=>
  if ((!y2.1)|| (rv2.2 !=0)) then (
   some (.inr (.inr y2.2))
  ) else (
   cut rest rv2.1 (rest.length:Int)>>=fun v5=>
   some (.inl (v5,y2.2))
  )
 ) else (
  some (.inr (.inl sg2))
 )
def zes {σ:Type} (kf:(Rnd σ ((List UInt8)×Int))) (rv:Int) (rest:(List UInt8)) (sg2:σ):Option (σ⊕σ):=zai (fun s:((List UInt8)×σ)=>zbs kf rv s.1 s.2) (rest,sg2)
def zdS {σ:Type} (v:Int) (v2:(List UInt8)) (kf:Rnd σ ((List UInt8)×Int)) (sg:σ):Option σ:=
 zll v>>=fun rv=>
 if (rv==0) then (
  kf sg (([]:(List UInt8)),2)>>=fun y=>
  some y.2
 ) else (
  zes kf rv v2 sg>>=fun q=>
  match q with
  | .inl u=>(
   some u
  )
  | .inr u2=>(
   some u2
  )
 )
theorem znM {σ:Type} {kf:(Rnd σ ((List UInt8)×Int))} {rv:Int} {rest:(List UInt8)} {sg2:σ} {rest':(List UInt8)} {sg2':σ} (h:zbs kf rv rest sg2=some (.inl (rest',sg2'))):zes kf rv rest sg2=zes kf rv rest' sg2':=zL (body:=fun s:((List UInt8)×σ)=>zbs kf rv s.1 s.2) h
theorem zgx {σ:Type} {kf:(Rnd σ ((List UInt8)×Int))} {rv:Int} {rest:(List UInt8)} {sg2:σ} {oo_:(σ⊕σ)} (h:zbs kf rv rest sg2=some (.inr oo_)):zes kf rv rest sg2=some oo_:=zK (body:=fun s:((List UInt8)×σ)=>zbs kf rv s.1 s.2) h
def zhN (k:Int) (b:(List UInt8)):Option (Int×(List UInt8)):=
 some (k,b)
def zdm (k:Int) (f:(List Int)) (x:(List UInt8)) (x2:Int):Option ((List Int)⊕(Int×(List Int))):=
 if (x2 !=0) then (
  some (.inr (x2,f))
 ) else (
  zil k x>>=fun rv2=>
  app 8 f ([rv2.1]:(List Int))>>=fun v=>
  some (.inl v)
 )
def zlj (k:Int) (b:(List UInt8)):Option ((List Int)×Int):=
 zhN k b>>=fun rv=>
 zdS rv.1 rv.2 (rnd (fun (s:(List Int)) (x:((List UInt8)×Int))=>zdm k s x.1 x.2)) (.inl [])>>=fun q=>
 match q with
 | .inl u=>(
  some (u,0)
 )
 | .inr j=>(
  some ([],j.1)
 )
def zeH (f:Int) (x:(List UInt8)) (x2:Int):Option (Int⊕(Int×Int)):=
 if (x2 !=0) then (
  some (.inr (x2,f))
 ) else (
  some (.inl (IntKind.i64.wrap (f+1)))
 )
def zli (k:Int) (b:(List UInt8)):Option (Int×Int):=
 zhN k b>>=fun rv=>
 zdS rv.1 rv.2 (rnd (fun (s:Int) (x:((List UInt8)×Int))=>zeH s x.1 x.2)) (.inl 0)>>=fun q=>
 match q with
 | .inl u=>(
  some (u,0)
 )
 | .inr j=>(
  some (0,j.1)
 )
end
end Go.Proofs.YtcbkcblkecmjnaaGreat
namespace Go.Proofs.YtcbkcblkecmjnaaGreat
open Go
set_option linter.unusedVariables false
noncomputable section
def zhu (f:za) (v:Int):Option Bool:=
 some (f.Number==v)
def zF (sv:(List za)) (v:Int) (v2:Int):Option (Int⊕(Unit⊕Int)):=
 if (decide (v2<(sv.length:Int))) then (
  idx sv v2>>=fun x=>
  zhu x v>>=fun rv=>
  if rv then (
   some (.inr (.inr v2))
  ) else (
   some (.inl (IntKind.i64.wrap (v2+1)))
  )
 ) else (
  some (.inr (.inl ()))
 )
def zT (sv:(List za)) (v:Int) (v2:Int):Option (Unit⊕Int):=zai (fun s:Int=>zF sv v s) v2
def zat (sv:(List za)) (v:Int):Option Int:=
 zT sv v 0>>=fun q=>
 match q with
 | .inl u=>(
  some (-1)
 )
 | .inr u2=>(
  some u2
 )
theorem zdb {sv:(List za)} {v:Int} {v2:Int} {v2':Int} (h:zF sv v v2=some (.inl v2')):zT sv v v2=zT sv v v2':=zL (body:=fun s:Int=>zF sv v s) h
theorem zbq {sv:(List za)} {v:Int} {v2:Int} {oo_:(Unit⊕Int)} (h:zF sv v v2=some (.inr oo_)):zT sv v v2=some oo_:=zK (body:=fun s:Int=>zF sv v s) h
def zjG (m:zg) (number:Int):Option Int:=
 zat m.Fields number>>=fun rv=>
 some rv
def zjH (f:za) (wire:Int):Option Bool:=
 (
  if f.Repeated then (
   if (wire==2) then (
    zgT f.Kind>>=fun rv=>
    some rv
   ) else (
    some false
   )
  ) else (
   some false
  )
 )>>=fun g=>
 some g
def zlz (k:Int) (wire:Int):Option Bool:=
 ziW k>>=fun rv=>
 some ((rv.2==0)&&(rv.1==wire))
def zgZ (m:zg) (hv:zJ):Option zM:=
 zjG m hv.number>>=fun rv=>
 if (rv==(-1)) then (
  some (⟨(-1),false,0⟩:zM)
 ) else (
  idx m.Fields rv>>=fun x=>
  zjH x hv.wire>>=fun rv2=>
  (
   if (!rv2) then (
    zlz x.Kind hv.wire>>=fun rv3=>
    some (!rv3)
   ) else (
    some false
   )
  )>>=fun g=>
  if g then (
   some (⟨0,false,6⟩:zM)
  ) else (
   some (⟨rv,rv2,0⟩:zM)
  )
 )
def ziY (m:zg) (b:(List UInt8)) (fromv:Int) (met:(List (zJ×zM))):Option (ze×Int×(List (zJ×zM))):=
 zfW b fromv>>=fun rv=>
 if (rv.2 !=0) then (
  some ((⟨(⟨0,0,0,0,0⟩:zq),0,false⟩:ze),rv.2,met)
 ) else (
  ((
   if (!(mget met (⟨rv.1.Number,rv.1.Wire⟩:zJ)).isSome) then (
    zgZ m (⟨rv.1.Number,rv.1.Wire⟩:zJ)>>=fun rv2=>
    some ((mput met (⟨rv.1.Number,rv.1.Wire⟩:zJ) rv2),rv2.field,rv2.run,rv2.e)
   ) else (
    some (met,((mget met (⟨rv.1.Number,rv.1.Wire⟩:zJ)).getD (⟨0,false,0⟩:zM)).field,((mget met (⟨rv.1.Number,rv.1.Wire⟩:zJ)).getD (⟨0,false,0⟩:zM)).run,((mget met (⟨rv.1.Number,rv.1.Wire⟩:zJ)).getD (⟨0,false,0⟩:zM)).e)
   )
   :Option ((List (zJ×zM))×Int×Bool×Int)))>>=fun p=>
  if (p.2.2.2 !=0) then (
   some ((⟨(⟨0,0,0,0,0⟩:zq),0,false⟩:ze),p.2.2.2,p.1)
  ) else (
   some ((⟨rv.1,p.2.1,p.2.2.1⟩:ze),0,p.1)
  )
 )
def zcF (b:(List UInt8)) (m:zg) (l:(List ze)) (met:(List (zJ×zM))) (fromv:Int):Option (((List ze)×(List (zJ×zM))×Int)⊕((List ze)⊕(Int×Int))):=
 if (decide (fromv<(b.length:Int))) then (
  ziY m b fromv met>>=fun rv2=>
  if (rv2.2.1 !=0) then (
   some (.inr (.inr (fromv,rv2.2.1)))
  ) else (
   app 56 l ([rv2.1]:(List ze))>>=fun v=>
   some (.inl (v,rv2.2.2,rv2.1.Record.To))
  )
 ) else (
  some (.inr (.inl l))
 )
def zgc (b:(List UInt8)) (m:zg) (l:(List ze)) (met:(List (zJ×zM))) (fromv:Int):Option ((List ze)⊕(Int×Int)):=zai (fun s:((List ze)×(List (zJ×zM))×Int)=>zcF b m s.1 s.2.1 s.2.2) (l,met,fromv)
def znn (m:zg) (b:(List UInt8)):Option ((List ze)×Int×Int):=
 zgc b m [] ([]:(List (zJ×zM))) 0>>=fun q=>
 match q with
 | .inl u=>(
  some (u,0,0)
 )
 | .inr u2=>(
  some ([],u2.1,u2.2)
 )
theorem zmd {b:(List UInt8)} {m:zg} {l:(List ze)} {met:(List (zJ×zM))} {fromv:Int} {l':(List ze)} {met':(List (zJ×zM))} {fromv':Int} (h:zcF b m l met fromv=some (.inl (l',met',fromv'))):zgc b m l met fromv=zgc b m l' met' fromv':=zL (body:=fun s:((List ze)×(List (zJ×zM))×Int)=>zcF b m s.1 s.2.1 s.2.2) h
theorem ziC {b:(List UInt8)} {m:zg} {l:(List ze)} {met:(List (zJ×zM))} {fromv:Int} {oo_:((List ze)⊕(Int×Int))} (h:zcF b m l met fromv=some (.inr oo_)):zgc b m l met fromv=some oo_:=zK (body:=fun s:((List ze)×(List (zJ×zM))×Int)=>zcF b m s.1 s.2.1 s.2.2) h
def zly (m:zg) (b:(List UInt8)) (fromv:Int):Option (ze×Int):=
 ziY m b fromv ([]:(List (zJ×zM)))>>=fun rv2=>
 some (rv2.1,rv2.2.1)
end
end Go.Proofs.YtcbkcblkecmjnaaGreat
namespace Go.Proofs.YtcbkcblkecmjnaaGreat
open Go
set_option linter.unusedVariables false
noncomputable section
def zfu (wv:zam) (message:Int) (fromv:Int) (tov:Int):Option (ze×Int×(List (zm×ze))):=
 cut wv.b 0 tov>>=fun v=>
 zfW v fromv>>=fun rv=>
 if (rv.2 !=0) then (
  some ((⟨(⟨0,0,0,0,0⟩:zq),0,false⟩:ze),rv.2,wv.met)
 ) else (
  if (!(mget wv.met (⟨message,rv.1.Number,rv.1.Wire⟩:zm)).isSome) then (
   idx wv.s message>>=fun x=>
   zly x v fromv>>=fun rv2=>
   if (rv2.2 !=0) then (
    some ((⟨(⟨0,0,0,0,0⟩:zq),0,false⟩:ze),rv2.2,wv.met)
   ) else (
    some ((⟨rv.1,rv2.1.Field,rv2.1.Run⟩:ze),0,(mput wv.met (⟨message,rv.1.Number,rv.1.Wire⟩:zm) rv2.1))
   )
  ) else (
   some ((⟨rv.1,(((mget wv.met (⟨message,rv.1.Number,rv.1.Wire⟩:zm)).getD (⟨(⟨0,0,0,0,0⟩:zq),0,false⟩:ze)).Field),(((mget wv.met (⟨message,rv.1.Number,rv.1.Wire⟩:zm)).getD (⟨(⟨0,0,0,0,0⟩:zq),0,false⟩:ze)).Run)⟩:ze),0,wv.met)
  )
 )
def ziw (f:za) (isRun:Bool) (value:(List UInt8)):Option Int:=
 if isRun then (
  zli f.Kind value>>=fun rv=>
  some rv.2
 ) else (
  (
   if (f.Kind==15) then (
    zhS value>>=fun rv2=>
    some (!rv2)
   ) else (
    some false
   )
  )>>=fun g=>
  if g then (
   some 7
  ) else (
   if (f.Kind==17) then (
    some 8
   ) else (
    some 0
   )
  )
 )
def zap (d:Int) (message:Int) (rec_valid_walk_value:zam→Int→ze→Int→Option (zA×(List (zm×ze)))) (tov:Int) (wv:zam) (wv2:(List (zm×ze))) (fromv2:Int) (depth:Int):Option (((List (zm×ze))×Int×Int)⊕(((List (zm×ze))×Int)⊕((List (zm×ze))×Int×Int×Int))):=
 if (decide (fromv2<tov)) then (
  zfu (⟨wv.s,wv.b,wv2⟩:zam) message fromv2 tov>>=fun rv2=>
  if (rv2.2.1 !=0) then (
   some (.inr (.inr (rv2.2.2,0,fromv2,rv2.2.1)))
  ) else (
   rec_valid_walk_value (⟨wv.s,wv.b,rv2.2.2⟩:zam) message rv2.1 d>>=fun rv4=>
   if (rv4.1.e !=0) then (
    some (.inr (.inr (rv4.2,rv4.1.depth,rv4.1.place,rv4.1.e)))
   ) else (
    some (.inl (rv4.2,rv2.1.Record.To,(if depth<rv4.1.depth then rv4.1.depth else depth)))
   )
  )
 ) else (
  some (.inr (.inl (wv2,depth)))
 )
def zbL (d:Int) (message:Int) (rec_valid_walk_value:zam→Int→ze→Int→Option (zA×(List (zm×ze)))) (tov:Int) (wv:zam) (wv2:(List (zm×ze))) (fromv2:Int) (depth:Int):Option (((List (zm×ze))×Int)⊕((List (zm×ze))×Int×Int×Int)):=zai (fun s:((List (zm×ze))×Int×Int)=>zap d message rec_valid_walk_value tov wv s.1 s.2.1 s.2.2) (wv2,fromv2,depth)
def zdx (rec_valid_walk_message:zam→Int→Int→Int→Int→Option (zA×(List (zm×ze)))) (rec_valid_walk_value:zam→Int→ze→Int→Option (zA×(List (zm×ze)))) (wv:zam) (message:Int) (fromv:Int) (tov:Int) (d:Int):Option (zA×(List (zm×ze))):=
 zbL d message rec_valid_walk_value tov wv wv.met fromv 0>>=fun q=>
 match q with
 | .inl u=>(
  some ((⟨u.2,0,0⟩:zA),u.1)
 )
 | .inr u2=>(
  some ((⟨u2.2.1,u2.2.2.1,u2.2.2.2⟩:zA),u2.1)
 )
def zdj (rec_valid_walk_message:zam→Int→Int→Int→Int→Option (zA×(List (zm×ze)))) (rec_valid_walk_value:zam→Int→ze→Int→Option (zA×(List (zm×ze)))) (wv:zam) (message:Int) (v:ze) (d:Int):Option (zA×(List (zm×ze))):=
 if (v.Field==(-1)) then (
  some ((⟨0,0,0⟩:zA),wv.met)
 ) else (
  idx wv.s message>>=fun x=>
  idx x.Fields v.Field>>=fun x2=>
  if ((x2.Kind==17)&&(decide (d>0))) then (
   rec_valid_walk_message wv x2.Of v.Record.At v.Record.To (IntKind.i64.wrap (d - 1))>>=fun rv2=>
   some ((⟨(IntKind.i64.wrap (rv2.1.depth+1)),rv2.1.place,rv2.1.e⟩:zA),rv2.2)
  ) else (
   cut wv.b v.Record.At v.Record.To>>=fun v3=>
   ziw x2 v.Run v3>>=fun rv3=>
   if (rv3 !=0) then (
    some ((⟨0,v.Record.From,rv3⟩:zA),wv.met)
   ) else (
    some ((⟨0,0,0⟩:zA),wv.met)
   )
  )
 )
def zas:Nat→(zam→Int→Int→Int→Int→Option (zA×(List (zm×ze))))×(zam→Int→ze→Int→Option (zA×(List (zm×ze))))
  | 0=>(fun _ _ _ _ _=>none,fun _ _ _ _=>none)
  | fuel+1=>(fun wv message fromv tov d=>zdx (zas fuel).1 (zas fuel).2 wv message fromv tov d,fun wv message v d=>zdj (zas fuel).1 (zas fuel).2 wv message v d)
def zbc (fuel:Nat):zam→Int→Int→Int→Int→Option (zA×(List (zm×ze))):=(zas fuel).1
def zdi (fuel:Nat):zam→Int→ze→Int→Option (zA×(List (zm×ze))):=(zas fuel).2
theorem zjU {d:Int} {message:Int} {rec_valid_walk_value:zam→Int→ze→Int→Option (zA×(List (zm×ze)))} {tov:Int} {wv:zam} {wv2:(List (zm×ze))} {fromv2:Int} {depth:Int} {wv2':(List (zm×ze))} {fromv2':Int} {depth':Int} (h:zap d message rec_valid_walk_value tov wv wv2 fromv2 depth=some (.inl (wv2',fromv2',depth'))):zbL d message rec_valid_walk_value tov wv wv2 fromv2 depth=zbL d message rec_valid_walk_value tov wv wv2' fromv2' depth':=zL (body:=fun s:((List (zm×ze))×Int×Int)=>zap d message rec_valid_walk_value tov wv s.1 s.2.1 s.2.2) h
theorem zdc {d:Int} {message:Int} {rec_valid_walk_value:zam→Int→ze→Int→Option (zA×(List (zm×ze)))} {tov:Int} {wv:zam} {wv2:(List (zm×ze))} {fromv2:Int} {depth:Int} {oo_:(((List (zm×ze))×Int)⊕((List (zm×ze))×Int×Int×Int))} (h:zap d message rec_valid_walk_value tov wv wv2 fromv2 depth=some (.inr oo_)):zbL d message rec_valid_walk_value tov wv wv2 fromv2 depth=some oo_:=zK (body:=fun s:((List (zm×ze))×Int×Int)=>zap d message rec_valid_walk_value tov wv s.1 s.2.1 s.2.2) h
def zjE (sv:(List zg)) (root:Int) (d:Int):Option Int:=
 zgj sv>>=fun rv=>
 if (!rv) then (
  some 9
 ) else (
  if ((decide (root<0))|| ((decide (root≥(sv.length:Int)))|| ((decide (d<0))|| (decide (d>64))))) then (
   some 2
  ) else (
   some 0
  )
 )
def zjF (fuel:Nat) (sv:(List zg)) (root:Int) (b:(List UInt8)) (d:Int):Option zA:=
 zjE sv root d>>=fun rv=>
 if (rv !=0) then (
  some (⟨0,0,rv⟩:zA)
 ) else (
  zbc fuel (⟨sv,b,([]:(List (zm×ze)))⟩:zam) root 0 (b.length:Int) d>>=fun rv3=>
  some rv3.1
 )
def ziv (fuel:Nat) (sv:(List zg)) (root:Int) (b:(List UInt8)) (d:Int):Option (Int×Int):=
 zjF fuel sv root b d>>=fun rv=>
 some (rv.place,rv.e)
end
end Go.Proofs.YtcbkcblkecmjnaaGreat
namespace Go.Proofs.YtcbkcblkecmjnaaGreat
open Go
set_option linter.unusedVariables false
noncomputable section
def zdA (v:zc):Option Int:=
 some (IntKind.i64.wrap ((IntKind.i64.wrap ((v.Words.length:Int)+(v.Texts.length:Int)))+(v.Subs.length:Int)))
def zbo (rec_darninglaw14_OfValue:zc→Option zc) (x:zf) (i:Int) (f:(List zc)):Option ((Int×(List zc))⊕(List zc)):=
 if (decide (i<(x.Values.length:Int))) then (
  idx x.Values i>>=fun x2=>
  rec_darninglaw14_OfValue x2>>=fun rv=>
  app 80 f ([rv]:(List zc))>>=fun v2=>
  some (.inl ((IntKind.i64.wrap (i+1)),v2))
 ) else (
  some (.inr f)
 )
def zdf (rec_darninglaw14_OfValue:zc→Option zc) (x:zf) (i:Int) (f:(List zc)):Option (List zc):=zai (fun s:(Int×(List zc))=>zbo rec_darninglaw14_OfValue x s.1 s.2) (i,f)
def zex (rec_darninglaw14_Of:zf→Option zf) (rec_darninglaw14_OfValue:zc→Option zc) (x:zf):Option zf:=
 app 16 ([]:(List Str)) x.Unknown>>=fun v=>
 zdf rec_darninglaw14_OfValue x 0 []>>=fun q=>
 some (⟨q,v⟩:zf)
def zaA (rec_darninglaw14_Of:zf→Option zf) (v:zc) (i:Int) (f:(List zf)):Option ((Int×(List zf))⊕(List zf)):=
 if (decide (i<(v.Subs.length:Int))) then (
  idx v.Subs i>>=fun x=>
  rec_darninglaw14_Of x>>=fun rv=>
  app 48 f ([rv]:(List zf))>>=fun v2=>
  some (.inl ((IntKind.i64.wrap (i+1)),v2))
 ) else (
  some (.inr f)
 )
def zbO (rec_darninglaw14_Of:zf→Option zf) (v:zc) (i:Int) (f:(List zf)):Option (List zf):=zai (fun s:(Int×(List zf))=>zaA rec_darninglaw14_Of v s.1 s.2) (i,f)
def zcN (rec_darninglaw14_Of:zf→Option zf) (rec_darninglaw14_OfValue:zc→Option zc) (v:zc):Option zc:=
 zbO rec_darninglaw14_Of v 0 []>>=fun q=>
 some (⟨v.Number,v.Words,v.Texts,q⟩:zc)
def zan:Nat→(zf→Option zf)×(zc→Option zc)
  | 0=>(fun _=>none,fun _=>none)
  | fuel+1=>(fun x=>zex (zan fuel).1 (zan fuel).2 x,fun v=>zcN (zan fuel).1 (zan fuel).2 v)
def zer (fuel:Nat):zf→Option zf:=(zan fuel).1
def zbj (fuel:Nat):zc→Option zc:=(zan fuel).2
theorem zlB {rec_darninglaw14_OfValue:zc→Option zc} {x:zf} {i:Int} {f:(List zc)} {i':Int} {f':(List zc)} (h:zbo rec_darninglaw14_OfValue x i f=some (.inl (i',f'))):zdf rec_darninglaw14_OfValue x i f=zdf rec_darninglaw14_OfValue x i' f':=zL (body:=fun s:(Int×(List zc))=>zbo rec_darninglaw14_OfValue x s.1 s.2) h
theorem zlC {rec_darninglaw14_OfValue:zc→Option zc} {x:zf} {i:Int} {f:(List zc)} {oo_:(List zc)} (h:zbo rec_darninglaw14_OfValue x i f=some (.inr oo_)):zdf rec_darninglaw14_OfValue x i f=some oo_:=zK (body:=fun s:(Int×(List zc))=>zbo rec_darninglaw14_OfValue x s.1 s.2) h
theorem ziK {rec_darninglaw14_Of:zf→Option zf} {v:zc} {i:Int} {f:(List zf)} {i':Int} {f':(List zf)} (h:zaA rec_darninglaw14_Of v i f=some (.inl (i',f'))):zbO rec_darninglaw14_Of v i f=zbO rec_darninglaw14_Of v i' f':=zL (body:=fun s:(Int×(List zf))=>zaA rec_darninglaw14_Of v s.1 s.2) h
theorem ziL {rec_darninglaw14_Of:zf→Option zf} {v:zc} {i:Int} {f:(List zf)} {oo_:(List zf)} (h:zaA rec_darninglaw14_Of v i f=some (.inr oo_)):zbO rec_darninglaw14_Of v i f=some oo_:=zK (body:=fun s:(Int×(List zf))=>zaA rec_darninglaw14_Of v s.1 s.2) h
def zaU (x:zf) (n:Int) (i:Int):Option ((Int×Int)⊕Int):=
 if (decide (i<(x.Unknown.length:Int))) then (
  idx x.Unknown i>>=fun x2=>
  some (.inl ((IntKind.i64.wrap ((IntKind.i64.wrap (n+1))+(x2.length:Int))),(IntKind.i64.wrap (i+1))))
 ) else (
  some (.inr n)
 )
def zcr (x:zf) (n:Int) (i:Int):Option Int:=zai (fun s:(Int×Int)=>zaU x s.1 s.2) (n,i)
def zaJ (deep:Int) (rec_darninglaw14_SizeValue:zc→Int→Option Int) (x:zf) (n3:Int) (i2:Int):Option ((Int×Int)⊕(Int⊕Unit)):=
 if (decide (i2<(x.Values.length:Int))) then (
  idx x.Values i2>>=fun x3=>
  rec_darninglaw14_SizeValue x3 deep>>=fun rv=>
  if (decide ((IntKind.i64.wrap (n3+rv))≥5000)) then (
   some (.inr (.inr ()))
  ) else (
   some (.inl ((IntKind.i64.wrap (n3+rv)),(IntKind.i64.wrap (i2+1))))
  )
 ) else (
  some (.inr (.inl n3))
 )
def zcs (deep:Int) (rec_darninglaw14_SizeValue:zc→Int→Option Int) (x:zf) (n3:Int) (i2:Int):Option (Int⊕Unit):=zai (fun s:(Int×Int)=>zaJ deep rec_darninglaw14_SizeValue x s.1 s.2) (n3,i2)
def zdI (rec_darninglaw14_Size:zf→Int→Option Int) (rec_darninglaw14_SizeValue:zc→Int→Option Int) (x:zf) (deep:Int):Option Int:=
 if (decide (deep<0)) then (
  some 5000
 ) else (
  zcr x 1 0>>=fun q=>
  zcs deep rec_darninglaw14_SizeValue x q 0>>=fun q2=>
  match q2 with
  | .inl u=>(
   some u
  )
  | .inr u2=>(
   some 5000
  )
 )
def zau (v:zc) (n:Int) (k:Int):Option ((Int×Int)⊕Int):=
 if (decide (k<(v.Texts.length:Int))) then (
  idx v.Texts k>>=fun x=>
  some (.inl ((IntKind.i64.wrap ((IntKind.i64.wrap (n+1))+(x.length:Int))),(IntKind.i64.wrap (k+1))))
 ) else (
  some (.inr n)
 )
def zbB (v:zc) (n:Int) (k:Int):Option Int:=zai (fun s:(Int×Int)=>zau v s.1 s.2) (n,k)
def zah (deep:Int) (rec_darninglaw14_Size:zf→Int→Option Int) (v:zc) (n3:Int) (k2:Int):Option ((Int×Int)⊕(Int⊕Unit)):=
 if (decide (k2<(v.Subs.length:Int))) then (
  idx v.Subs k2>>=fun x2=>
  rec_darninglaw14_Size x2 (IntKind.i64.wrap (deep - 1))>>=fun rv=>
  if (decide ((IntKind.i64.wrap (n3+rv))≥5000)) then (
   some (.inr (.inr ()))
  ) else (
   some (.inl ((IntKind.i64.wrap (n3+rv)),(IntKind.i64.wrap (k2+1))))
  )
 ) else (
  some (.inr (.inl n3))
 )
def zbC (deep:Int) (rec_darninglaw14_Size:zf→Int→Option Int) (v:zc) (n3:Int) (k2:Int):Option (Int⊕Unit):=zai (fun s:(Int×Int)=>zah deep rec_darninglaw14_Size v s.1 s.2) (n3,k2)
def zck (rec_darninglaw14_Size:zf→Int→Option Int) (rec_darninglaw14_SizeValue:zc→Int→Option Int) (v:zc) (deep:Int):Option Int:=
 zbB v (IntKind.i64.wrap (1+(v.Words.length:Int))) 0>>=fun q=>
 zbC deep rec_darninglaw14_Size v q 0>>=fun q2=>
 match q2 with
 | .inl u=>(
  some u
 )
 | .inr u2=>(
  some 5000
 )
def zae:Nat→(zf→Int→Option Int)×(zc→Int→Option Int)
  | 0=>(fun _ _=>none,fun _ _=>none)
  | fuel+1=>(fun x deep=>zdI (zae fuel).1 (zae fuel).2 x deep,fun v deep=>zck (zae fuel).1 (zae fuel).2 v deep)
def zbM (fuel:Nat):zf→Int→Option Int:=(zae fuel).1
def zax (fuel:Nat):zc→Int→Option Int:=(zae fuel).2
theorem zkm {x:zf} {n:Int} {i:Int} {n':Int} {i':Int} (h:zaU x n i=some (.inl (n',i'))):zcr x n i=zcr x n' i':=zL (body:=fun s:(Int×Int)=>zaU x s.1 s.2) h
theorem zkn {x:zf} {n:Int} {i:Int} {oo_:Int} (h:zaU x n i=some (.inr oo_)):zcr x n i=some oo_:=zK (body:=fun s:(Int×Int)=>zaU x s.1 s.2) h
theorem zko {deep:Int} {rec_darninglaw14_SizeValue:zc→Int→Option Int} {x:zf} {n3:Int} {i2:Int} {n3':Int} {i2':Int} (h:zaJ deep rec_darninglaw14_SizeValue x n3 i2=some (.inl (n3',i2'))):zcs deep rec_darninglaw14_SizeValue x n3 i2=zcs deep rec_darninglaw14_SizeValue x n3' i2':=zL (body:=fun s:(Int×Int)=>zaJ deep rec_darninglaw14_SizeValue x s.1 s.2) h
theorem zgy {deep:Int} {rec_darninglaw14_SizeValue:zc→Int→Option Int} {x:zf} {n3:Int} {i2:Int} {oo_:(Int⊕Unit)} (h:zaJ deep rec_darninglaw14_SizeValue x n3 i2=some (.inr oo_)):zcs deep rec_darninglaw14_SizeValue x n3 i2=some oo_:=zK (body:=fun s:(Int×Int)=>zaJ deep rec_darninglaw14_SizeValue x s.1 s.2) h
theorem zib {v:zc} {n:Int} {k:Int} {n':Int} {k':Int} (h:zau v n k=some (.inl (n',k'))):zbB v n k=zbB v n' k':=zL (body:=fun s:(Int×Int)=>zau v s.1 s.2) h
theorem zic {v:zc} {n:Int} {k:Int} {oo_:Int} (h:zau v n k=some (.inr oo_)):zbB v n k=some oo_:=zK (body:=fun s:(Int×Int)=>zau v s.1 s.2) h
theorem zid {deep:Int} {rec_darninglaw14_Size:zf→Int→Option Int} {v:zc} {n3:Int} {k2:Int} {n3':Int} {k2':Int} (h:zah deep rec_darninglaw14_Size v n3 k2=some (.inl (n3',k2'))):zbC deep rec_darninglaw14_Size v n3 k2=zbC deep rec_darninglaw14_Size v n3' k2':=zL (body:=fun s:(Int×Int)=>zah deep rec_darninglaw14_Size v s.1 s.2) h
theorem zfj {deep:Int} {rec_darninglaw14_Size:zf→Int→Option Int} {v:zc} {n3:Int} {k2:Int} {oo_:(Int⊕Unit)} (h:zah deep rec_darninglaw14_Size v n3 k2=some (.inr oo_)):zbC deep rec_darninglaw14_Size v n3 k2=some oo_:=zK (body:=fun s:(Int×Int)=>zah deep rec_darninglaw14_Size v s.1 s.2) h
def zcJ (b:(List UInt8)) (l:(List ze)) (all:(List Str)) (v2:Int):Option (((List Str)×Int)⊕(List Str)):=
 if (decide (v2<(l.length:Int))) then (
  idx l v2>>=fun x=>
  cut b x.Record.At x.Record.To>>=fun v3=>
  idx all v2>>=fun x2=>
  some (.inl ((all.set (Int.toNat v2) v3),(IntKind.i64.wrap (v2+1))))
 ) else (
  some (.inr all)
 )
def zfE (b:(List UInt8)) (l:(List ze)) (all:(List Str)) (v2:Int):Option (List Str):=zai (fun s:((List Str)×Int)=>zcJ b l s.1 s.2) (all,v2)
def zjC (b:(List UInt8)) (l:(List ze)):Option (List Str):=
 mkO 16 ([]:Str) (l.length:Int) (l.length:Int)>>=fun v=>
 zfE b l v 0>>=fun q=>
 some q
theorem zpu {b:(List UInt8)} {l:(List ze)} {all:(List Str)} {v2:Int} {all':(List Str)} {v2':Int} (h:zcJ b l all v2=some (.inl (all',v2'))):zfE b l all v2=zfE b l all' v2':=zL (body:=fun s:((List Str)×Int)=>zcJ b l s.1 s.2) h
theorem zpv {b:(List UInt8)} {l:(List ze)} {all:(List Str)} {v2:Int} {oo_:(List Str)} (h:zcJ b l all v2=some (.inr oo_)):zfE b l all v2=some oo_:=zK (body:=fun s:((List Str)×Int)=>zcJ b l s.1 s.2) h
def zcK (b:(List UInt8)) (k:Int) (l:(List ze)) (all:(List Int)) (v:Int):Option (((List Int)×Int)⊕(List Int)):=
 if (decide (v<(l.length:Int))) then (
  idx l v>>=fun x=>
  cut b x.Record.At x.Record.To>>=fun v2=>
  zlj k v2>>=fun rv=>
  app 8 all rv.1>>=fun v3=>
  some (.inl (v3,(IntKind.i64.wrap (v+1))))
 ) else (
  some (.inr all)
 )
def zfF (b:(List UInt8)) (k:Int) (l:(List ze)) (all:(List Int)) (v:Int):Option (List Int):=zai (fun s:((List Int)×Int)=>zcK b k l s.1 s.2) (all,v)
def zjD (k:Int) (b:(List UInt8)) (l:(List ze)):Option (List Int):=
 zfF b k l [] 0>>=fun q=>
 some q
theorem zpw {b:(List UInt8)} {k:Int} {l:(List ze)} {all:(List Int)} {v:Int} {all':(List Int)} {v':Int} (h:zcK b k l all v=some (.inl (all',v'))):zfF b k l all v=zfF b k l all' v':=zL (body:=fun s:((List Int)×Int)=>zcK b k l s.1 s.2) h
theorem zpx {b:(List UInt8)} {k:Int} {l:(List ze)} {all:(List Int)} {v:Int} {oo_:(List Int)} (h:zcK b k l all v=some (.inr oo_)):zfF b k l all v=some oo_:=zK (body:=fun s:((List Int)×Int)=>zcK b k l s.1 s.2) h
def zbF (b:(List UInt8)) (rv:((List ze)×Int×Int)) (known:(List (Int×(List ze)))) (v:Int) (f:(List Str)):Option (((List (Int×(List ze)))×Int×(List Str))⊕((List (Int×(List ze)))×(List Str))):=
 if (decide (v<(rv.1.length:Int))) then (
  idx rv.1 v>>=fun x2=>
  if (x2.Field==(-1)) then (
   cut b x2.Record.From x2.Record.To>>=fun v2=>
   app 16 f ([v2]:(List Str))>>=fun v3=>
   some (.inl (known,(IntKind.i64.wrap (v+1)),v3))
  ) else (
   app 56 ((mget known x2.Record.Number).getD []) ([x2]:(List ze))>>=fun v4=>
   some (.inl ((mput known x2.Record.Number v4),(IntKind.i64.wrap (v+1)),f))
  )
 ) else (
  some (.inr (known,f))
 )
def zev (b:(List UInt8)) (rv:((List ze)×Int×Int)) (known:(List (Int×(List ze)))) (v:Int) (f:(List Str)):Option ((List (Int×(List ze)))×(List Str)):=zai (fun s:((List (Int×(List ze)))×Int×(List Str))=>zbF b rv s.1 s.2.1 s.2.2) (known,v,f)
def zbG (b:(List UInt8)) (q:((List (Int×(List ze)))×(List Str))) (rec_tree_value:(List zg)→za→(List UInt8)→(List ze)→Option zc) (sv:(List zg)) (v5:(List Int)) (x:zg) (v6:Int) (f3:(List zc)):Option ((Int×(List zc))⊕(List zc)):=
 if (decide (v6<(v5.length:Int))) then (
  idx v5 v6>>=fun x3=>
  idx ((mget q.1 x3).getD []) 0>>=fun x4=>
  idx x.Fields x4.Field>>=fun x5=>
  rec_tree_value sv x5 b ((mget q.1 x3).getD [])>>=fun rv2=>
  zdA rv2>>=fun rv3=>
  if (decide (rv3>0)) then (
   app 80 f3 ([rv2]:(List zc))>>=fun v7=>
   some (.inl ((IntKind.i64.wrap (v6+1)),v7))
  ) else (
   some (.inl ((IntKind.i64.wrap (v6+1)),f3))
  )
 ) else (
  some (.inr f3)
 )
def zew (b:(List UInt8)) (q:((List (Int×(List ze)))×(List Str))) (rec_tree_value:(List zg)→za→(List UInt8)→(List ze)→Option zc) (sv:(List zg)) (v5:(List Int)) (x:zg) (v6:Int) (f3:(List zc)):Option (List zc):=zai (fun s:(Int×(List zc))=>zbG b q rec_tree_value sv v5 x s.1 s.2) (v6,f3)
def zga (rec_tree_meaning:(List zg)→Int→(List UInt8)→Option zf) (rec_tree_subs:(List zg)→za→(List UInt8)→(List ze)→Option (List zf)) (rec_tree_value:(List zg)→za→(List UInt8)→(List ze)→Option zc) (sv:(List zg)) (message:Int) (b:(List UInt8)):Option zf:=
 idx sv message>>=fun x=>
 znn x b>>=fun rv=>
 zev b rv ([]:(List (Int×(List ze)))) 0 []>>=fun q=>
 zoQ q.1>>=fun v5=>
 zew b q rec_tree_value sv v5 x 0 []>>=fun q2=>
 some (⟨q2,q.2⟩:zf)
def zdn (b:(List UInt8)) (l:(List ze)) (pieces:(List (List UInt8))) (v2:Int):Option (((List (List UInt8))×Int)⊕(List (List UInt8))):=
 if (decide (v2<(l.length:Int))) then (
  idx l v2>>=fun x=>
  cut b x.Record.At x.Record.To>>=fun v3=>
  idx pieces v2>>=fun x2=>
  some (.inl ((pieces.set (Int.toNat v2) v3),(IntKind.i64.wrap (v2+1))))
 ) else (
  some (.inr pieces)
 )
def zgl (b:(List UInt8)) (l:(List ze)) (pieces:(List (List UInt8))) (v2:Int):Option (List (List UInt8)):=zai (fun s:((List (List UInt8))×Int)=>zdn b l s.1 s.2) (pieces,v2)
def zdo (f:za) (p:(List (List UInt8))) (rec_tree_meaning:(List zg)→Int→(List UInt8)→Option zf) (sv:(List zg)) (all:(List zf)) (v6:Int):Option (((List zf)×Int)⊕(List zf)):=
 if (decide (v6<(p.length:Int))) then (
  idx p v6>>=fun x3=>
  rec_tree_meaning sv f.Of x3>>=fun rv2=>
  idx all v6>>=fun x4=>
  some (.inl ((all.set (Int.toNat v6) rv2),(IntKind.i64.wrap (v6+1))))
 ) else (
  some (.inr all)
 )
def zeL (f:za) (p:(List (List UInt8))) (rec_tree_meaning:(List zg)→Int→(List UInt8)→Option zf) (sv:(List zg)) (all:(List zf)) (v6:Int):Option (List zf):=zai (fun s:((List zf)×Int)=>zdo f p rec_tree_meaning sv s.1 s.2) (all,v6)
def zgX (rec_tree_meaning:(List zg)→Int→(List UInt8)→Option zf) (rec_tree_subs:(List zg)→za→(List UInt8)→(List ze)→Option (List zf)) (rec_tree_value:(List zg)→za→(List UInt8)→(List ze)→Option zc) (sv:(List zg)) (f:za) (b:(List UInt8)) (l:(List ze)):Option (List zf):=
 mkO 24 ([]:(List UInt8)) (l.length:Int) (l.length:Int)>>=fun v=>
 zgl b l v 0>>=fun q=>
 ((
  if ((!f.Repeated)&&(decide ((q.length:Int)>1))) then (
   zbR q>>=fun rv=>
   some ([rv]:(List (List UInt8)))
  ) else (
   some q
  )
  :Option (List (List UInt8))))>>=fun p=>
 mkO 48 ((⟨[],[]⟩:zf):zf) (p.length:Int) (p.length:Int)>>=fun v5=>
 zeL f p rec_tree_meaning sv v5 0>>=fun q2=>
 some q2
def zgm (rec_tree_meaning:(List zg)→Int→(List UInt8)→Option zf) (rec_tree_subs:(List zg)→za→(List UInt8)→(List ze)→Option (List zf)) (rec_tree_value:(List zg)→za→(List UInt8)→(List ze)→Option zc) (sv:(List zg)) (f:za) (b:(List UInt8)) (l:(List ze)):Option zc:=
 ((
  if ((!f.Repeated)&&(f.Kind !=17)) then (
   cut l (IntKind.i64.wrap ((l.length:Int) - 1)) (l.length:Int)>>=fun v2=>
   some v2
  ) else (
   some l
  )
  :Option (List ze)))>>=fun p=>
 if (f.Kind==17) then (
  rec_tree_subs sv f b p>>=fun rv=>
  some (⟨f.Number,[],[],rv⟩:zc)
 ) else (
  ((
   if (f.Kind==15) then (
    some (f.Kind==15)
   ) else (
    some (f.Kind==16)
   )
   :Option Bool))>>=fun p2=>
  if p2 then (
   zjC b p>>=fun rv2=>
   some (⟨f.Number,[],rv2,[]⟩:zc)
  ) else (
   zjD f.Kind b p>>=fun rv3=>
   some (⟨f.Number,rv3,[],[]⟩:zc)
  )
 )
def zZ:Nat→((List zg)→Int→(List UInt8)→Option zf)×((List zg)→za→(List UInt8)→(List ze)→Option (List zf))×((List zg)→za→(List UInt8)→(List ze)→Option zc)
  | 0=>(fun _ _ _=>none,fun _ _ _ _=>none,fun _ _ _ _=>none)
  | fuel+1=>(fun sv message b=>zga (zZ fuel).1 (zZ fuel).2.1 (zZ fuel).2.2 sv message b,fun sv f b l=>zgX (zZ fuel).1 (zZ fuel).2.1 (zZ fuel).2.2 sv f b l,fun sv f b l=>zgm (zZ fuel).1 (zZ fuel).2.1 (zZ fuel).2.2 sv f b l)
def zdT (fuel:Nat):(List zg)→Int→(List UInt8)→Option zf:=(zZ fuel).1
def znH (fuel:Nat):(List zg)→za→(List UInt8)→(List ze)→Option (List zf):=(zZ fuel).2.1
def zhR (fuel:Nat):(List zg)→za→(List UInt8)→(List ze)→Option zc:=(zZ fuel).2.2
theorem ziH {b:(List UInt8)} {rv:((List ze)×Int×Int)} {known:(List (Int×(List ze)))} {v:Int} {f:(List Str)} {known':(List (Int×(List ze)))} {v':Int} {f':(List Str)} (h:zbF b rv known v f=some (.inl (known',v',f'))):zev b rv known v f=zev b rv known' v' f':=zL (body:=fun s:((List (Int×(List ze)))×Int×(List Str))=>zbF b rv s.1 s.2.1 s.2.2) h
theorem znP {b:(List UInt8)} {rv:((List ze)×Int×Int)} {known:(List (Int×(List ze)))} {v:Int} {f:(List Str)} {oo_:((List (Int×(List ze)))×(List Str))} (h:zbF b rv known v f=some (.inr oo_)):zev b rv known v f=some oo_:=zK (body:=fun s:((List (Int×(List ze)))×Int×(List Str))=>zbF b rv s.1 s.2.1 s.2.2) h
theorem ziI {b:(List UInt8)} {q:((List (Int×(List ze)))×(List Str))} {rec_tree_value:(List zg)→za→(List UInt8)→(List ze)→Option zc} {sv:(List zg)} {v5:(List Int)} {x:zg} {v6:Int} {f3:(List zc)} {v6':Int} {f3':(List zc)} (h:zbG b q rec_tree_value sv v5 x v6 f3=some (.inl (v6',f3'))):zew b q rec_tree_value sv v5 x v6 f3=zew b q rec_tree_value sv v5 x v6' f3':=zL (body:=fun s:(Int×(List zc))=>zbG b q rec_tree_value sv v5 x s.1 s.2) h
theorem znQ {b:(List UInt8)} {q:((List (Int×(List ze)))×(List Str))} {rec_tree_value:(List zg)→za→(List UInt8)→(List ze)→Option zc} {sv:(List zg)} {v5:(List Int)} {x:zg} {v6:Int} {f3:(List zc)} {oo_:(List zc)} (h:zbG b q rec_tree_value sv v5 x v6 f3=some (.inr oo_)):zew b q rec_tree_value sv v5 x v6 f3=some oo_:=zK (body:=fun s:(Int×(List zc))=>zbG b q rec_tree_value sv v5 x s.1 s.2) h
theorem zqw {b:(List UInt8)} {l:(List ze)} {pieces:(List (List UInt8))} {v2:Int} {pieces':(List (List UInt8))} {v2':Int} (h:zdn b l pieces v2=some (.inl (pieces',v2'))):zgl b l pieces v2=zgl b l pieces' v2':=zL (body:=fun s:((List (List UInt8))×Int)=>zdn b l s.1 s.2) h
theorem zqx {b:(List UInt8)} {l:(List ze)} {pieces:(List (List UInt8))} {v2:Int} {oo_:(List (List UInt8))} (h:zdn b l pieces v2=some (.inr oo_)):zgl b l pieces v2=some oo_:=zK (body:=fun s:((List (List UInt8))×Int)=>zdn b l s.1 s.2) h
theorem zqy {f:za} {p:(List (List UInt8))} {rec_tree_meaning:(List zg)→Int→(List UInt8)→Option zf} {sv:(List zg)} {all:(List zf)} {v6:Int} {all':(List zf)} {v6':Int} (h:zdo f p rec_tree_meaning sv all v6=some (.inl (all',v6'))):zeL f p rec_tree_meaning sv all v6=zeL f p rec_tree_meaning sv all' v6':=zL (body:=fun s:((List zf)×Int)=>zdo f p rec_tree_meaning sv s.1 s.2) h
theorem zqz {f:za} {p:(List (List UInt8))} {rec_tree_meaning:(List zg)→Int→(List UInt8)→Option zf} {sv:(List zg)} {all:(List zf)} {v6:Int} {oo_:(List zf)} (h:zdo f p rec_tree_meaning sv all v6=some (.inr oo_)):zeL f p rec_tree_meaning sv all v6=some oo_:=zK (body:=fun s:((List zf)×Int)=>zdo f p rec_tree_meaning sv s.1 s.2) h
def zki (fuel:Nat) (sv:(List zg)) (root:Int) (b:(List UInt8)) (d:Int):Option (zf×Int):=
 ziv fuel sv root b d>>=fun rv=>
 if (rv.2 !=0) then (
  some ((⟨[],[]⟩:zf),rv.2)
 ) else (
  zdT fuel sv root b>>=fun rv2=>
  some (rv2,0)
 )
def zdY (fuel:Nat):Option Bool:=
 zki fuel ([(⟨[109],([(⟨[97],1,3,false,false,0⟩:za)]:(List za))⟩:zg)]:List zg) 0 ([(8:UInt8),(1:UInt8),(8:UInt8),(2:UInt8)]:List UInt8) 0>>=fun rv=>
 idx ([(⟨[97],1,3,false,false,0⟩:za)]:(List za)) 0>>=fun x=>
 zki fuel ([(⟨[109],(([(⟨[97],1,3,false,false,0⟩:za)]:(List za)).set (Int.toNat 0) (⟨x.Name,x.Number,x.Kind,true,x.Packed,x.Of⟩:za))⟩:zg)]:List zg) 0 ([(8:UInt8),(1:UInt8),(8:UInt8),(2:UInt8)]:List UInt8) 0>>=fun rv2=>
 (
  if ((IntKind.i64.wrap ((IntKind.i64.wrap rv.2)+(IntKind.i64.wrap rv2.2)))==0) then (
   if ((rv.1.Values.length:Int)==1) then (
    idx rv.1.Values 0>>=fun x2=>
    zbZ x2.Words ([2]:(List Int))>>=fun rv3=>
    if rv3 then (
     if ((rv2.1.Values.length:Int)==1) then (
      idx rv2.1.Values 0>>=fun x3=>
      zbZ x3.Words ([1,2]:(List Int))>>=fun rv4=>
      some rv4
     ) else (
      some false
     )
    ) else (
     some false
    )
   ) else (
    some false
   )
  ) else (
   some false
  )
 )>>=fun g=>
 some g
def zcI (most:Int) (rec_tree_depth:zf→Int→Option Int) (x2:zc) (deep3:Int) (v3:Int):Option ((Int×Int)⊕(Int⊕Int)):=
 if (decide (v3<(x2.Subs.length:Int))) then (
  idx x2.Subs v3>>=fun x3=>
  if (decide (most≤0)) then (
   some (.inr (.inr 1))
  ) else (
   rec_tree_depth x3 (IntKind.i64.wrap (most - 1))>>=fun rv=>
   if (decide ((if deep3<(IntKind.i64.wrap (1+rv)) then (IntKind.i64.wrap (1+rv)) else deep3)>most)) then (
    some (.inr (.inr (if deep3<(IntKind.i64.wrap (1+rv)) then (IntKind.i64.wrap (1+rv)) else deep3)))
   ) else (
    some (.inl ((if deep3<(IntKind.i64.wrap (1+rv)) then (IntKind.i64.wrap (1+rv)) else deep3),(IntKind.i64.wrap (v3+1))))
   )
  )
 ) else (
  some (.inr (.inl deep3))
 )
def zfC (most:Int) (rec_tree_depth:zf→Int→Option Int) (x2:zc) (deep3:Int) (v3:Int):Option (Int⊕Int):=zai (fun s:(Int×Int)=>zcI most rec_tree_depth x2 s.1 s.2) (deep3,v3)
def zcH (most:Int) (rec_tree_depth:zf→Int→Option Int) (x:zf) (deep:Int) (v:Int):Option ((Int×Int)⊕(Int⊕Int)):=
 if (decide (v<(x.Values.length:Int))) then (
  idx x.Values v>>=fun x2=>
  zfC most rec_tree_depth x2 deep 0>>=fun q=>
  match q with
  | .inl u=>(
   some (.inl (u,(IntKind.i64.wrap (v+1))))
  )
  | .inr u2=>(
   some (.inr (.inr u2))
  )
 ) else (
  some (.inr (.inl deep))
 )
def zfB (most:Int) (rec_tree_depth:zf→Int→Option Int) (x:zf) (deep:Int) (v:Int):Option (Int⊕Int):=zai (fun s:(Int×Int)=>zcH most rec_tree_depth x s.1 s.2) (deep,v)
def zhs (rec_tree_depth:zf→Int→Option Int) (x:zf) (most:Int):Option Int:=
 zfB most rec_tree_depth x 0 0>>=fun q2=>
 match q2 with
 | .inl u3=>(
  some u3
 )
 | .inr u4=>(
  some u4
 )
def zeT:Nat→zf→Int→Option Int
  | 0,_,_=>none
  | fuel+1,x,most=>zhs (zeT fuel) x most
theorem zpr {most:Int} {rec_tree_depth:zf→Int→Option Int} {x2:zc} {deep3:Int} {v3:Int} {deep3':Int} {v3':Int} (h:zcI most rec_tree_depth x2 deep3 v3=some (.inl (deep3',v3'))):zfC most rec_tree_depth x2 deep3 v3=zfC most rec_tree_depth x2 deep3' v3':=zL (body:=fun s:(Int×Int)=>zcI most rec_tree_depth x2 s.1 s.2) h
theorem zps {most:Int} {rec_tree_depth:zf→Int→Option Int} {x2:zc} {deep3:Int} {v3:Int} {oo_:(Int⊕Int)} (h:zcI most rec_tree_depth x2 deep3 v3=some (.inr oo_)):zfC most rec_tree_depth x2 deep3 v3=some oo_:=zK (body:=fun s:(Int×Int)=>zcI most rec_tree_depth x2 s.1 s.2) h
theorem zpp {most:Int} {rec_tree_depth:zf→Int→Option Int} {x:zf} {deep:Int} {v:Int} {deep':Int} {v':Int} (h:zcH most rec_tree_depth x deep v=some (.inl (deep',v'))):zfB most rec_tree_depth x deep v=zfB most rec_tree_depth x deep' v':=zL (body:=fun s:(Int×Int)=>zcH most rec_tree_depth x s.1 s.2) h
theorem zpq {most:Int} {rec_tree_depth:zf→Int→Option Int} {x:zf} {deep:Int} {v:Int} {oo_:(Int⊕Int)} (h:zcH most rec_tree_depth x deep v=some (.inr oo_)):zfB most rec_tree_depth x deep v=some oo_:=zK (body:=fun s:(Int×Int)=>zcH most rec_tree_depth x s.1 s.2) h
def zjB (fuel:Nat) (x:zf):Option Int:=
 zeT fuel x 131072>>=fun rv=>
 some rv
def zlt (fuel:Nat) (x:zf):Option Bool:=
 zjB fuel x>>=fun rv=>
 some (decide (rv≤131072))
def zbw (l:(List Str)) (v:Int):Option (Int⊕(Unit⊕Unit)):=
 if (decide (v<(l.length:Int))) then (
  idx l v>>=fun x=>
  lenO x>>=fun v2=>
  zhS v2>>=fun rv=>
  if (!rv) then (
   some (.inr (.inr ()))
  ) else (
   some (.inl (IntKind.i64.wrap (v+1)))
  )
 ) else (
  some (.inr (.inl ()))
 )
def zdX (l:(List Str)) (v:Int):Option (Unit⊕Unit):=zai (fun s:Int=>zbw l s) v
def zgH (l:(List Str)):Option Bool:=
 zdX l 0>>=fun q=>
 match q with
 | .inl u=>(
  some true
 )
 | .inr u2=>(
  some false
 )
theorem zni {l:(List Str)} {v:Int} {v':Int} (h:zbw l v=some (.inl v')):zdX l v=zdX l v':=zL (body:=fun s:Int=>zbw l s) h
theorem zis {l:(List Str)} {v:Int} {oo_:(Unit⊕Unit)} (h:zbw l v=some (.inr oo_)):zdX l v=some oo_:=zK (body:=fun s:Int=>zbw l s) h
def zfZ (m:zg) (text:Str):Option Bool:=
 lenO text>>=fun v=>
 zfW v 0>>=fun rv=>
 if ((rv.2 !=0)|| (rv.1.To !=(text.length:Int))) then (
  some false
 ) else (
  zet m rv.1.Number>>=fun rv2=>
  some (!rv2.2)
 )
def zaz (k:Int) (l:(List Int)) (v:Int):Option (Int⊕(Unit⊕Unit)):=
 if (decide (v<(l.length:Int))) then (
  idx l v>>=fun x=>
  zgL k x>>=fun rv=>
  if ((rv.2 !=0)|| (rv.1 !=x)) then (
   some (.inr (.inr ()))
  ) else (
   some (.inl (IntKind.i64.wrap (v+1)))
  )
 ) else (
  some (.inr (.inl ()))
 )
def zcE (k:Int) (l:(List Int)) (v:Int):Option (Unit⊕Unit):=zai (fun s:Int=>zaz k l s) v
def zeK (k:Int) (l:(List Int)):Option Bool:=
 zcE k l 0>>=fun q=>
 match q with
 | .inl u=>(
  some true
 )
 | .inr u2=>(
  some false
 )
theorem zkN {k:Int} {l:(List Int)} {v:Int} {v':Int} (h:zaz k l v=some (.inl v')):zcE k l v=zcE k l v':=zL (body:=fun s:Int=>zaz k l s) h
theorem zeS {k:Int} {l:(List Int)} {v:Int} {oo_:(Unit⊕Unit)} (h:zaz k l v=some (.inr oo_)):zcE k l v=some oo_:=zK (body:=fun s:Int=>zaz k l s) h
def zaS (l:(List zf)) (message:Int) (rec_tree_isMeaning:(List zg)→Int→zf→Option Bool) (sv:(List zg)) (v2:Int):Option (Int⊕(Unit⊕Unit)):=
 if (decide (v2<(l.length:Int))) then (
  idx l v2>>=fun x=>
  rec_tree_isMeaning sv message x>>=fun rv=>
  if (!rv) then (
   some (.inr (.inr ()))
  ) else (
   some (.inl (IntKind.i64.wrap (v2+1)))
  )
 ) else (
  some (.inr (.inl ()))
 )
def zcU (l:(List zf)) (message:Int) (rec_tree_isMeaning:(List zg)→Int→zf→Option Bool) (sv:(List zg)) (v2:Int):Option (Unit⊕Unit):=zai (fun s:Int=>zaS l message rec_tree_isMeaning sv s) v2
def zel (rec_tree_areMeanings:(List zg)→Int→(List zf)→Option Bool) (rec_tree_fits:za→(List zg)→zc→Option Bool) (rec_tree_isMeaning:(List zg)→Int→zf→Option Bool) (sv:(List zg)) (message:Int) (l:(List zf)):Option Bool:=
 if ((decide (message<0))|| (decide (message≥(sv.length:Int)))) then (
  some false
 ) else (
  zcU l message rec_tree_isMeaning sv 0>>=fun q=>
  match q with
  | .inl u=>(
   some true
  )
  | .inr u2=>(
   some false
  )
 )
def zit (rec_tree_areMeanings:(List zg)→Int→(List zf)→Option Bool) (rec_tree_fits:za→(List zg)→zc→Option Bool) (rec_tree_isMeaning:(List zg)→Int→zf→Option Bool) (f:za) (sv:(List zg)) (v:zc):Option Bool:=
 zdA v>>=fun rv=>
 if ((rv==0)|| ((decide (rv>1))&&(!f.Repeated))) then (
  some false
 ) else (
  if (f.Kind==15) then (
   (
    if ((v.Texts.length:Int)==rv) then (
     zgH v.Texts>>=fun rv2=>
     some rv2
    ) else (
     some false
    )
   )>>=fun g=>
   some g
  ) else (
   if (f.Kind==16) then (
    some ((v.Texts.length:Int)==rv)
   ) else (
    if (f.Kind==17) then (
     (
      if ((v.Subs.length:Int)==rv) then (
       rec_tree_areMeanings sv f.Of v.Subs>>=fun rv3=>
       some rv3
      ) else (
       some false
      )
     )>>=fun g2=>
     some g2
    ) else (
     (
      if ((v.Words.length:Int)==rv) then (
       zeK f.Kind v.Words>>=fun rv4=>
       some rv4
      ) else (
       some false
      )
     )>>=fun g3=>
     some g3
    )
   )
  )
 )
def zbm (rec_tree_fits:za→(List zg)→zc→Option Bool) (sv:(List zg)) (x:zf) (x2:zg) (last:Int) (v:Int):Option ((Int×Int)⊕(Unit⊕Unit)):=
 if (decide (v<(x.Values.length:Int))) then (
  idx x.Values v>>=fun x3=>
  zet x2 x3.Number>>=fun rv=>
  (
   if (!rv.2) then (
    some true
   ) else (
    if (decide (x3.Number≤last)) then (
     some true
    ) else (
     idx x2.Fields rv.1>>=fun x4=>
     rec_tree_fits x4 sv x3>>=fun rv2=>
     some (!rv2)
    )
   )
  )>>=fun g=>
  if g then (
   some (.inr (.inr ()))
  ) else (
   some (.inl (x3.Number,(IntKind.i64.wrap (v+1))))
  )
 ) else (
  some (.inr (.inl ()))
 )
def zdB (rec_tree_fits:za→(List zg)→zc→Option Bool) (sv:(List zg)) (x:zf) (x2:zg) (last:Int) (v:Int):Option (Unit⊕Unit):=zai (fun s:(Int×Int)=>zbm rec_tree_fits sv x x2 s.1 s.2) (last,v)
def zbn (x:zf) (x2:zg) (v3:Int):Option (Int⊕(Unit⊕Unit)):=
 if (decide (v3<(x.Unknown.length:Int))) then (
  idx x.Unknown v3>>=fun x5=>
  zfZ x2 x5>>=fun rv3=>
  if (!rv3) then (
   some (.inr (.inr ()))
  ) else (
   some (.inl (IntKind.i64.wrap (v3+1)))
  )
 ) else (
  some (.inr (.inl ()))
 )
def zdC (x:zf) (x2:zg) (v3:Int):Option (Unit⊕Unit):=zai (fun s:Int=>zbn x x2 s) v3
def zff (rec_tree_areMeanings:(List zg)→Int→(List zf)→Option Bool) (rec_tree_fits:za→(List zg)→zc→Option Bool) (rec_tree_isMeaning:(List zg)→Int→zf→Option Bool) (sv:(List zg)) (message:Int) (x:zf):Option Bool:=
 idx sv message>>=fun x2=>
 zdB rec_tree_fits sv x x2 0 0>>=fun q=>
 match q with
 | .inl u=>(
  zdC x x2 0>>=fun q2=>
  match q2 with
  | .inl u2=>(
   some true
  )
  | .inr u3=>(
   some false
  )
 )
 | .inr u4=>(
  some false
 )
def zU:Nat→((List zg)→Int→(List zf)→Option Bool)×(za→(List zg)→zc→Option Bool)×((List zg)→Int→zf→Option Bool)
  | 0=>(fun _ _ _=>none,fun _ _ _=>none,fun _ _ _=>none)
  | fuel+1=>(fun sv message l=>zel (zU fuel).1 (zU fuel).2.1 (zU fuel).2.2 sv message l,fun f sv v=>zit (zU fuel).1 (zU fuel).2.1 (zU fuel).2.2 f sv v,fun sv message x=>zff (zU fuel).1 (zU fuel).2.1 (zU fuel).2.2 sv message x)
def zfe (fuel:Nat):(List zg)→Int→(List zf)→Option Bool:=(zU fuel).1
def zfD (fuel:Nat):za→(List zg)→zc→Option Bool:=(zU fuel).2.1
def zem (fuel:Nat):(List zg)→Int→zf→Option Bool:=(zU fuel).2.2
theorem zls {l:(List zf)} {message:Int} {rec_tree_isMeaning:(List zg)→Int→zf→Option Bool} {sv:(List zg)} {v2:Int} {v2':Int} (h:zaS l message rec_tree_isMeaning sv v2=some (.inl v2')):zcU l message rec_tree_isMeaning sv v2=zcU l message rec_tree_isMeaning sv v2':=zL (body:=fun s:Int=>zaS l message rec_tree_isMeaning sv s) h
theorem zgW {l:(List zf)} {message:Int} {rec_tree_isMeaning:(List zg)→Int→zf→Option Bool} {sv:(List zg)} {v2:Int} {oo_:(Unit⊕Unit)} (h:zaS l message rec_tree_isMeaning sv v2=some (.inr oo_)):zcU l message rec_tree_isMeaning sv v2=some oo_:=zK (body:=fun s:Int=>zaS l message rec_tree_isMeaning sv s) h
theorem zmr {rec_tree_fits:za→(List zg)→zc→Option Bool} {sv:(List zg)} {x:zf} {x2:zg} {last:Int} {v:Int} {last':Int} {v':Int} (h:zbm rec_tree_fits sv x x2 last v=some (.inl (last',v'))):zdB rec_tree_fits sv x x2 last v=zdB rec_tree_fits sv x x2 last' v':=zL (body:=fun s:(Int×Int)=>zbm rec_tree_fits sv x x2 s.1 s.2) h
theorem zhz {rec_tree_fits:za→(List zg)→zc→Option Bool} {sv:(List zg)} {x:zf} {x2:zg} {last:Int} {v:Int} {oo_:(Unit⊕Unit)} (h:zbm rec_tree_fits sv x x2 last v=some (.inr oo_)):zdB rec_tree_fits sv x x2 last v=some oo_:=zK (body:=fun s:(Int×Int)=>zbm rec_tree_fits sv x x2 s.1 s.2) h
theorem zms {x:zf} {x2:zg} {v3:Int} {v3':Int} (h:zbn x x2 v3=some (.inl v3')):zdC x x2 v3=zdC x x2 v3':=zL (body:=fun s:Int=>zbn x x2 s) h
theorem zhA {x:zf} {x2:zg} {v3:Int} {oo_:(Unit⊕Unit)} (h:zbn x x2 v3=some (.inr oo_)):zdC x x2 v3=some oo_:=zK (body:=fun s:Int=>zbn x x2 s) h
def zlr (fuel:Nat) (f:za) (sv:(List zg)) (v:zc):Option Bool:=
 (
  zgj sv>>=fun rv=>
  if rv then (
   zlt fuel (⟨([v]:(List zc)),[]⟩:zf)>>=fun rv2=>
   if rv2 then (
    zfD fuel f sv v>>=fun rv3=>
    some rv3
   ) else (
    some false
   )
  ) else (
   some false
  )
 )>>=fun g=>
 some g
def zca (v:zc):Option Int:=
 some (IntKind.i64.wrap ((IntKind.i64.wrap ((v.Words.length:Int)+(v.Texts.length:Int)))+(v.Subs.length:Int)))
def zaY (f:za) (v:zc) (ok:Bool) (i:Int):Option ((Bool×Int)⊕Bool):=
 if (decide (i<(v.Words.length:Int))) then (
  (
   if ok then (
    zbX f.Kind>>=fun rv5=>
    if rv5 then (
     idx v.Words i>>=fun x=>
     zec f.Kind x>>=fun rv6=>
     idx v.Words i>>=fun x2=>
     some (rv6==x2)
    ) else (
     some false
    )
   ) else (
    some false
   )
  )>>=fun g2=>
  some (.inl (g2,(IntKind.i64.wrap (i+1))))
 ) else (
  some (.inr ok)
 )
def zcx (f:za) (v:zc) (ok:Bool) (i:Int):Option Bool:=zai (fun s:(Bool×Int)=>zaY f v s.1 s.2) (ok,i)
def zaZ (f:za) (v:zc) (ok4:Bool) (i2:Int):Option ((Bool×Int)⊕Bool):=
 if (decide (i2<(v.Texts.length:Int))) then (
  (
   if ok4 then (
    if (f.Kind==16) then (
     some true
    ) else (
     if (f.Kind==15) then (
      idx v.Texts i2>>=fun x3=>
      lenO x3>>=fun v3=>
      zeb v3>>=fun rv7=>
      some rv7
     ) else (
      some false
     )
    )
   ) else (
    some false
   )
  )>>=fun g3=>
  some (.inl (g3,(IntKind.i64.wrap (i2+1))))
 ) else (
  some (.inr ok4)
 )
def zcy (f:za) (v:zc) (ok4:Bool) (i2:Int):Option Bool:=zai (fun s:(Bool×Int)=>zaZ f v s.1 s.2) (ok4,i2)
def zba (f:za) (rec_darningref14_Right:(List zg)→Int→zf→Option Bool) (sv:(List zg)) (v:zc) (ok7:Bool) (i3:Int):Option ((Bool×Int)⊕Bool):=
 if (decide (i3<(v.Subs.length:Int))) then (
  (
   if ok7 then (
    if (f.Kind==17) then (
     idx v.Subs i3>>=fun x4=>
     rec_darningref14_Right sv f.Of x4>>=fun rv8=>
     some rv8
    ) else (
     some false
    )
   ) else (
    some false
   )
  )>>=fun g4=>
  some (.inl (g4,(IntKind.i64.wrap (i3+1))))
 ) else (
  some (.inr ok7)
 )
def zcz (f:za) (rec_darningref14_Right:(List zg)→Int→zf→Option Bool) (sv:(List zg)) (v:zc) (ok7:Bool) (i3:Int):Option Bool:=zai (fun s:(Bool×Int)=>zba f rec_darningref14_Right sv v s.1 s.2) (ok7,i3)
def zdK (rec_darningref14_Fits:(List zg)→za→zc→Option Bool) (rec_darningref14_Right:(List zg)→Int→zf→Option Bool) (sv:(List zg)) (f:za) (v:zc):Option Bool:=
 (
  zca v>>=fun rv=>
  if (rv==0) then (
   some true
  ) else (
   zca v>>=fun rv2=>
   if (decide (rv2>1)) then (
    if (!f.Repeated) then (
     some true
    ) else (
     zbD f.Kind>>=fun rv3=>
     some (!rv3)
    )
   ) else (
    zbD f.Kind>>=fun rv4=>
    some (!rv4)
   )
  )
 )>>=fun g=>
 if g then (
  some false
 ) else (
  zcx f v true 0>>=fun q=>
  zcy f v q 0>>=fun q2=>
  zcz f rec_darningref14_Right sv v q2 0>>=fun q3=>
  some q3
 )
def zaG (rec_darningref14_Fits:(List zg)→za→zc→Option Bool) (root:Int) (sv:(List zg)) (x:zf) (i:Int):Option (Int⊕(Unit⊕Unit)):=
 if (decide (i<(x.Values.length:Int))) then (
  idx sv root>>=fun x2=>
  idx x.Values i>>=fun x3=>
  zdg x2 x3.Number>>=fun rv=>
  (
   if (decide (rv<0)) then (
    some true
   ) else (
    if (decide (i>0)) then (
     idx x.Values (IntKind.i64.wrap (i - 1))>>=fun x4=>
     idx x.Values i>>=fun x5=>
     if (decide (x4.Number≥x5.Number)) then (
      some true
     ) else (
      idx sv root>>=fun x6=>
      idx x6.Fields rv>>=fun x7=>
      idx x.Values i>>=fun x8=>
      rec_darningref14_Fits sv x7 x8>>=fun rv2=>
      some (!rv2)
     )
    ) else (
     idx sv root>>=fun x9=>
     idx x9.Fields rv>>=fun x10=>
     idx x.Values i>>=fun x11=>
     rec_darningref14_Fits sv x10 x11>>=fun rv3=>
     some (!rv3)
    )
   )
  )>>=fun g=>
  if g then (
   some (.inr (.inr ()))
  ) else (
   some (.inl (IntKind.i64.wrap (i+1)))
  )
 ) else (
  some (.inr (.inl ()))
 )
def zci (rec_darningref14_Fits:(List zg)→za→zc→Option Bool) (root:Int) (sv:(List zg)) (x:zf) (i:Int):Option (Unit⊕Unit):=zai (fun s:Int=>zaG rec_darningref14_Fits root sv x s) i
def zaH (root:Int) (sv:(List zg)) (x:zf) (i2:Int):Option (Int⊕(Unit⊕Unit)):=
 if (decide (i2<(x.Unknown.length:Int))) then (
  idx x.Unknown i2>>=fun x12=>
  lenO x12>>=fun v3=>
  zeD v3 0>>=fun rv4=>
  (
   if (rv4.2 !=0) then (
    some true
   ) else (
    idx x.Unknown i2>>=fun x13=>
    if (rv4.1.To !=(x13.length:Int)) then (
     some true
    ) else (
     idx sv root>>=fun x14=>
     zdg x14 rv4.1.Number>>=fun rv5=>
     some (decide (rv5≥0))
    )
   )
  )>>=fun g2=>
  if g2 then (
   some (.inr (.inr ()))
  ) else (
   some (.inl (IntKind.i64.wrap (i2+1)))
  )
 ) else (
  some (.inr (.inl ()))
 )
def zcj (root:Int) (sv:(List zg)) (x:zf) (i2:Int):Option (Unit⊕Unit):=zai (fun s:Int=>zaH root sv x s) i2
def zdq (rec_darningref14_Fits:(List zg)→za→zc→Option Bool) (rec_darningref14_Right:(List zg)→Int→zf→Option Bool) (sv:(List zg)) (root:Int) (x:zf):Option Bool:=
 if ((decide (root<0))|| (decide (root≥(sv.length:Int)))) then (
  some false
 ) else (
  zci rec_darningref14_Fits root sv x 0>>=fun q=>
  match q with
  | .inl u=>(
   zcj root sv x 0>>=fun q2=>
   match q2 with
   | .inl u2=>(
    some true
   )
   | .inr u3=>(
    some false
   )
  )
  | .inr u4=>(
   some false
  )
 )
def zao:Nat→((List zg)→za→zc→Option Bool)×((List zg)→Int→zf→Option Bool)
  | 0=>(fun _ _ _=>none,fun _ _ _=>none)
  | fuel+1=>(fun sv f v=>zdK (zao fuel).1 (zao fuel).2 sv f v,fun sv root x=>zdq (zao fuel).1 (zao fuel).2 sv root x)
def zby (fuel:Nat):(List zg)→za→zc→Option Bool:=(zao fuel).1
def zdh (fuel:Nat):(List zg)→Int→zf→Option Bool:=(zao fuel).2
theorem zky {f:za} {v:zc} {ok:Bool} {i:Int} {ok':Bool} {i':Int} (h:zaY f v ok i=some (.inl (ok',i'))):zcx f v ok i=zcx f v ok' i':=zL (body:=fun s:(Bool×Int)=>zaY f v s.1 s.2) h
theorem zkz {f:za} {v:zc} {ok:Bool} {i:Int} {oo_:Bool} (h:zaY f v ok i=some (.inr oo_)):zcx f v ok i=some oo_:=zK (body:=fun s:(Bool×Int)=>zaY f v s.1 s.2) h
theorem zkA {f:za} {v:zc} {ok4:Bool} {i2:Int} {ok4':Bool} {i2':Int} (h:zaZ f v ok4 i2=some (.inl (ok4',i2'))):zcy f v ok4 i2=zcy f v ok4' i2':=zL (body:=fun s:(Bool×Int)=>zaZ f v s.1 s.2) h
theorem zkB {f:za} {v:zc} {ok4:Bool} {i2:Int} {oo_:Bool} (h:zaZ f v ok4 i2=some (.inr oo_)):zcy f v ok4 i2=some oo_:=zK (body:=fun s:(Bool×Int)=>zaZ f v s.1 s.2) h
theorem zkC {f:za} {rec_darningref14_Right:(List zg)→Int→zf→Option Bool} {sv:(List zg)} {v:zc} {ok7:Bool} {i3:Int} {ok7':Bool} {i3':Int} (h:zba f rec_darningref14_Right sv v ok7 i3=some (.inl (ok7',i3'))):zcz f rec_darningref14_Right sv v ok7 i3=zcz f rec_darningref14_Right sv v ok7' i3':=zL (body:=fun s:(Bool×Int)=>zba f rec_darningref14_Right sv v s.1 s.2) h
theorem zkD {f:za} {rec_darningref14_Right:(List zg)→Int→zf→Option Bool} {sv:(List zg)} {v:zc} {ok7:Bool} {i3:Int} {oo_:Bool} (h:zba f rec_darningref14_Right sv v ok7 i3=some (.inr oo_)):zcz f rec_darningref14_Right sv v ok7 i3=some oo_:=zK (body:=fun s:(Bool×Int)=>zba f rec_darningref14_Right sv v s.1 s.2) h
theorem zjS {rec_darningref14_Fits:(List zg)→za→zc→Option Bool} {root:Int} {sv:(List zg)} {x:zf} {i:Int} {i':Int} (h:zaG rec_darningref14_Fits root sv x i=some (.inl i')):zci rec_darningref14_Fits root sv x i=zci rec_darningref14_Fits root sv x i':=zL (body:=fun s:Int=>zaG rec_darningref14_Fits root sv x s) h
theorem zgp {rec_darningref14_Fits:(List zg)→za→zc→Option Bool} {root:Int} {sv:(List zg)} {x:zf} {i:Int} {oo_:(Unit⊕Unit)} (h:zaG rec_darningref14_Fits root sv x i=some (.inr oo_)):zci rec_darningref14_Fits root sv x i=some oo_:=zK (body:=fun s:Int=>zaG rec_darningref14_Fits root sv x s) h
theorem zjT {root:Int} {sv:(List zg)} {x:zf} {i2:Int} {i2':Int} (h:zaH root sv x i2=some (.inl i2')):zcj root sv x i2=zcj root sv x i2':=zL (body:=fun s:Int=>zaH root sv x s) h
theorem zgq {root:Int} {sv:(List zg)} {x:zf} {i2:Int} {oo_:(Unit⊕Unit)} (h:zaH root sv x i2=some (.inr oo_)):zcj root sv x i2=some oo_:=zK (body:=fun s:Int=>zaH root sv x s) h
def zdd (fuel:Nat) (sv:(List zg)) (f:za) (v:zc):Option Bool:=
 zdY fuel>>=fun rv=>
 if (!rv) then (
  some false
 ) else (
  (
   zeY sv>>=fun rv2=>
   if (!rv2) then (
    some true
   ) else (
    zef sv>>=fun rv3=>
    if (!rv3) then (
     some true
    ) else (
     zax fuel v 70>>=fun rv4=>
     some (decide (rv4>3000))
    )
   )
  )>>=fun g=>
  if g then (
   some true
  ) else (
   zlr fuel f sv v>>=fun rv5=>
   zbj fuel v>>=fun rv6=>
   zby fuel sv f rv6>>=fun rv7=>
   some (rv5==rv7)
  )
 )
end
end Go.Proofs.YtcbkcblkecmjnaaGreat
