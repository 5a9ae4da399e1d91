/-
  What the Go functions do, as plain functions. No condition.
-/
import Derived.Test.YtekgmimingolbaaGreatx1K2
set_option autoImplicit true
set_option relaxedAutoImplicit true
namespace Go.Proofs.YtekgmimingolbaaGreat
open Go
set_option linter.unusedVariables false
abbrev Str:=List UInt8
structure zJS where
  a0:Str
  a1:Str
  a2:Str
  a3:Str
  a4:Str
  a5:Str
  a6:Str
  a7:Str
  a8:Str
  a9:Str
  a10:Str
  a11:Str
  a12:Str
  a13:Str
  a14:Str deriving DecidableEq
structure zz where
  Number:Int
  Wire:Int
  From:Int
  At:Int
  To:Int deriving DecidableEq
def zaf:Rp zz:=⟨5,true,fun x=>[.int .i64 x.Number,.int .i64 x.Wire,.int .i64 x.From,.int .i64 x.At,.int .i64 x.To],fun _=>rfl,by decide⟩
structure zma where
  Record:zz
  Field:Int
  Run:Bool deriving DecidableEq
structure zv where
  name:Str
  wire:Int deriving DecidableEq
def zA:Rp zv:=⟨2,true,fun x=>[.str x.name,.int .i64 x.wire],fun _=>rfl,by decide⟩
mutual
structure zc where
  Values:(List zb)
  Unknown:(List Str)
structure zb where
  Number:Int
  Words:(List Int)
  Texts:(List Str)
  Subs:(List zc)
end
mutual
def ziu:zc->List LV
  | ⟨x0,x1⟩=>[.sl x0.length 4 (zel x0),.sl x1.length Rp.str.size (x1.flatMap Rp.str.lv)]
def zhP:List zc->List LV
  | []=>[]
  | x::l=>ziu x++zhP l
def zev:zb->List LV
  | ⟨x0,x1,x2,x3⟩=>[.int .i64 x0,.sl x1.length (Rp.int .u64).size (x1.flatMap (Rp.int .u64).lv),.sl x2.length Rp.str.size (x2.flatMap Rp.str.lv),.sl x3.length 2 (zhP x3)]
def zel:List zb->List LV
  | []=>[]
  | x::l=>zev x++zel l
end
theorem zsa (l:List zc):zhP l=l.flatMap ziu:=by
  induction l with
  | nil=>rfl
  | cons x l ih=>rw [zhP,ih,xS]
def zd:Rp zc:=⟨2,true,ziu,fun x=>by cases x;rfl,by decide⟩
theorem zlL (l:List zb):zel l=l.flatMap zev:=by
  induction l with
  | nil=>rfl
  | cons x l ih=>rw [zel,ih,xS]
def za:Rp zb:=⟨4,true,zev,fun x=>by cases x;rfl,by decide⟩
theorem zi (x:zc):zd.lv x=[.sl x.Values.length za.size (x.Values.flatMap za.lv),.sl x.Unknown.length Rp.str.size (x.Unknown.flatMap Rp.str.lv)]:=by
  cases x;simp only [zd,ziu,zlL,za]<;>rfl
theorem zk (x:zb):za.lv x=[.int .i64 x.Number,.sl x.Words.length (Rp.int .u64).size (x.Words.flatMap (Rp.int .u64).lv),.sl x.Texts.length Rp.str.size (x.Texts.flatMap Rp.str.lv),.sl x.Subs.length zd.size (x.Subs.flatMap zd.lv)]:=by
  cases x;simp only [za,zev,zsa,zd]<;>rfl
structure ze where
  Name:Str
  Number:Int
  Kind:Int
  Repeated:Bool
  Packed:Bool
  Of:Int deriving DecidableEq
def zf:Rp ze:=⟨6,true,fun x=>[.str x.Name,.int .i64 x.Number,.int .i64 x.Kind,.bool x.Repeated,.bool x.Packed,.int .i64 x.Of],fun _=>rfl,by decide⟩
structure zg where
  Name:Str
  Fields:(List ze) deriving DecidableEq
def zh:Rp zg:=⟨2,true,fun x=>[.str x.Name,.sl x.Fields.length zf.size (x.Fields.flatMap zf.lv)],fun _=>rfl,by decide⟩
structure zbP where
  Number:Int
  Wire:Int deriving DecidableEq
def zgX:Rp zbP:=⟨2,true,fun x=>[.int .i64 x.Number,.int .i64 x.Wire],fun _=>rfl,by decide⟩
structure zm where
  message:Int
  name:Str deriving DecidableEq
def zp:Rp zm:=⟨2,true,fun x=>[.int .i64 x.message,.str x.name],fun _=>rfl,by decide⟩
structure zn where
  message:Int
  number:Int deriving DecidableEq
def zo:Rp zn:=⟨2,true,fun x=>[.int .i64 x.message,.int .i64 x.number],fun _=>rfl,by decide⟩
structure zaY where
  size:Int
  kinds:(List Int)
  names:(List (zm×Bool))
  numbers:(List (zn×Bool))
structure zbw where
  Message:Int
  Field:Int
  What:Int deriving DecidableEq
def zfk:Rp zbw:=⟨3,true,fun x=>[.int .i64 x.Message,.int .i64 x.Field,.int .i64 x.What],fun _=>rfl,by decide⟩
structure zxe where
  number:Int
  wire:Int deriving DecidableEq
structure zxd where
  field:Int
  run:Bool
  e:Int deriving DecidableEq
structure zHc where
  R:zz
  Field:Int
  Run:Bool deriving DecidableEq
structure zkp where
  message:Int
  number:Int
  wire:Int deriving DecidableEq
structure zJk where
  s:(List zg)
  b:(List UInt8)
  met:(List (zkp×zma))
structure zES where
  depth:Int
  place:Int
  e:Int deriving DecidableEq
structure zgY where
  Ways:(List (List Int)) deriving DecidableEq
def zjg:Rp zgY:=⟨1,true,fun x=>[.sl x.Ways.length (Rp.list (Rp.int .i64)).size (x.Ways.flatMap (Rp.list (Rp.int .i64)).lv)],fun _=>rfl,by decide⟩
structure zae where
  a0:Int
  a1:Int deriving DecidableEq
def zaL:Rp zae:=⟨2,true,fun x=>[.int .i64 x.a0,.int .i64 x.a1],fun _=>rfl,by decide⟩
noncomputable section
def zbU (sv:(List zc)):Option (List zc):=
 nilO sv (
  some []
 ) (
  app 48 ([]:(List zc)) sv>>=fun v=>
  some v
 )
def zbh (sv:(List zb)):Option (List zb):=
 nilO sv (
  some []
 ) (
  app 80 ([]:(List zb)) sv>>=fun v=>
  some v
 )
def zcf (n:Int):Option (List zc):=
 if (decide (n<0)) then (
  none
 ) else (
  if (decide ((IntKind.i64.wrap (n - (IntKind.i64.wrap (0 - 0))))>0)) then (
   mkO 48 ((⟨[],[]⟩:zc):zc) (IntKind.i64.wrap (n - (IntKind.i64.wrap (0 - 0)))) (IntKind.i64.wrap (n - (IntKind.i64.wrap (0 - 0))))>>=fun v=>
   cut v 0 0>>=fun v2=>
   some v2
  ) else (
   some []
  )
 )
def zI (slices:(List (List zc))) (size:Int) (v:Int):Option ((Int×Int)⊕Int):=
 if (decide (v<(slices.length:Int))) then (
  idx slices v>>=fun x=>
  if (decide ((IntKind.i64.wrap (size+(x.length:Int)))<0)) then (
   none
  ) else (
   some (.inl ((IntKind.i64.wrap (size+(x.length:Int))),(IntKind.i64.wrap (v+1))))
  )
 ) else (
  some (.inr size)
 )
def zbi (slices:(List (List zc))) (size:Int) (v:Int):Option Int:=zab (fun s:(Int×Int)=>zI slices s.1 s.2) (size,v)
def zS (slices:(List (List zc))) (newslice:(List zc)) (v2:Int):Option (((List zc)×Int)⊕(List zc)):=
 if (decide (v2<(slices.length:Int))) then (
  idx slices v2>>=fun x2=>
  app 48 newslice x2>>=fun v3=>
  some (.inl (v3,(IntKind.i64.wrap (v2+1))))
 ) else (
  some (.inr newslice)
 )
def zbj (slices:(List (List zc))) (newslice:(List zc)) (v2:Int):Option (List zc):=zab (fun s:((List zc)×Int)=>zS slices s.1 s.2) (newslice,v2)
def zbM (slices:(List (List zc))):Option (List zc):=
 zbi slices 0 0>>=fun q=>
 zcf q>>=fun rv=>
 zbj slices rv 0>>=fun q2=>
 some q2
theorem zeM {slices:(List (List zc))} {size:Int} {v:Int} {size':Int} {v':Int} (h:zI slices size v=some (.inl (size',v'))):zbi slices size v=zbi slices size' v':=zF (body:=fun s:(Int×Int)=>zI slices s.1 s.2) h
theorem zia {slices:(List (List zc))} {size:Int} {v:Int} {oo_:Int} (h:zI slices size v=some (.inr oo_)):zbi slices size v=some oo_:=zE (body:=fun s:(Int×Int)=>zI slices s.1 s.2) h
theorem zeN {slices:(List (List zc))} {newslice:(List zc)} {v2:Int} {newslice':(List zc)} {v2':Int} (h:zS slices newslice v2=some (.inl (newslice',v2'))):zbj slices newslice v2=zbj slices newslice' v2':=zF (body:=fun s:((List zc)×Int)=>zS slices s.1 s.2) h
theorem zib {slices:(List (List zc))} {newslice:(List zc)} {v2:Int} {oo_:(List zc)} (h:zS slices newslice v2=some (.inr oo_)):zbj slices newslice v2=some oo_:=zE (body:=fun s:((List zc)×Int)=>zS slices s.1 s.2) h
def zan (sv:(List Int)) (v:Int) (v2:Int):Option (Int⊕(Unit⊕Int)):=
 if (decide (v2<(sv.length:Int))) then (
  idx sv v2>>=fun x=>
  if (v==x) then (
   some (.inr (.inr v2))
  ) else (
   some (.inl (IntKind.i64.wrap (v2+1)))
  )
 ) else (
  some (.inr (.inl ()))
 )
def zcw (sv:(List Int)) (v:Int) (v2:Int):Option (Unit⊕Int):=zab (fun s:Int=>zan sv v s) v2
def zeh (sv:(List Int)) (v:Int):Option Int:=
 zcw sv v 0>>=fun q=>
 match q with
 | .inl u=>(
  some (-1)
 )
 | .inr u2=>(
  some u2
 )
theorem zkL (h:zan sv v v2=some (.inl v2')):zcw sv v v2=zcw sv v v2':=zF (body:=fun s:Int=>zan sv v s) h
theorem zhu (h:zan sv v v2=some (.inr oo_)):zcw sv v v2=some oo_:=zE (body:=fun s:Int=>zan sv v s) h
def zdc (sv:(List Int)) (v:Int):Option Bool:=
 zeh sv v>>=fun rv=>
 some (decide (rv>=0))
def ziA (x:Int):Option Bool:=
 some (x !=x)
def zhl (x:Int) (y:Int):Option Int:=
 ziA x>>=fun rv=>
 ziA y>>=fun rv2=>
 if rv then (
  if rv2 then (
   some 0
  ) else (
   some (-1)
  )
 ) else (
  if rv2 then (
   some 1
  ) else (
   if (decide (x<y)) then (
    some (-1)
   ) else (
    if (decide (x>y)) then (
     some 1
    ) else (
     some 0
    )
   )
  )
 )
def zad (s1:(List Int)) (s2:(List Int)) (v:Int):Option (Int⊕(Unit⊕Int)):=
 if (decide (v<(s1.length:Int))) then (
  idx s1 v>>=fun x=>
  if (decide (v>=(s2.length:Int))) then (
   some (.inr (.inr 1))
  ) else (
   idx s2 v>>=fun x2=>
   zhl x x2>>=fun rv=>
   if (rv !=0) then (
    some (.inr (.inr rv))
   ) else (
    some (.inl (IntKind.i64.wrap (v+1)))
   )
  )
 ) else (
  some (.inr (.inl ()))
 )
def zcc (s1:(List Int)) (s2:(List Int)) (v:Int):Option (Unit⊕Int):=zab (fun s:Int=>zad s1 s2 s) v
def zdm (s1:(List Int)) (s2:(List Int)):Option Int:=
 zcc s1 s2 0>>=fun q=>
 match q with
 | .inl u=>(
  if (decide ((s1.length:Int)<(s2.length:Int))) then (
   some (-1)
  ) else (
   some 0
  )
 )
 | .inr u2=>(
  some u2
 )
theorem zkh {s1:(List Int)} {s2:(List Int)} {v:Int} {v':Int} (h:zad s1 s2 v=some (.inl v')):zcc s1 s2 v=zcc s1 s2 v':=zF (body:=fun s:Int=>zad s1 s2 s) h
theorem zcV {s1:(List Int)} {s2:(List Int)} {v:Int} {oo_:(Unit⊕Int)} (h:zad s1 s2 v=some (.inr oo_)):zcc s1 s2 v=some oo_:=zE (body:=fun s:Int=>zad s1 s2 s) h
def zah (s1:(List Int)) (s2:(List Int)) (v:Int):Option (Int⊕(Unit⊕Unit)):=
 if (decide (v<(s1.length:Int))) then (
  idx s1 v>>=fun x=>
  idx s2 v>>=fun x2=>
  if (x !=x2) then (
   some (.inr (.inr ()))
  ) else (
   some (.inl (IntKind.i64.wrap (v+1)))
  )
 ) else (
  some (.inr (.inl ()))
 )
def zcv (s1:(List Int)) (s2:(List Int)) (v:Int):Option (Unit⊕Unit):=zab (fun s:Int=>zah s1 s2 s) v
def zef (s1:(List Int)) (s2:(List Int)):Option Bool:=
 if ((s1.length:Int) !=(s2.length:Int)) then (
  some false
 ) else (
  zcv s1 s2 0>>=fun q=>
  match q with
  | .inl u=>(
   some true
  )
  | .inr u2=>(
   some false
  )
 )
theorem zkK {s1:(List Int)} {s2:(List Int)} {v:Int} {v':Int} (h:zah s1 s2 v=some (.inl v')):zcv s1 s2 v=zcv s1 s2 v':=zF (body:=fun s:Int=>zah s1 s2 s) h
theorem zht {s1:(List Int)} {s2:(List Int)} {v:Int} {oo_:(Unit⊕Unit)} (h:zah s1 s2 v=some (.inr oo_)):zcv s1 s2 v=some oo_:=zE (body:=fun s:Int=>zah s1 s2 s) h
def zee (sv:(List Int)):Option (List Int):=
 nilO sv (
  some []
 ) (
  app 8 ([]:(List Int)) sv>>=fun v=>
  some v
 )
def zaa {σ:Type} (kf:(Rnd σ (List Int))) (v:(List (List Int))) (v2:Int) (sg2:σ):Option ((Int×σ)⊕(σ⊕σ)):=
 if (decide (v2<(v.length:Int))) then (
  idx v v2>>=fun x=>
  kf sg2 x>>=fun y=>
  if (!y.1) then (
   some (.inr (.inr y.2))
  ) else (
   some (.inl ((IntKind.i64.wrap (v2+1)),y.2))
  )
 ) else (
  some (.inr (.inl sg2))
 )
def zaX {σ:Type} (kf:(Rnd σ (List Int))) (v:(List (List Int))) (v2:Int) (sg2:σ):Option (σ⊕σ):=zab (fun s:(Int×σ)=>zaa kf v s.1 s.2) (v2,sg2)
def zaV {σ:Type} (v:(List (List Int))) (kf:Rnd σ (List Int)) (sg:σ):Option σ:=
 zaX kf v 0 sg>>=fun q=>
 match q with
 | .inl u=>(
  some u
 )
 | .inr u2=>(
  some u2
 )
theorem ziY {σ:Type} {kf:(Rnd σ (List Int))} {v:(List (List Int))} {v2:Int} {sg2:σ} {v2':Int} {sg2':σ} (h:zaa kf v v2 sg2=some (.inl (v2',sg2'))):zaX kf v v2 sg2=zaX kf v v2' sg2':=zF (body:=fun s:(Int×σ)=>zaa kf v s.1 s.2) h
theorem zfC {σ:Type} {kf:(Rnd σ (List Int))} {v:(List (List Int))} {v2:Int} {sg2:σ} {oo_:(σ⊕σ)} (h:zaa kf v v2 sg2=some (.inr oo_)):zaX kf v v2 sg2=some oo_:=zE (body:=fun s:(Int×σ)=>zaa kf v s.1 s.2) h
def zdJ (sv:(List (List Int))):Option (List (List Int)):=
 some sv
def zJ (f:(List (List Int))) (x:(List Int)):Option ((List (List Int))⊕Empty):=
 app 24 f ([x]:(List (List Int)))>>=fun v2=>
 some (.inl v2)
def zak (v:(List (List Int))):Option (List (List Int)):=
 zaV v (rnd (fun (s:(List (List Int))) (x:(List Int))=>zJ s x)) (.inl [])>>=fun q=>
 match q with
 | .inl u=>(
  some u
 )
 | .inr j=>(
  nomatch j
 )
def zay (v:(List (List Int))):Option (List (List Int)):=
 zak v>>=fun rv=>
 some rv
def zaW (x:(List (List Int))):Option (List (List Int)):=zzt x
def zK (v:(List (List Int))):Option (List (List Int)):=
 zay v>>=fun rv=>
 zaW rv>>=fun rv3=>
 some rv3
def zbN (sv:(List Str)):Option (List Str):=
 nilO sv (
  some []
 ) (
  app 16 ([]:(List Str)) sv>>=fun v=>
  some v
 )
def zcB (sv:(List Int)):Option (List Int):=
 nilO sv (
  some []
 ) (
  app 8 ([]:(List Int)) sv>>=fun v=>
  some v
 )
def zcP (n:Int):Option (List Int):=
 if (decide (n<0)) then (
  none
 ) else (
  if (decide ((IntKind.i64.wrap (n - (IntKind.i64.wrap (0 - 0))))>0)) then (
   mkO 8 (0:Int) (IntKind.i64.wrap (n - (IntKind.i64.wrap (0 - 0)))) (IntKind.i64.wrap (n - (IntKind.i64.wrap (0 - 0))))>>=fun v=>
   cut v 0 0>>=fun v2=>
   some v2
  ) else (
   some []
  )
 )
def zM (slices:(List (List Int))) (size:Int) (v:Int):Option ((Int×Int)⊕Int):=
 if (decide (v<(slices.length:Int))) then (
  idx slices v>>=fun x=>
  if (decide ((IntKind.i64.wrap (size+(x.length:Int)))<0)) then (
   none
  ) else (
   some (.inl ((IntKind.i64.wrap (size+(x.length:Int))),(IntKind.i64.wrap (v+1))))
  )
 ) else (
  some (.inr size)
 )
def zbX (slices:(List (List Int))) (size:Int) (v:Int):Option Int:=zab (fun s:(Int×Int)=>zM slices s.1 s.2) (size,v)
def zZ (slices:(List (List Int))) (newslice:(List Int)) (v2:Int):Option (((List Int)×Int)⊕(List Int)):=
 if (decide (v2<(slices.length:Int))) then (
  idx slices v2>>=fun x2=>
  app 8 newslice x2>>=fun v3=>
  some (.inl (v3,(IntKind.i64.wrap (v2+1))))
 ) else (
  some (.inr newslice)
 )
def zbY (slices:(List (List Int))) (newslice:(List Int)) (v2:Int):Option (List Int):=zab (fun s:((List Int)×Int)=>zZ slices s.1 s.2) (newslice,v2)
def zcu (slices:(List (List Int))):Option (List Int):=
 zbX slices 0 0>>=fun q=>
 zcP q>>=fun rv=>
 zbY slices rv 0>>=fun q2=>
 some q2
theorem zfA {slices:(List (List Int))} {size:Int} {v:Int} {size':Int} {v':Int} (h:zM slices size v=some (.inl (size',v'))):zbX slices size v=zbX slices size' v':=zF (body:=fun s:(Int×Int)=>zM slices s.1 s.2) h
theorem ziW {slices:(List (List Int))} {size:Int} {v:Int} {oo_:Int} (h:zM slices size v=some (.inr oo_)):zbX slices size v=some oo_:=zE (body:=fun s:(Int×Int)=>zM slices s.1 s.2) h
theorem zfB {slices:(List (List Int))} {newslice:(List Int)} {v2:Int} {newslice':(List Int)} {v2':Int} (h:zZ slices newslice v2=some (.inl (newslice',v2'))):zbY slices newslice v2=zbY slices newslice' v2':=zF (body:=fun s:((List Int)×Int)=>zZ slices s.1 s.2) h
theorem ziX {slices:(List (List Int))} {newslice:(List Int)} {v2:Int} {oo_:(List Int)} (h:zZ slices newslice v2=some (.inr oo_)):zbY slices newslice v2=some oo_:=zE (body:=fun s:((List Int)×Int)=>zZ slices s.1 s.2) h
def zcO (n:Int):Option (List Str):=
 if (decide (n<0)) then (
  none
 ) else (
  if (decide ((IntKind.i64.wrap (n - (IntKind.i64.wrap (0 - 0))))>0)) then (
   mkO 16 ([]:Str) (IntKind.i64.wrap (n - (IntKind.i64.wrap (0 - 0)))) (IntKind.i64.wrap (n - (IntKind.i64.wrap (0 - 0))))>>=fun v=>
   cut v 0 0>>=fun v2=>
   some v2
  ) else (
   some []
  )
 )
def zL (slices:(List (List Str))) (size:Int) (v:Int):Option ((Int×Int)⊕Int):=
 if (decide (v<(slices.length:Int))) then (
  idx slices v>>=fun x=>
  if (decide ((IntKind.i64.wrap (size+(x.length:Int)))<0)) then (
   none
  ) else (
   some (.inl ((IntKind.i64.wrap (size+(x.length:Int))),(IntKind.i64.wrap (v+1))))
  )
 ) else (
  some (.inr size)
 )
def zbV (slices:(List (List Str))) (size:Int) (v:Int):Option Int:=zab (fun s:(Int×Int)=>zL slices s.1 s.2) (size,v)
def zY (slices:(List (List Str))) (newslice:(List Str)) (v2:Int):Option (((List Str)×Int)⊕(List Str)):=
 if (decide (v2<(slices.length:Int))) then (
  idx slices v2>>=fun x2=>
  app 16 newslice x2>>=fun v3=>
  some (.inl (v3,(IntKind.i64.wrap (v2+1))))
 ) else (
  some (.inr newslice)
 )
def zbW (slices:(List (List Str))) (newslice:(List Str)) (v2:Int):Option (List Str):=zab (fun s:((List Str)×Int)=>zY slices s.1 s.2) (newslice,v2)
def zbG (slices:(List (List Str))):Option (List Str):=
 zbV slices 0 0>>=fun q=>
 zcO q>>=fun rv=>
 zbW slices rv 0>>=fun q2=>
 some q2
theorem zfy {slices:(List (List Str))} {size:Int} {v:Int} {size':Int} {v':Int} (h:zL slices size v=some (.inl (size',v'))):zbV slices size v=zbV slices size' v':=zF (body:=fun s:(Int×Int)=>zL slices s.1 s.2) h
theorem ziT {slices:(List (List Str))} {size:Int} {v:Int} {oo_:Int} (h:zL slices size v=some (.inr oo_)):zbV slices size v=some oo_:=zE (body:=fun s:(Int×Int)=>zL slices s.1 s.2) h
theorem zfz {slices:(List (List Str))} {newslice:(List Str)} {v2:Int} {newslice':(List Str)} {v2':Int} (h:zY slices newslice v2=some (.inl (newslice',v2'))):zbW slices newslice v2=zbW slices newslice' v2':=zF (body:=fun s:((List Str)×Int)=>zY slices s.1 s.2) h
theorem ziU {slices:(List (List Str))} {newslice:(List Str)} {v2:Int} {oo_:(List Str)} (h:zY slices newslice v2=some (.inr oo_)):zbW slices newslice v2=some oo_:=zE (body:=fun s:((List Str)×Int)=>zY slices s.1 s.2) h
def zkx (wv:Int):Option Int:=
 some (IntKind.u32.wrap wv)
def zkT (wv:Int):Option Int:=
 zkx wv>>=fun rv=>
 some (IntKind.i32.wrap rv)
def zkU (n:Int):Option Int:=
 some (IntKind.u64.wrap (IntKind.i64.wrap n))
def zfK (wv:Int):Option Int:=
 if (decide ((IntKind.i64.wrap (Int.tmod wv 4294967296))>=2147483648)) then (
  some (IntKind.i64.wrap ((IntKind.i64.wrap (Int.tmod wv 4294967296)) - 4294967296))
 ) else (
  some (IntKind.i64.wrap (Int.tmod wv 4294967296))
 )
def zgI (n:Int):Option Int:=
 if (decide (n>=0)) then (
  some (IntKind.u64.wrap n)
 ) else (
  some (IntKind.u64.wrap (18446744073709551615 - (IntKind.u64.wrap (IntKind.i64.wrap (0 - (IntKind.i64.wrap (n+1)))))))
 )
def zde (v:(List UInt8)) (wv:Int) (v2:Int):Option ((Int×Int)⊕(Unit⊕(Int×Int×Int))):=
 if (decide (v2<(v.length:Int))) then (
  idx v v2>>=fun x=>
  if ((v2==9)&&(decide ((x.toNat:Int)>1))) then (
   some (.inr (.inr (0,0,4)))
  ) else (
   shlO .u64 (IntKind.u64.wrap (andI .u8 (x.toNat:Int) 127)) (IntKind.i64.wrap (7*v2))>>=fun v4=>
   if (decide ((x.toNat:Int)<128)) then (
    some (.inr (.inr ((orI .u64 wv v4),(IntKind.i64.wrap (v2+1)),0)))
   ) else (
    some (.inl ((orI .u64 wv v4),(IntKind.i64.wrap (v2+1))))
   )
  )
 ) else (
  some (.inr (.inl ()))
 )
def zhy (v:(List UInt8)) (wv:Int) (v2:Int):Option (Unit⊕(Int×Int×Int)):=zab (fun s:(Int×Int)=>zde v s.1 s.2) (wv,v2)
def zhJ (b:(List UInt8)):Option (Int×Int×Int):=
 cut b 0 (if (10:Int)<(b.length:Int) then 10 else (b.length:Int))>>=fun v=>
 zhy v 0 0>>=fun q=>
 match q with
 | .inl u=>(
  some (0,0,3)
 )
 | .inr u2=>(
  some (u2.1,u2.2.1,u2.2.2)
 )
theorem zsy (h:zde v wv v2=some (.inl (wv',v2'))):zhy v wv v2=zhy v wv' v2':=zF (body:=fun s:(Int×Int)=>zde v s.1 s.2) h
theorem zjH (h:zde v wv v2=some (.inr oo_)):zhy v wv v2=some oo_:=zE (body:=fun s:(Int×Int)=>zde v s.1 s.2) h
def zkR (b2:(List UInt8)) (l:(List Int)):Option (((List UInt8)×(List Int))⊕((List Int)⊕Int)):=
 if (decide ((b2.length:Int)>0)) then (
  zhJ b2>>=fun rv=>
  if (rv.2.2 !=0) then (
   some (.inr (.inr rv.2.2))
  ) else (
   app 8 l ([rv.1]:(List Int))>>=fun v2=>
   cut b2 rv.2.1 (b2.length:Int)>>=fun v3=>
   some (.inl (v3,v2))
  )
 ) else (
  some (.inr (.inl l))
 )
def zrM (b2:(List UInt8)) (l:(List Int)):Option ((List Int)⊕Int):=zab (fun s:((List UInt8)×(List Int))=>zkR s.1 s.2) (b2,l)
theorem ztw (h:zkR b2 l=some (.inr oo_)):zrM b2 l=some oo_:=zE (body:=fun s:((List UInt8)×(List Int))=>zkR s.1 s.2) h
def zaE (atv:Int) (b:(List UInt8)) (n:Int):Option (Int⊕Int):=
 (
  if (decide ((IntKind.i64.wrap (atv+n))<(b.length:Int))) then (
   if (decide (n<10)) then (
    idx b (IntKind.i64.wrap (atv+n))>>=fun x=>
    some (decide ((x.toNat:Int)>=128))
   ) else (
    some false
   )
  ) else (
   some false
  )
 )>>=fun g=>
 if g then (
  some (.inl (IntKind.i64.wrap (n+1)))
 ) else (
  some (.inr n)
 )
def zdT (atv:Int) (b:(List UInt8)) (n:Int):Option Int:=zab (fun s:Int=>zaE atv b s) n
def zbz (atv:Int) (b:(List UInt8)) (wv:Int) (i:Int):Option ((Int×Int)⊕Int):=
 if (decide (i>=0)) then (
  idx b (IntKind.i64.wrap (atv+i))>>=fun x3=>
  some (.inl ((IntKind.u64.wrap ((IntKind.u64.wrap (128*wv))+(IntKind.u64.wrap (Int.tmod (x3.toNat:Int) 128)))),(IntKind.i64.wrap (i - 1))))
 ) else (
  some (.inr wv)
 )
def zdU (atv:Int) (b:(List UInt8)) (wv:Int) (i:Int):Option Int:=zab (fun s:(Int×Int)=>zbz atv b s.1 s.2) (wv,i)
def zer (b:(List UInt8)) (atv:Int):Option (Int×Int×Int):=
 zdT atv b 0>>=fun q=>
 if (q==10) then (
  some (0,0,4)
 ) else (
  if ((IntKind.i64.wrap (atv+q))==(b.length:Int)) then (
   some (0,0,3)
  ) else (
   (
    if (q==9) then (
     idx b (IntKind.i64.wrap (atv+q))>>=fun x2=>
     some (decide ((x2.toNat:Int)>1))
    ) else (
     some false
    )
   )>>=fun g2=>
   if g2 then (
    some (0,0,4)
   ) else (
    zdU atv b 0 q>>=fun q2=>
    some (q2,(IntKind.i64.wrap (q+1)),0)
   )
  )
 )
theorem znv (h:zaE atv b n=some (.inl n')):zdT atv b n=zdT atv b n':=zF (body:=fun s:Int=>zaE atv b s) h
theorem zha (h:zaE atv b n=some (.inr oo_)):zdT atv b n=some oo_:=zE (body:=fun s:Int=>zaE atv b s) h
theorem znw (h:zbz atv b wv i=some (.inl (wv',i'))):zdU atv b wv i=zdU atv b wv' i':=zF (body:=fun s:(Int×Int)=>zbz atv b s.1 s.2) h
theorem znx (h:zbz atv b wv i=some (.inr oo_)):zdU atv b wv i=some oo_:=zE (body:=fun s:(Int×Int)=>zbz atv b s.1 s.2) h
def zlr (b:(List UInt8)):Option (Int×Int):=
 zhJ b>>=fun rv=>
 some (rv.2.1,rv.2.2)
def zjv (wire:Int):Option Bool:=
 if (wire==0) then (
  if (wire==0) then (
   some true
  ) else (
   some false
  )
 ) else (
  if (wire==1) then (
   if (wire==1) then (
    some true
   ) else (
    some false
   )
  ) else (
   if (wire==2) then (
    if (wire==2) then (
     some true
    ) else (
     some false
    )
   ) else (
    if (wire==5) then (
     some true
    ) else (
     some false
    )
   )
  )
 )
def zow (t:zbP):Option Bool:=
 (
  if (decide (t.Number>=1)) then (
   if (decide (t.Number<=536870911)) then (
    zjv t.Wire>>=fun rv=>
    some rv
   ) else (
    some false
   )
  ) else (
   some false
  )
 )>>=fun g=>
 some g
def zqP (b:(List UInt8)):Option (zbP×Int×Int):=
 zhJ b>>=fun rv=>
 if (rv.2.2 !=0) then (
  some ((⟨0,0⟩:zbP),0,rv.2.2)
 ) else (
  zow (⟨(IntKind.i64.wrap (if (536870912:Int)<(shrI .u64 rv.1 3) then 536870912 else (shrI .u64 rv.1 3))),(IntKind.i64.wrap (andI .u64 rv.1 7))⟩:zbP)>>=fun rv2=>
  if (!rv2) then (
   some ((⟨0,0⟩:zbP),0,5)
  ) else (
   some ((⟨(IntKind.i64.wrap (if (536870912:Int)<(shrI .u64 rv.1 3) then 536870912 else (shrI .u64 rv.1 3))),(IntKind.i64.wrap (andI .u64 rv.1 7))⟩:zbP),rv.2.1,0)
  )
 )
def zgd (number:Int) (wire:Int):Option Bool:=
 some ((decide (number>=1))&&((decide (number<=536870911))&&((wire==0)|| ((wire==1)|| ((wire==2)|| (wire==5))))))
def zgJ (b:(List UInt8)) (atv:Int):Option (Int×Int×Int×Int):=
 zer b atv>>=fun rv=>
 if (rv.2.2 !=0) then (
  some (0,0,0,rv.2.2)
 ) else (
  (
   if (decide (rv.1>4294967295)) then (
    some true
   ) else (
    zgd (IntKind.i64.wrap (IntKind.u64.wrap (Int.tdiv rv.1 8))) (IntKind.i64.wrap (Int.tmod rv.1 8))>>=fun rv2=>
    some (!rv2)
   )
  )>>=fun g=>
  if g then (
   some (0,0,0,5)
  ) else (
   some ((IntKind.i64.wrap (IntKind.u64.wrap (Int.tdiv rv.1 8))),(IntKind.i64.wrap (Int.tmod rv.1 8)),rv.2.1,0)
  )
 )
def ztv (c:Int):Option (Int×Int):=
 if ((shrI .u8 c 7)==0) then (
  some (1,(IntKind.u32.wrap c))
 ) else (
  if ((shrI .u8 c 5)==6) then (
   some (2,(IntKind.u32.wrap (andI .u8 c 31)))
  ) else (
   if ((shrI .u8 c 4)==14) then (
    some (3,(IntKind.u32.wrap (andI .u8 c 15)))
   ) else (
    if ((shrI .u8 c 3)==30) then (
     some (4,(IntKind.u32.wrap (andI .u8 c 7)))
    ) else (
     some (0,0)
    )
   )
  )
 )
def zoE (wv:Int):Option Int:=
 if ((shrI .u32 wv 7)==0) then (
  some 1
 ) else (
  if ((shrI .u32 wv 11)==0) then (
   some 2
  ) else (
   if ((shrI .u32 wv 11)==27) then (
    some 0
   ) else (
    if ((shrI .u32 wv 16)==0) then (
     some 3
    ) else (
     if (decide (wv<=1114111)) then (
      some 4
     ) else (
      some 0
     )
    )
   )
  )
 )
def zft (v2:(List UInt8)) (wv:Int) (v3:Int):Option ((Int×Int)⊕(Int⊕Unit)):=
 if (decide (v3<(v2.length:Int))) then (
  idx v2 v3>>=fun x2=>
  if ((shrI .u8 (x2.toNat:Int) 6) !=2) then (
   some (.inr (.inr ()))
  ) else (
   some (.inl ((orI .u32 (shlI .u32 wv 6) (IntKind.u32.wrap (andI .u8 (x2.toNat:Int) 63))),(IntKind.i64.wrap (v3+1))))
  )
 ) else (
  some (.inr (.inl wv))
 )
def zdr (v2:(List UInt8)) (wv:Int) (v3:Int):Option (Int⊕Unit):=zab (fun s:(Int×Int)=>zft v2 s.1 s.2) (wv,v3)
def zoD (b:(List UInt8)):Option Int:=
 if ((b.length:Int)==0) then (
  some 0
 ) else (
  idx b 0>>=fun x=>
  ztv (x.toNat:Int)>>=fun rv=>
  if ((rv.1==0)|| (decide (rv.1>(b.length:Int)))) then (
   some 0
  ) else (
   cut b 1 rv.1>>=fun v2=>
   zdr v2 rv.2 0>>=fun q=>
   match q with
   | .inl u=>(
    zoE u>>=fun rv2=>
    if (rv.1 !=rv2) then (
     some 0
    ) else (
     some rv.1
    )
   )
   | .inr u2=>(
    some 0
   )
  )
 )
theorem zuS (h:zft v2 wv v3=some (.inl (wv',v3'))):zdr v2 wv v3=zdr v2 wv' v3':=zF (body:=fun s:(Int×Int)=>zft v2 s.1 s.2) h
theorem zpw (h:zft v2 wv v3=some (.inr oo_)):zdr v2 wv v3=some oo_:=zE (body:=fun s:(Int×Int)=>zft v2 s.1 s.2) h
def zfV (b:(List UInt8)) (atv:Int) (points:Int) (size:Int):Option ((Int×Int×Int)⊕(Int×Int)):=
 if (decide (size>0)) then (
  cut b (IntKind.i64.wrap (atv+size)) (b.length:Int)>>=fun v=>
  zoD v>>=fun rv2=>
  some (.inl ((IntKind.i64.wrap (atv+size)),(IntKind.i64.wrap (points+1)),rv2))
 ) else (
  some (.inr (atv,points))
 )
def ziL (b:(List UInt8)) (atv:Int) (points:Int) (size:Int):Option (Int×Int):=zab (fun s:(Int×Int×Int)=>zfV b s.1 s.2.1 s.2.2) (atv,points,size)
def zqW (b:(List UInt8)):Option (Int×Int):=
 zoD b>>=fun rv=>
 ziL b 0 0 rv>>=fun q=>
 some (q.1,q.2)
theorem zuT (h:zfV b atv points size=some (.inl (atv',points',size'))):ziL b atv points size=ziL b atv' points' size':=zF (body:=fun s:(Int×Int×Int)=>zfV b s.1 s.2.1 s.2.2) h
theorem zuU (h:zfV b atv points size=some (.inr oo_)):ziL b atv points size=some oo_:=zE (body:=fun s:(Int×Int×Int)=>zfV b s.1 s.2.1 s.2.2) h
def zoB (b:(List UInt8)):Option Int:=
 zqW b>>=fun rv=>
 some rv.1
def zoC (b:(List UInt8)):Option Bool:=
 zoB b>>=fun rv=>
 some (rv==(b.length:Int))
def zho (rv:Int):Option (List UInt8):=
 if ((decide (rv<0))|| ((decide (rv>1114111))|| ((decide (rv>=55296))&&(decide (rv<=57343))))) then (
  some []
 ) else (
  if (decide (rv<128)) then (
   zlA (IntKind.u8.wrap rv)>>=fun y=>
   some ([y]:List UInt8)
  ) else (
   if (decide (rv<2048)) then (
    zlA (IntKind.u8.wrap (IntKind.i64.wrap (192+(IntKind.i64.wrap (Int.tdiv rv 64)))))>>=fun y2=>
    zlA (IntKind.u8.wrap (IntKind.i64.wrap (128+(Int.tmod rv 64))))>>=fun y3=>
    some ([y2,y3]:List UInt8)
   ) else (
    if (decide (rv<65536)) then (
     zlA (IntKind.u8.wrap (IntKind.i64.wrap (224+(IntKind.i64.wrap (Int.tdiv rv 4096)))))>>=fun y4=>
     zlA (IntKind.u8.wrap (IntKind.i64.wrap (128+(Int.tmod (IntKind.i64.wrap (Int.tdiv rv 64)) 64))))>>=fun y5=>
     zlA (IntKind.u8.wrap (IntKind.i64.wrap (128+(Int.tmod rv 64))))>>=fun y6=>
     some ([y4,y5,y6]:List UInt8)
    ) else (
     zlA (IntKind.u8.wrap (IntKind.i64.wrap (240+(IntKind.i64.wrap (Int.tdiv rv 262144)))))>>=fun y7=>
     zlA (IntKind.u8.wrap (IntKind.i64.wrap (128+(Int.tmod (IntKind.i64.wrap (Int.tdiv rv 4096)) 64))))>>=fun y8=>
     zlA (IntKind.u8.wrap (IntKind.i64.wrap (128+(Int.tmod (IntKind.i64.wrap (Int.tdiv rv 64)) 64))))>>=fun y9=>
     zlA (IntKind.u8.wrap (IntKind.i64.wrap (128+(Int.tmod rv 64))))>>=fun y10=>
     some ([y7,y8,y9,y10]:List UInt8)
    )
   )
  )
 )
def zbB (atv:Int) (b:(List UInt8)) (n:Int) (rv2:Int) (i:Int):Option ((Int×Int)⊕Int):=
 if (decide (i<n)) then (
  idx b (IntKind.i64.wrap (atv+i))>>=fun x3=>
  some (.inl ((IntKind.i64.wrap ((IntKind.i64.wrap (64*rv2))+(Int.tmod (IntKind.i64.wrap (x3.toNat:Int)) 64))),(IntKind.i64.wrap (i+1))))
 ) else (
  some (.inr rv2)
 )
def zce (atv:Int) (b:(List UInt8)) (n:Int) (rv2:Int) (i:Int):Option Int:=zab (fun s:(Int×Int)=>zbB atv b n s.1 s.2) (rv2,i)
def zbA (atv:Int) (b:(List UInt8)) (n:Int):Option (Int⊕(Unit⊕Int)):=
 if ((decide (n<=4))&&(decide ((IntKind.i64.wrap (atv+n))<=(b.length:Int)))) then (
  idx b atv>>=fun x=>
  ((
   if (decide (n>1)) then (
    idx ([0,0,32,16,8]:(List Int)) n>>=fun x2=>
    remI (IntKind.i64.wrap (x.toNat:Int)) x2>>=fun v3=>
    some v3
   ) else (
    some (IntKind.i64.wrap (x.toNat:Int))
   )
   :Option Int))>>=fun p=>
  zce atv b n p 1>>=fun q=>
  zho q>>=fun rv4=>
  cut b atv (IntKind.i64.wrap (atv+n))>>=fun v4=>
  if (rv4==v4) then (
   some (.inr (.inr n))
  ) else (
   some (.inl (IntKind.i64.wrap (n+1)))
  )
 ) else (
  some (.inr (.inl ()))
 )
def zdV (atv:Int) (b:(List UInt8)) (n:Int):Option (Unit⊕Int):=zab (fun s:Int=>zbA atv b s) n
def zgK (b:(List UInt8)) (atv:Int):Option Int:=
 zdV atv b 1>>=fun q2=>
 match q2 with
 | .inl u=>(
  some 0
 )
 | .inr u2=>(
  some u2
 )
theorem znz (h:zbB atv b n rv2 i=some (.inl (rv2',i'))):zce atv b n rv2 i=zce atv b n rv2' i':=zF (body:=fun s:(Int×Int)=>zbB atv b n s.1 s.2) h
theorem znA (h:zbB atv b n rv2 i=some (.inr oo_)):zce atv b n rv2 i=some oo_:=zE (body:=fun s:(Int×Int)=>zbB atv b n s.1 s.2) h
theorem zny (h:zbA atv b n=some (.inl n')):zdV atv b n=zdV atv b n':=zF (body:=fun s:Int=>zbA atv b s) h
theorem zhb (h:zbA atv b n=some (.inr oo_)):zdV atv b n=some oo_:=zE (body:=fun s:Int=>zbA atv b s) h
def zbl (b:(List UInt8)) (most:Int) (atv:Int) (count:Int):Option ((Int×Int)⊕(Int×Int)):=
 zgK b atv>>=fun rv=>
 if ((rv==0)|| (decide ((IntKind.i64.wrap (atv+rv))>most))) then (
  some (.inr (atv,count))
 ) else (
  some (.inl ((IntKind.i64.wrap (atv+rv)),(IntKind.i64.wrap (count+1))))
 )
def zcT (b:(List UInt8)) (most:Int) (atv:Int) (count:Int):Option (Int×Int):=zab (fun s:(Int×Int)=>zbl b most s.1 s.2) (atv,count)
def zge (b:(List UInt8)) (most:Int):Option (Int×Int):=
 zcT b most 0 0>>=fun q=>
 some (q.1,q.2)
theorem zmI (h:zbl b most atv count=some (.inl (atv',count'))):zcT b most atv count=zcT b most atv' count':=zF (body:=fun s:(Int×Int)=>zbl b most s.1 s.2) h
theorem zmJ (h:zbl b most atv count=some (.inr oo_)):zcT b most atv count=some oo_:=zE (body:=fun s:(Int×Int)=>zbl b most s.1 s.2) h
def zgf (b:(List UInt8)):Option Bool:=
 zge b (b.length:Int)>>=fun rv=>
 some (rv.1==(b.length:Int))
def zlk (wire:Int) (b:(List UInt8)):Option (Int×Int×Int):=
 if (wire==0) then (
  zlr b>>=fun rv=>
  some (0,rv.1,rv.2)
 ) else (
  ((
   if (wire==1) then (
    some (0,0,8)
   ) else (
    if (wire==5) then (
     some (0,0,4)
    ) else (
     if (wire==2) then (
      zhJ b>>=fun rv2=>
      some (rv2.2.1,rv2.2.2,rv2.1)
     ) else (
      some (0,0,0)
     )
    )
   )
   :Option (Int×Int×Int)))>>=fun p=>
  if (p.2.1 !=0) then (
   some (0,0,p.2.1)
  ) else (
   if (decide (p.2.2>(IntKind.u64.wrap (IntKind.i64.wrap ((b.length:Int) - p.1))))) then (
    some (0,0,3)
   ) else (
    some (p.1,(IntKind.i64.wrap (p.1+(IntKind.i64.wrap p.2.2))),0)
   )
  )
 )
def zlj (b:(List UInt8)) (fromv:Int):Option (zz×Int):=
 if ((decide (fromv<0))|| (decide (fromv>=(b.length:Int)))) then (
  some ((⟨0,0,0,0,0⟩:zz),2)
 ) else (
  cut b fromv (b.length:Int)>>=fun v2=>
  zqP v2>>=fun rv=>
  if (rv.2.2 !=0) then (
   some ((⟨0,0,0,0,0⟩:zz),rv.2.2)
  ) else (
   cut b (IntKind.i64.wrap (fromv+rv.2.1)) (b.length:Int)>>=fun v3=>
   zlk rv.1.Wire v3>>=fun rv2=>
   if (rv2.2.2 !=0) then (
    some ((⟨0,0,0,0,0⟩:zz),rv2.2.2)
   ) else (
    some ((⟨rv.1.Number,rv.1.Wire,fromv,(IntKind.i64.wrap ((IntKind.i64.wrap (fromv+rv.2.1))+rv2.1)),(IntKind.i64.wrap ((IntKind.i64.wrap (fromv+rv.2.1))+rv2.2.1))⟩:zz),0)
   )
  )
 )
def zgL (b:(List UInt8)) (fromv:Int):Option (zz×Int):=
 if ((decide (fromv<0))|| (decide (fromv>=(b.length:Int)))) then (
  some ((⟨0,0,0,0,0⟩:zz),2)
 ) else (
  zgJ b fromv>>=fun rv=>
  if (rv.2.2.2 !=0) then (
   some ((⟨0,0,0,0,0⟩:zz),rv.2.2.2)
  ) else (
   ((
    if (rv.2.1==5) then (
     some 4
    ) else (
     some 8
    )
    :Option Int))>>=fun p=>
   ((
    if (rv.2.1==0) then (
     zer b (IntKind.i64.wrap (fromv+rv.2.2.1))>>=fun rv2=>
     if (rv2.2.2 !=0) then (
      some (.inr rv2.2.2)
     ) else (
      some (.inl rv2.2.1)
     )
    ) else (
     some (.inl p)
    )
    :Option (Int⊕Int)))>>=fun p2=>
   match p2 with
   | .inl u=>(
    ((
     if (rv.2.1==2) then (
      zer b (IntKind.i64.wrap (fromv+rv.2.2.1))>>=fun rv3=>
      if (rv3.2.2 !=0) then (
       some (.inr rv3.2.2)
      ) else (
       if (decide (rv3.1>(IntKind.u64.wrap (IntKind.i64.wrap ((IntKind.i64.wrap ((b.length:Int) - (IntKind.i64.wrap (fromv+rv.2.2.1)))) - rv3.2.1))))) then (
        some (.inr 3)
       ) else (
        some (.inl ((IntKind.i64.wrap ((IntKind.i64.wrap ((b.length:Int) - (IntKind.i64.wrap (fromv+rv.2.2.1)))) - rv3.2.1)),(IntKind.i64.wrap rv3.1),(IntKind.i64.wrap ((IntKind.i64.wrap (fromv+rv.2.2.1))+rv3.2.1))))
       )
      )
     ) else (
      some (.inl ((IntKind.i64.wrap ((b.length:Int) - (IntKind.i64.wrap (fromv+rv.2.2.1)))),u,(IntKind.i64.wrap (fromv+rv.2.2.1))))
     )
     :Option ((Int×Int×Int)⊕Int)))>>=fun p3=>
    match p3 with
    | .inl u2=>(
     if (decide (u2.2.1>u2.1)) then (
      some ((⟨0,0,0,0,0⟩:zz),3)
     ) else (
      some ((⟨rv.1,rv.2.1,fromv,u2.2.2,(IntKind.i64.wrap (u2.2.2+u2.2.1))⟩:zz),0)
     )
    )
    | .inr u3=>(
     some ((⟨0,0,0,0,0⟩:zz),u3)
    )
   )
   | .inr u4=>(
    some ((⟨0,0,0,0,0⟩:zz),u4)
   )
  )
 )
def zoZ (wv:Int):Option Int:=
 some (if (1:Int)<wv then 1 else wv)
def zmn (k:Int) (wv:Int):Option (Int×Int):=
 ((
  if (k==1) then (
   some (k==1)
  ) else (
   some (k==8)
  )
  :Option Bool))>>=fun p=>
 if p then (
  zkT wv>>=fun rv=>
  zkU rv>>=fun rv2=>
  some (rv2,0)
 ) else (
  ((
   if (k==3) then (
    some (k==3)
   ) else (
    if (k==5) then (
     some (k==5)
    ) else (
     if (k==9) then (
      some (k==9)
     ) else (
      if (k==10) then (
       some (k==10)
      ) else (
       some (k==11)
      )
     )
    )
   )
   :Option Bool))>>=fun p2=>
  if p2 then (
   zkx wv>>=fun rv3=>
   some ((IntKind.u64.wrap rv3),0)
  ) else (
   if (k==7) then (
    zoZ wv>>=fun rv4=>
    some (rv4,0)
   ) else (
    ((
     if (k==2) then (
      some (k==2)
     ) else (
      if (k==4) then (
       some (k==4)
      ) else (
       if (k==6) then (
        some (k==6)
       ) else (
        if (k==12) then (
         some (k==12)
        ) else (
         if (k==13) then (
          some (k==13)
         ) else (
          some (k==14)
         )
        )
       )
      )
     )
     :Option Bool))>>=fun p3=>
    if p3 then (
     some (wv,0)
    ) else (
     some (0,2)
    )
   )
  )
 )
def zmo:Option (List (Int×zv)):=
 some (mput (mput (mput (mput (mput (mput (mput (mput (mput (mput (mput (mput (mput (mput (mput (mput (mput ([]:(List (Int×zv))) 1 (⟨[105,110,116,51,50],0⟩:zv)) 2 (⟨[105,110,116,54,52],0⟩:zv)) 3 (⟨[117,105,110,116,51,50],0⟩:zv)) 4 (⟨[117,105,110,116,54,52],0⟩:zv)) 5 (⟨[115,105,110,116,51,50],0⟩:zv)) 6 (⟨[115,105,110,116,54,52],0⟩:zv)) 7 (⟨[98,111,111,108],0⟩:zv)) 8 (⟨[101,110,117,109],0⟩:zv)) 9 (⟨[102,105,120,101,100,51,50],5⟩:zv)) 10 (⟨[115,102,105,120,101,100,51,50],5⟩:zv)) 11 (⟨[102,108,111,97,116],5⟩:zv)) 12 (⟨[102,105,120,101,100,54,52],1⟩:zv)) 13 (⟨[115,102,105,120,101,100,54,52],1⟩:zv)) 14 (⟨[100,111,117,98,108,101],1⟩:zv)) 15 (⟨[115,116,114,105,110,103],2⟩:zv)) 16 (⟨[98,121,116,101,115],2⟩:zv)) 17 (⟨[109,101,115,115,97,103,101],2⟩:zv))
def zqs:Option (List Int):=
 zmo>>=fun rv=>
 zvY rv>>=fun v=>
 some v
def zol (k:Int):Option (Int×Int):=
 zmo>>=fun rv=>
 if (!(mget rv k).isSome) then (
  some (0,2)
 ) else (
  some (((mget rv k).getD (⟨[],0⟩:zv)).wire,0)
 )
def zcJ (k:Int):Option Bool:=
 some ((decide (k>=1))&&(decide (k<=17)))
def zlg (k:Int):Option Bool:=
 zol k>>=fun rv=>
 some ((rv.2==0)&&(rv.1 !=2))
def zdn (k:Int):Option Bool:=
 some ((decide (k>=1))&&(decide (k<=14)))
def zgg (k:Int) (wv:Int):Option Int:=
 ((
  if (k==1) then (
   some (k==1)
  ) else (
   some (k==8)
  )
  :Option Bool))>>=fun p=>
 if p then (
  zfK wv>>=fun rv=>
  zgI rv>>=fun rv2=>
  some rv2
 ) else (
  ((
   if (k==3) then (
    some (k==3)
   ) else (
    if (k==5) then (
     some (k==5)
    ) else (
     if (k==9) then (
      some (k==9)
     ) else (
      if (k==10) then (
       some (k==10)
      ) else (
       some (k==11)
      )
     )
    )
   )
   :Option Bool))>>=fun p2=>
  if p2 then (
   some (Int.tmod wv 4294967296)
  ) else (
   if (k==7) then (
    if (decide (wv>0)) then (
     some 1
    ) else (
     some 0
    )
   ) else (
    some wv
   )
  )
 )
def zhs (c:Int):Option Bool:=
 some ((decide (c>=48))&&(decide (c<=57)))
def zhY (c:Int):Option Bool:=
 some (if (decide (c>=97)) then ((decide (c<=122))|| (if (decide (c>=65)) then ((decide (c<=90))|| (c==95)) else (c==95))) else (if (decide (c>=65)) then ((decide (c<=90))|| (c==95)) else (c==95)))
def zct (name:Str) (v2:Int):Option (Int⊕(Unit⊕Unit)):=
 if (decide (v2<(name.length:Int))) then (
  (
   idx name v2>>=fun c2=>
   zhY (c2.toNat:Int)>>=fun rv2=>
   if (!rv2) then (
    idx name v2>>=fun c3=>
    zhs (c3.toNat:Int)>>=fun rv3=>
    some (!rv3)
   ) else (
    some false
   )
  )>>=fun g2=>
  if g2 then (
   some (.inr (.inr ()))
  ) else (
   some (.inl (IntKind.i64.wrap (v2+1)))
  )
 ) else (
  some (.inr (.inl ()))
 )
def zfY (name:Str) (v2:Int):Option (Unit⊕Unit):=zab (fun s:Int=>zct name s) v2
def zij (name:Str):Option Bool:=
 (
  if (name==[]) then (
   some true
  ) else (
   if (decide ((name.length:Int)>60)) then (
    some true
   ) else (
    idx name 0>>=fun c=>
    zhs (c.toNat:Int)>>=fun rv=>
    some rv
   )
  )
 )>>=fun g=>
 if g then (
  some false
 ) else (
  zfY name 0>>=fun q=>
  match q with
  | .inl u=>(
   some true
  )
  | .inr u2=>(
   some false
  )
 )
theorem zqN (h:zct name v2=some (.inl v2')):zfY name v2=zfY name v2':=zF (body:=fun s:Int=>zct name s) h
theorem zln (h:zct name v2=some (.inr oo_)):zfY name v2=some oo_:=zE (body:=fun s:Int=>zct name s) h
def zhZ (n:Int):Option Bool:=
 some ((decide (n>=1))&&((decide (n<=536870911))&&((decide (n<19000))|| (decide (n>19999)))))
def ziE (f:ze):Option Bool:=
 (
  if f.Repeated then (
   zlg f.Kind>>=fun rv=>
   some rv
  ) else (
   some false
  )
 )>>=fun g=>
 some g
def zgq (c:zaY) (f:ze):Option Bool:=
 if (f.Kind==17) then (
  some ((decide (f.Of>=0))&&(decide (f.Of<c.size)))
 ) else (
  some (f.Of==0)
 )
def zgp (c:zaY) (message:Int) (f:ze):Option (Int×(List (zm×Bool))×(List (zn×Bool))):=
 zij f.Name>>=fun rv=>
 if (!rv) then (
  some (5,c.names,c.numbers)
 ) else (
  if ((mget c.names (⟨message,f.Name⟩:zm)).getD false) then (
   some (6,c.names,c.numbers)
  ) else (
   zhZ f.Number>>=fun rv2=>
   if (!rv2) then (
    some (7,c.names,c.numbers)
   ) else (
    if ((mget c.numbers (⟨message,f.Number⟩:zn)).getD false) then (
     some (8,c.names,c.numbers)
    ) else (
     zdc c.kinds f.Kind>>=fun rv3=>
     if (!rv3) then (
      some (9,c.names,c.numbers)
     ) else (
      (
       if f.Packed then (
        ziE f>>=fun rv4=>
        some (!rv4)
       ) else (
        some false
       )
      )>>=fun g=>
      if g then (
       some (10,c.names,c.numbers)
      ) else (
       zgq c f>>=fun rv5=>
       if (!rv5) then (
        some (11,c.names,c.numbers)
       ) else (
        some (0,(mput c.names (⟨message,f.Name⟩:zm) true),(mput c.numbers (⟨message,f.Number⟩:zn) true))
       )
      )
     )
    )
   )
  )
 )
def zfq (c:zaY) (m:zg):Option (Int×(List (zm×Bool))×(List (zn×Bool))):=
 zij m.Name>>=fun rv=>
 if (!rv) then (
  some (2,c.names,c.numbers)
 ) else (
  if ((mget c.names (⟨(-1),m.Name⟩:zm)).getD false) then (
   some (3,c.names,c.numbers)
  ) else (
   if (decide ((m.Fields.length:Int)>200)) then (
    some (4,c.names,c.numbers)
   ) else (
    some (0,(mput c.names (⟨(-1),m.Name⟩:zm) true),c.numbers)
   )
  )
 )
def zbS (i:Int) (sv:(List zg)) (n3:Int) (k:Int):Option ((Int×Int)⊕Int):=
 idx sv i>>=fun x3=>
 if (decide (k<(x3.Fields.length:Int))) then (
  idx sv i>>=fun x4=>
  idx x4.Fields k>>=fun x5=>
  some (.inl ((IntKind.i64.wrap (n3+(IntKind.i64.wrap (Int.tdiv (x5.Name.length:Int) 100)))),(IntKind.i64.wrap (k+1))))
 ) else (
  some (.inr n3)
 )
def zeC (i:Int) (sv:(List zg)) (n3:Int) (k:Int):Option Int:=zab (fun s:(Int×Int)=>zbS i sv s.1 s.2) (n3,k)
def zbR (sv:(List zg)) (n:Int) (i:Int):Option ((Int×Int)⊕Int):=
 if (decide (i<(sv.length:Int))) then (
  idx sv i>>=fun x=>
  idx sv i>>=fun x2=>
  zeC i sv (IntKind.i64.wrap ((IntKind.i64.wrap ((IntKind.i64.wrap (n+1))+(IntKind.i64.wrap (Int.tdiv (x.Name.length:Int) 100))))+(x2.Fields.length:Int))) 0>>=fun q=>
  some (.inl (q,(IntKind.i64.wrap (i+1))))
 ) else (
  some (.inr n)
 )
def zeA (sv:(List zg)) (n:Int) (i:Int):Option Int:=zab (fun s:(Int×Int)=>zbR sv s.1 s.2) (n,i)
def zhm (sv:(List zg)):Option Bool:=
 zeA sv 0 0>>=fun q2=>
 some (decide (q2<=500))
theorem zof (h:zbS i sv n3 k=some (.inl (n3',k'))):zeC i sv n3 k=zeC i sv n3' k':=zF (body:=fun s:(Int×Int)=>zbS i sv s.1 s.2) h
theorem zog (h:zbS i sv n3 k=some (.inr oo_)):zeC i sv n3 k=some oo_:=zE (body:=fun s:(Int×Int)=>zbS i sv s.1 s.2) h
theorem zod (h:zbR sv n i=some (.inl (n',i'))):zeA sv n i=zeA sv n' i':=zF (body:=fun s:(Int×Int)=>zbR sv s.1 s.2) h
theorem zoe (h:zbR sv n i=some (.inr oo_)):zeA sv n i=some oo_:=zE (body:=fun s:(Int×Int)=>zbR sv s.1 s.2) h
def zcp (rv:(List Int)) (sv:(List zg)) (v2:Int) (x:zg) (v3:Int) (f6:(List (zm×Bool))) (f7:(List (zn×Bool))):Option ((Int×(List (zm×Bool))×(List (zn×Bool)))⊕(((List (zm×Bool))×(List (zn×Bool)))⊕(Int×Int))):=
 if (decide (v3<(x.Fields.length:Int))) then (
  idx x.Fields v3>>=fun x2=>
  zgp (⟨(sv.length:Int),rv,f6,f7⟩:zaY) v2 x2>>=fun rv5=>
  if (rv5.1 !=0) then (
   some (.inr (.inr (v3,rv5.1)))
  ) else (
   some (.inl ((IntKind.i64.wrap (v3+1)),rv5.2.1,rv5.2.2))
  )
 ) else (
  some (.inr (.inl (f6,f7)))
 )
def zeL (rv:(List Int)) (sv:(List zg)) (v2:Int) (x:zg) (v3:Int) (f6:(List (zm×Bool))) (f7:(List (zn×Bool))):Option (((List (zm×Bool))×(List (zn×Bool)))⊕(Int×Int)):=zab (fun s:(Int×(List (zm×Bool))×(List (zn×Bool)))=>zcp rv sv v2 x s.1 s.2.1 s.2.2) (v3,f6,f7)
def zbo (rv:(List Int)) (sv:(List zg)) (v2:Int) (f:(List (zm×Bool))) (f2:(List (zn×Bool))):Option ((Int×(List (zm×Bool))×(List (zn×Bool)))⊕(Unit⊕(Int×Int×Int))):=
 if (decide (v2<(sv.length:Int))) then (
  idx sv v2>>=fun x=>
  zfq (⟨(sv.length:Int),rv,f,f2⟩:zaY) x>>=fun rv3=>
  if (rv3.1 !=0) then (
   some (.inr (.inr (v2,(-1),rv3.1)))
  ) else (
   zeL rv sv v2 x 0 rv3.2.1 rv3.2.2>>=fun q=>
   match q with
   | .inl u=>(
    some (.inl ((IntKind.i64.wrap (v2+1)),u.1,u.2))
   )
   | .inr u2=>(
    some (.inr (.inr (v2,u2.1,u2.2)))
   )
  )
 ) else (
  some (.inr (.inl ()))
 )
def zgE (rv:(List Int)) (sv:(List zg)) (v2:Int) (f:(List (zm×Bool))) (f2:(List (zn×Bool))):Option (Unit⊕(Int×Int×Int)):=zab (fun s:(Int×(List (zm×Bool))×(List (zn×Bool)))=>zbo rv sv s.1 s.2.1 s.2.2) (v2,f,f2)
def zkf (sv:(List zg)):Option (zbw×Int):=
 if ((decide ((sv.length:Int)<1))|| (decide ((sv.length:Int)>100))) then (
  some ((⟨(-1),(-1),1⟩:zbw),9)
 ) else (
  zqs>>=fun rv=>
  zgE rv sv 0 ([]:(List (zm×Bool))) ([]:(List (zn×Bool)))>>=fun q2=>
  match q2 with
  | .inl u3=>(
   some ((⟨0,0,0⟩:zbw),0)
  )
  | .inr u4=>(
   some ((⟨u4.1,u4.2.1,u4.2.2⟩:zbw),9)
  )
 )
theorem zrF (h:zcp rv sv v2 x v3 f6 f7=some (.inl (v3',f6',f7'))):zeL rv sv v2 x v3 f6 f7=zeL rv sv v2 x v3' f6' f7':=zF (body:=fun s:(Int×(List (zm×Bool))×(List (zn×Bool)))=>zcp rv sv v2 x s.1 s.2.1 s.2.2) h
theorem zlE (h:zcp rv sv v2 x v3 f6 f7=some (.inr oo_)):zeL rv sv v2 x v3 f6 f7=some oo_:=zE (body:=fun s:(Int×(List (zm×Bool))×(List (zn×Bool)))=>zcp rv sv v2 x s.1 s.2.1 s.2.2) h
theorem zrE (h:zbo rv sv v2 f f2=some (.inl (v2',f',f2'))):zgE rv sv v2 f f2=zgE rv sv v2' f' f2':=zF (body:=fun s:(Int×(List (zm×Bool))×(List (zn×Bool)))=>zbo rv sv s.1 s.2.1 s.2.2) h
theorem zfQ (h:zbo rv sv v2 f f2=some (.inr oo_)):zgE rv sv v2 f f2=some oo_:=zE (body:=fun s:(Int×(List (zm×Bool))×(List (zn×Bool)))=>zbo rv sv s.1 s.2.1 s.2.2) h
def ziS (sv:(List zg)):Option Bool:=
 zkf sv>>=fun rv=>
 some (rv.2==0)
def zbc (sv:Str) (i:Int):Option (Int⊕(Unit⊕Unit)):=
 if (decide (i<(sv.length:Int))) then (
  idx sv i>>=fun c=>
  if (!(if (decide ((c.toNat:Int)>=65)) then ((decide ((c.toNat:Int)<=90))|| (if (decide ((c.toNat:Int)>=97)) then ((decide ((c.toNat:Int)<=122))|| (((c.toNat:Int)==95)|| ((decide (i>0))&&((decide ((c.toNat:Int)>=48))&&(decide ((c.toNat:Int)<=57)))))) else (((c.toNat:Int)==95)|| ((decide (i>0))&&((decide ((c.toNat:Int)>=48))&&(decide ((c.toNat:Int)<=57))))))) else (if (decide ((c.toNat:Int)>=97)) then ((decide ((c.toNat:Int)<=122))|| (((c.toNat:Int)==95)|| ((decide (i>0))&&((decide ((c.toNat:Int)>=48))&&(decide ((c.toNat:Int)<=57)))))) else (((c.toNat:Int)==95)|| ((decide (i>0))&&((decide ((c.toNat:Int)>=48))&&(decide ((c.toNat:Int)<=57)))))))) then (
   some (.inr (.inr ()))
  ) else (
   some (.inl (IntKind.i64.wrap (i+1)))
  )
 ) else (
  some (.inr (.inl ()))
 )
def zdW (sv:Str) (i:Int):Option (Unit⊕Unit):=zab (fun s:Int=>zbc sv s) i
def zfu (sv:Str):Option Bool:=
 zdW sv 0>>=fun q=>
 match q with
 | .inl u=>(
  some ((decide ((sv.length:Int)>=1))&&(decide ((sv.length:Int)<=60)))
 )
 | .inr u2=>(
  some false
 )
theorem znB (h:zbc sv i=some (.inl i')):zdW sv i=zdW sv i':=zF (body:=fun s:Int=>zbc sv s) h
theorem zjo (h:zbc sv i=some (.inr oo_)):zdW sv i=some oo_:=zE (body:=fun s:Int=>zbc sv s) h
def zbn (i:Int) (k:Int) (sv:(List zg)) (x2:ze) (name:Bool) (number:Bool) (j:Int):Option ((Bool×Bool×Int)⊕(Bool×Bool)):=
 if (decide (j<k)) then (
  (
   if name then (
    some true
   ) else (
    idx sv i>>=fun x3=>
    idx x3.Fields j>>=fun x4=>
    some (x4.Name==x2.Name)
   )
  )>>=fun g=>
  (
   if number then (
    some true
   ) else (
    idx sv i>>=fun x5=>
    idx x5.Fields j>>=fun x6=>
    some (x6.Number==x2.Number)
   )
  )>>=fun g2=>
  some (.inl (g,g2,(IntKind.i64.wrap (j+1))))
 ) else (
  some (.inr (name,number))
 )
def zdv (i:Int) (k:Int) (sv:(List zg)) (x2:ze) (name:Bool) (number:Bool) (j:Int):Option (Bool×Bool):=zab (fun s:(Bool×Bool×Int)=>zbn i k sv x2 s.1 s.2.1 s.2.2) (name,number,j)
def zgi (sv:(List zg)) (i:Int) (k:Int):Option Int:=
 idx sv i>>=fun x=>
 idx x.Fields k>>=fun x2=>
 zdv i k sv x2 false false 0>>=fun q=>
 zfu x2.Name>>=fun rv=>
 if (!rv) then (
  some 5
 ) else (
  if q.1 then (
   some 6
  ) else (
   if ((decide (x2.Number<1))|| ((decide (x2.Number>536870911))|| ((decide (x2.Number>=19000))&&(decide (x2.Number<20000))))) then (
    some 7
   ) else (
    if q.2 then (
     some 8
    ) else (
     zcJ x2.Kind>>=fun rv2=>
     if (!rv2) then (
      some 9
     ) else (
      (
       if x2.Packed then (
        if x2.Repeated then (
         zdn x2.Kind>>=fun rv3=>
         some (!rv3)
        ) else (
         some (!false)
        )
       ) else (
        some false
       )
      )>>=fun g3=>
      if g3 then (
       some 10
      ) else (
       if (if (x2.Kind==17) then ((decide (x2.Of<0))|| ((decide (x2.Of>=(sv.length:Int)))|| ((x2.Kind !=17)&&(x2.Of !=0)))) else ((x2.Kind !=17)&&(x2.Of !=0))) then (
        some 11
       ) else (
        some 0
       )
      )
     )
    )
   )
  )
 )
theorem zmO (h:zbn i k sv x2 name number j=some (.inl (name',number',j'))):zdv i k sv x2 name number j=zdv i k sv x2 name' number' j':=zF (body:=fun s:(Bool×Bool×Int)=>zbn i k sv x2 s.1 s.2.1 s.2.2) h
theorem zmP (h:zbn i k sv x2 name number j=some (.inr oo_)):zdv i k sv x2 name number j=some oo_:=zE (body:=fun s:(Bool×Bool×Int)=>zbn i k sv x2 s.1 s.2.1 s.2.2) h
def zbm (i:Int) (sv:(List zg)) (twice:Bool) (k:Int):Option ((Bool×Int)⊕Bool):=
 if (decide (k<i)) then (
  (
   if twice then (
    some true
   ) else (
    idx sv k>>=fun x=>
    idx sv i>>=fun x2=>
    some (x.Name==x2.Name)
   )
  )>>=fun g=>
  some (.inl (g,(IntKind.i64.wrap (k+1))))
 ) else (
  some (.inr twice)
 )
def zdt (i:Int) (sv:(List zg)) (twice:Bool) (k:Int):Option Bool:=zab (fun s:(Bool×Int)=>zbm i sv s.1 s.2) (twice,k)
def zaN (i:Int) (sv:(List zg)) (k2:Int):Option (Int⊕(Unit⊕(Int×Int))):=
 idx sv i>>=fun x5=>
 if (decide (k2<(x5.Fields.length:Int))) then (
  zgi sv i k2>>=fun rv2=>
  if (decide (rv2>0)) then (
   some (.inr (.inr (k2,rv2)))
  ) else (
   some (.inl (IntKind.i64.wrap (k2+1)))
  )
 ) else (
  some (.inr (.inl ()))
 )
def zdu (i:Int) (sv:(List zg)) (k2:Int):Option (Unit⊕(Int×Int)):=zab (fun s:Int=>zaN i sv s) k2
def zaM (sv:(List zg)) (i:Int):Option (Int⊕(Unit⊕(Int×Int×Int))):=
 if (decide (i<(sv.length:Int))) then (
  zdt i sv false 0>>=fun q=>
  idx sv i>>=fun x3=>
  zfu x3.Name>>=fun rv=>
  if (!rv) then (
   some (.inr (.inr (i,(-1),2)))
  ) else (
   if q then (
    some (.inr (.inr (i,(-1),3)))
   ) else (
    idx sv i>>=fun x4=>
    if (decide ((x4.Fields.length:Int)>200)) then (
     some (.inr (.inr (i,(-1),4)))
    ) else (
     zdu i sv 0>>=fun q2=>
     match q2 with
     | .inl u=>(
      some (.inl (IntKind.i64.wrap (i+1)))
     )
     | .inr u2=>(
      some (.inr (.inr (i,u2.1,u2.2)))
     )
    )
   )
  )
 ) else (
  some (.inr (.inl ()))
 )
def zds (sv:(List zg)) (i:Int):Option (Unit⊕(Int×Int×Int)):=zab (fun s:Int=>zaM sv s) i
def zgh (sv:(List zg)):Option (Int×Int×Int):=
 if (((sv.length:Int)==0)|| (decide ((sv.length:Int)>100))) then (
  some ((-1),(-1),1)
 ) else (
  zds sv 0>>=fun q3=>
  match q3 with
  | .inl u3=>(
   some (0,0,0)
  )
  | .inr u4=>(
   some (u4.1,u4.2.1,u4.2.2)
  )
 )
theorem zmL (h:zbm i sv twice k=some (.inl (twice',k'))):zdt i sv twice k=zdt i sv twice' k':=zF (body:=fun s:(Bool×Int)=>zbm i sv s.1 s.2) h
theorem zmM (h:zbm i sv twice k=some (.inr oo_)):zdt i sv twice k=some oo_:=zE (body:=fun s:(Bool×Int)=>zbm i sv s.1 s.2) h
theorem zmN (h:zaN i sv k2=some (.inl k2')):zdu i sv k2=zdu i sv k2':=zF (body:=fun s:Int=>zaN i sv s) h
theorem ziZ (h:zaN i sv k2=some (.inr oo_)):zdu i sv k2=some oo_:=zE (body:=fun s:Int=>zaN i sv s) h
theorem zmK (h:zaM sv i=some (.inl i')):zds sv i=zds sv i':=zF (body:=fun s:Int=>zaM sv s) h
theorem zdj (h:zaM sv i=some (.inr oo_)):zds sv i=some oo_:=zE (body:=fun s:Int=>zaM sv s) h
def zgT (f:ze) (v:Int):Option Bool:=
 some (f.Number==v)
def zy (sv:(List ze)) (v:Int) (v2:Int):Option (Int⊕(Unit⊕Int)):=
 if (decide (v2<(sv.length:Int))) then (
  idx sv v2>>=fun x=>
  zgT x v>>=fun rv=>
  if rv then (
   some (.inr (.inr v2))
  ) else (
   some (.inl (IntKind.i64.wrap (v2+1)))
  )
 ) else (
  some (.inr (.inl ()))
 )
def zU (sv:(List ze)) (v:Int) (v2:Int):Option (Unit⊕Int):=zab (fun s:Int=>zy sv v s) v2
def zao (sv:(List ze)) (v:Int):Option Int:=
 zU sv v 0>>=fun q=>
 match q with
 | .inl u=>(
  some (-1)
 )
 | .inr u2=>(
  some u2
 )
theorem zeg (h:zy sv v v2=some (.inl v2')):zU sv v v2=zU sv v v2':=zF (body:=fun s:Int=>zy sv v s) h
theorem zbO (h:zy sv v v2=some (.inr oo_)):zU sv v v2=some oo_:=zE (body:=fun s:Int=>zy sv v s) h
def zcZ (m:zg) (v:Int):Option (Int×Bool):=
 zao m.Fields v>>=fun rv=>
 some ((if rv<0 then 0 else rv),(decide (rv>=0)))
def zfH (m:zg) (number:Int):Option (Int×Bool):=
 zcZ m number>>=fun rv=>
 some (rv.1,rv.2)
def zaO (m:zg) (number:Int) (i:Int):Option (Int⊕(Unit⊕Int)):=
 if (decide (i<(m.Fields.length:Int))) then (
  idx m.Fields i>>=fun x=>
  if (x.Number==number) then (
   some (.inr (.inr i))
  ) else (
   some (.inl (IntKind.i64.wrap (i+1)))
  )
 ) else (
  some (.inr (.inl ()))
 )
def zdw (m:zg) (number:Int) (i:Int):Option (Unit⊕Int):=zab (fun s:Int=>zaO m number s) i
def zdL (m:zg) (number:Int):Option Int:=
 zdw m number 0>>=fun q=>
 match q with
 | .inl u=>(
  some (-1)
 )
 | .inr u2=>(
  some u2
 )
theorem zmQ (h:zaO m number i=some (.inl i')):zdw m number i=zdw m number i':=zF (body:=fun s:Int=>zaO m number s) h
theorem zja (h:zaO m number i=some (.inr oo_)):zdw m number i=some oo_:=zE (body:=fun s:Int=>zaO m number s) h
def zax (av:(List Int)) (b:(List Int)) (i:Int):Option (Int⊕(Unit⊕Unit)):=
 if (decide (i<(av.length:Int))) then (
  idx av i>>=fun x=>
  idx b i>>=fun x2=>
  if (x !=x2) then (
   some (.inr (.inr ()))
  ) else (
   some (.inl (IntKind.i64.wrap (i+1)))
  )
 ) else (
  some (.inr (.inl ()))
 )
def zcR (av:(List Int)) (b:(List Int)) (i:Int):Option (Unit⊕Unit):=zab (fun s:Int=>zax av b s) i
def zeR (av:(List Int)) (b:(List Int)):Option Bool:=
 if ((av.length:Int) !=(b.length:Int)) then (
  some false
 ) else (
  zcR av b 0>>=fun q=>
  match q with
  | .inl u=>(
   some true
  )
  | .inr u2=>(
   some false
  )
 )
theorem zlu {av:(List Int)} {b:(List Int)} {i:Int} {i':Int} (h:zax av b i=some (.inl i')):zcR av b i=zcR av b i':=zF (body:=fun s:Int=>zax av b s) h
theorem zhW {av:(List Int)} {b:(List Int)} {i:Int} {oo_:(Unit⊕Unit)} (h:zax av b i=some (.inr oo_)):zcR av b i=some oo_:=zE (body:=fun s:Int=>zax av b s) h
def zgj (sv:(List zg)):Option Bool:=
 zgh sv>>=fun rv=>
 some (rv.2.2==0)
def zmG (sv:(List zg)) (root:Int) (d:Int):Option Int:=
 ziS sv>>=fun rv=>
 if (!rv) then (
  some 9
 ) else (
  if ((decide (root<0))|| ((decide (root>=(sv.length:Int)))|| ((decide (d<0))|| (decide (d>64))))) then (
   some 2
  ) else (
   some 0
  )
 )
def zon (way:(List Int)) (other:(List Int)):Option Bool:=
 (
  if (decide ((other.length:Int)>0)) then (
   if (decide ((other.length:Int)<=(way.length:Int))) then (
    cut way 0 (other.length:Int)>>=fun v=>
    zef v other>>=fun rv=>
    some rv
   ) else (
    some false
   )
  ) else (
   some false
  )
 )>>=fun g=>
 some g
def zdb (ways:(List (List Int))) (last:(List Int)) (v:Int):Option (((List Int)×Int)⊕(Unit⊕Unit)):=
 if (decide (v<(ways.length:Int))) then (
  idx ways v>>=fun x=>
  (
   zdm last x>>=fun rv=>
   if (decide (rv>=0)) then (
    some true
   ) else (
    zon x last>>=fun rv2=>
    some rv2
   )
  )>>=fun g=>
  if g then (
   some (.inr (.inr ()))
  ) else (
   some (.inl (x,(IntKind.i64.wrap (v+1))))
  )
 ) else (
  some (.inr (.inl ()))
 )
def zhr (ways:(List (List Int))) (last:(List Int)) (v:Int):Option (Unit⊕Unit):=zab (fun s:((List Int)×Int)=>zdb ways s.1 s.2) (last,v)
def zli (ways:(List (List Int))):Option Bool:=
 zhr ways [] 0>>=fun q=>
 match q with
 | .inl u=>(
  some true
 )
 | .inr u2=>(
  some false
 )
theorem zsd {ways:(List (List Int))} {last:(List Int)} {v:Int} {last':(List Int)} {v':Int} (h:zdb ways last v=some (.inl (last',v'))):zhr ways last v=zhr ways last' v':=zF (body:=fun s:((List Int)×Int)=>zdb ways s.1 s.2) h
theorem zmq {ways:(List (List Int))} {last:(List Int)} {v:Int} {oo_:(Unit⊕Unit)} (h:zdb ways last v=some (.inr oo_)):zhr ways last v=some oo_:=zE (body:=fun s:((List Int)×Int)=>zdb ways s.1 s.2) h
def zdH (ways:(List (List Int))) (l:(List (List Int))) (v2:Int):Option (((List (List Int))×Int)⊕(List (List Int))):=
 if (decide (v2<(ways.length:Int))) then (
  idx ways v2>>=fun x=>
  zee x>>=fun rv=>
  idx l v2>>=fun x2=>
  some (.inl ((l.set (Int.toNat v2) rv),(IntKind.i64.wrap (v2+1))))
 ) else (
  some (.inr l)
 )
def zhq (ways:(List (List Int))) (l:(List (List Int))) (v2:Int):Option (List (List Int)):=zab (fun s:((List (List Int))×Int)=>zdH ways s.1 s.2) (l,v2)
def zjN (ways:(List (List Int))):Option (List (List Int)):=
 mkO 24 ([]:(List Int)) (ways.length:Int) (ways.length:Int)>>=fun v=>
 zhq ways v 0>>=fun q=>
 some q
theorem zsb {ways:(List (List Int))} {l:(List (List Int))} {v2:Int} {l':(List (List Int))} {v2':Int} (h:zdH ways l v2=some (.inl (l',v2'))):zhq ways l v2=zhq ways l' v2':=zF (body:=fun s:((List (List Int))×Int)=>zdH ways s.1 s.2) h
theorem zsc {ways:(List (List Int))} {l:(List (List Int))} {v2:Int} {oo_:(List (List Int))} (h:zdH ways l v2=some (.inr oo_)):zhq ways l v2=some oo_:=zE (body:=fun s:((List (List Int))×Int)=>zdH ways s.1 s.2) h
def zaU (t:(List (zae×Int))) (way:(List Int)) (place:Int) (v:Int):Option ((Int×Int)⊕(Unit⊕Bool)):=
 if (decide (v<(way.length:Int))) then (
  idx way v>>=fun x=>
  if (!(mget t (⟨place,x⟩:zae)).isSome) then (
   some (.inr (.inr false))
  ) else (
   if (((mget t (⟨place,x⟩:zae)).getD 0)==(-1)) then (
    some (.inr (.inr true))
   ) else (
    some (.inl (((mget t (⟨place,x⟩:zae)).getD 0),(IntKind.i64.wrap (v+1))))
   )
  )
 ) else (
  some (.inr (.inl ()))
 )
def zfe (t:(List (zae×Int))) (way:(List Int)) (place:Int) (v:Int):Option (Unit⊕Bool):=zab (fun s:(Int×Int)=>zaU t way s.1 s.2) (place,v)
def zgC (t:(List (zae×Int))) (way:(List Int)):Option Bool:=
 zfe t way 0 0>>=fun q=>
 match q with
 | .inl u=>(
  some false
 )
 | .inr u2=>(
  some u2
 )
theorem zpd {t:(List (zae×Int))} {way:(List Int)} {place:Int} {v:Int} {place':Int} {v':Int} (h:zaU t way place v=some (.inl (place',v'))):zfe t way place v=zfe t way place' v':=zF (body:=fun s:(Int×Int)=>zaU t way s.1 s.2) h
theorem zhQ {t:(List (zae×Int))} {way:(List Int)} {place:Int} {v:Int} {oo_:(Unit⊕Bool)} (h:zaU t way place v=some (.inr oo_)):zfe t way place v=some oo_:=zE (body:=fun s:(Int×Int)=>zaU t way s.1 s.2) h
def zcb (way:(List Int)) (t2:(List (zae×Int))) (place:Int) (v:Int) (f:Int) (f2:Int):Option (((List (zae×Int))×Int×Int×Int×Int)⊕((List (zae×Int))×Int×Int)):=
 if (decide (v<(way.length:Int))) then (
  idx way v>>=fun x=>
  if (!(mget t2 (⟨place,x⟩:zae)).isSome) then (
   some (.inl ((mput t2 (⟨place,x⟩:zae) (IntKind.i64.wrap ((t2.length:Int)+1))),((mget (mput t2 (⟨place,x⟩:zae) (IntKind.i64.wrap ((t2.length:Int)+1))) (⟨place,x⟩:zae)).getD 0),(IntKind.i64.wrap (v+1)),place,x))
  ) else (
   some (.inl (t2,((mget t2 (⟨place,x⟩:zae)).getD 0),(IntKind.i64.wrap (v+1)),place,x))
  )
 ) else (
  some (.inr (t2,f,f2))
 )
def zgB (way:(List Int)) (t2:(List (zae×Int))) (place:Int) (v:Int) (f:Int) (f2:Int):Option ((List (zae×Int))×Int×Int):=zab (fun s:((List (zae×Int))×Int×Int×Int×Int)=>zcb way s.1 s.2.1 s.2.2.1 s.2.2.2.1 s.2.2.2.2) (t2,place,v,f,f2)
def zkb (t:(List (zae×Int))) (way:(List Int)):Option (List (zae×Int)):=
 zgB way t 0 0 0 0>>=fun q=>
 some (mput q.1 (⟨q.2.1,q.2.2⟩:zae) (-1))
theorem zlC {way:(List Int)} {t2:(List (zae×Int))} {place:Int} {v:Int} {f:Int} {f2:Int} {t2':(List (zae×Int))} {place':Int} {v':Int} {f':Int} {f2':Int} (h:zcb way t2 place v f f2=some (.inl (t2',place',v',f',f2'))):zgB way t2 place v f f2=zgB way t2' place' v' f' f2':=zF (body:=fun s:((List (zae×Int))×Int×Int×Int×Int)=>zcb way s.1 s.2.1 s.2.2.1 s.2.2.2.1 s.2.2.2.2) h
theorem zrC {way:(List Int)} {t2:(List (zae×Int))} {place:Int} {v:Int} {f:Int} {f2:Int} {oo_:((List (zae×Int))×Int×Int)} (h:zcb way t2 place v f f2=some (.inr oo_)):zgB way t2 place v f f2=some oo_:=zE (body:=fun s:((List (zae×Int))×Int×Int×Int×Int)=>zcb way s.1 s.2.1 s.2.2.1 s.2.2.2.1 s.2.2.2.2) h
def zgn (rv4:(List (List Int))) (l:(List (List Int))) (t:(List (zae×Int))) (v:Int):Option (((List (List Int))×(List (zae×Int))×Int)⊕(List (List Int))):=
 if (decide (v<(rv4.length:Int))) then (
  idx rv4 v>>=fun x=>
  (
   if (decide ((x.length:Int)>0)) then (
    zgC t x>>=fun rv5=>
    some (!rv5)
   ) else (
    some false
   )
  )>>=fun g=>
  if g then (
   zkb t x>>=fun rv7=>
   app 24 l ([x]:(List (List Int)))>>=fun v3=>
   some (.inl (v3,rv7,(IntKind.i64.wrap (v+1))))
  ) else (
   some (.inl (l,t,(IntKind.i64.wrap (v+1))))
  )
 ) else (
  some (.inr l)
 )
def zkD (rv4:(List (List Int))) (l:(List (List Int))) (t:(List (zae×Int))) (v:Int):Option (List (List Int)):=zab (fun s:((List (List Int))×(List (zae×Int))×Int)=>zgn rv4 s.1 s.2.1 s.2.2) (l,t,v)
def zrl (ways:(List (List Int))):Option zgY:=
 zli ways>>=fun rv=>
 if rv then (
  zjN ways>>=fun rv2=>
  some (⟨rv2⟩:zgY)
 ) else (
  zdJ ways>>=fun rv3=>
  zK rv3>>=fun rv4=>
  zkD rv4 [] ([]:(List (zae×Int))) 0>>=fun q=>
  zjN q>>=fun rv8=>
  some (⟨rv8⟩:zgY)
 )
theorem zqw {rv4:(List (List Int))} {l:(List (List Int))} {t:(List (zae×Int))} {v:Int} {l':(List (List Int))} {t':(List (zae×Int))} {v':Int} (h:zgn rv4 l t v=some (.inl (l',t',v'))):zkD rv4 l t v=zkD rv4 l' t' v':=zF (body:=fun s:((List (List Int))×(List (zae×Int))×Int)=>zgn rv4 s.1 s.2.1 s.2.2) h
theorem zwh {rv4:(List (List Int))} {l:(List (List Int))} {t:(List (zae×Int))} {v:Int} {oo_:(List (List Int))} (h:zgn rv4 l t v=some (.inr oo_)):zkD rv4 l t v=some oo_:=zE (body:=fun s:((List (List Int))×(List (zae×Int))×Int)=>zgn rv4 s.1 s.2.1 s.2.2) h
def zbx (l:(List (List Int))) (n:Int) (i:Int):Option ((Int×Int)⊕Int):=
 if (decide (i<(l.length:Int))) then (
  idx l i>>=fun x=>
  some (.inl ((IntKind.i64.wrap ((IntKind.i64.wrap (n+1))+(x.length:Int))),(IntKind.i64.wrap (i+1))))
 ) else (
  some (.inr n)
 )
def zdP (l:(List (List Int))) (n:Int) (i:Int):Option Int:=zab (fun s:(Int×Int)=>zbx l s.1 s.2) (n,i)
def zgF (l:(List (List Int))):Option Bool:=
 zdP l 0 0>>=fun q=>
 some (decide (q>300))
theorem znp {l:(List (List Int))} {n:Int} {i:Int} {n':Int} {i':Int} (h:zbx l n i=some (.inl (n',i'))):zdP l n i=zdP l n' i':=zF (body:=fun s:(Int×Int)=>zbx l s.1 s.2) h
theorem znq {l:(List (List Int))} {n:Int} {i:Int} {oo_:Int} (h:zbx l n i=some (.inr oo_)):zdP l n i=some oo_:=zE (body:=fun s:(Int×Int)=>zbx l s.1 s.2) h
def zgM (sv:(List zg)) (root:Int):Option Int:=
 zgj sv>>=fun rv=>
 if (!rv) then (
  some 9
 ) else (
  if ((decide (root<0))|| (decide (root>=(sv.length:Int)))) then (
   some 2
  ) else (
   some 0
  )
 )
def zeE (way:(List Int)) (withv:(List Int)):Option Bool:=
 (
  if (decide ((withv.length:Int)<=(way.length:Int))) then (
   cut way 0 (withv.length:Int)>>=fun v=>
   zeR v withv>>=fun rv=>
   some rv
  ) else (
   some false
  )
 )>>=fun g=>
 some g
def zaB (av:(List Int)) (b:(List Int)) (i:Int):Option (Int⊕(Unit⊕Bool)):=
 if ((decide (i<(av.length:Int)))&&(decide (i<(b.length:Int)))) then (
  idx av i>>=fun x=>
  idx b i>>=fun x2=>
  if (x !=x2) then (
   idx av i>>=fun x3=>
   idx b i>>=fun x4=>
   some (.inr (.inr (decide (x3<x4))))
  ) else (
   some (.inl (IntKind.i64.wrap (i+1)))
  )
 ) else (
  some (.inr (.inl ()))
 )
def zda (av:(List Int)) (b:(List Int)) (i:Int):Option (Unit⊕Bool):=zab (fun s:Int=>zaB av b s) i
def zgN (av:(List Int)) (b:(List Int)):Option Bool:=
 zda av b 0>>=fun q=>
 match q with
 | .inl u=>(
  some (decide ((av.length:Int)<(b.length:Int)))
 )
 | .inr u2=>(
  some u2
 )
theorem znD {av:(List Int)} {b:(List Int)} {i:Int} {i':Int} (h:zaB av b i=some (.inl i')):zda av b i=zda av b i':=zF (body:=fun s:Int=>zaB av b s) h
theorem zfh {av:(List Int)} {b:(List Int)} {i:Int} {oo_:(Unit⊕Bool)} (h:zaB av b i=some (.inr oo_)):zda av b i=some oo_:=zE (body:=fun s:Int=>zaB av b s) h
def zbH (i:Int) (ways:(List (List Int))) (ok:Bool) (k:Int):Option ((Bool×Int)⊕Bool):=
 if (decide (k<(ways.length:Int))) then (
  (
   if (k !=i) then (
    idx ways k>>=fun x2=>
    if (decide ((x2.length:Int)>0)) then (
     idx ways i>>=fun x3=>
     idx ways k>>=fun x4=>
     zeE x3 x4>>=fun rv=>
     if rv then (
      idx ways k>>=fun x5=>
      idx ways i>>=fun x6=>
      if (decide ((x5.length:Int)<(x6.length:Int))) then (
       some true
      ) else (
       some (decide (k<i))
      )
     ) else (
      some false
     )
    ) else (
     some false
    )
   ) else (
    some false
   )
  )>>=fun g=>
  if g then (
   some (.inl (false,(IntKind.i64.wrap (k+1))))
  ) else (
   some (.inl (ok,(IntKind.i64.wrap (k+1))))
  )
 ) else (
  some (.inr ok)
 )
def zfa (i:Int) (ways:(List (List Int))) (ok:Bool) (k:Int):Option Bool:=zab (fun s:(Bool×Int)=>zbH i ways s.1 s.2) (ok,k)
def zbI (i:Int) (out:(List (List Int))) (ways:(List (List Int))) (k2:Int):Option (Int⊕Int):=
 (
  if (decide (k2<(out.length:Int))) then (
   idx out k2>>=fun x7=>
   idx ways i>>=fun x8=>
   zgN x7 x8>>=fun rv2=>
   some rv2
  ) else (
   some false
  )
 )>>=fun g2=>
 if g2 then (
  some (.inl (IntKind.i64.wrap (k2+1)))
 ) else (
  some (.inr k2)
 )
def zfb (i:Int) (out:(List (List Int))) (ways:(List (List Int))) (k2:Int):Option Int:=zab (fun s:Int=>zbI i out ways s) k2
def zcl (ways:(List (List Int))) (out:(List (List Int))) (i:Int):Option (((List (List Int))×Int)⊕(List (List Int))):=
 if (decide (i<(ways.length:Int))) then (
  idx ways i>>=fun x=>
  zfa i ways (decide ((x.length:Int)>0)) 0>>=fun q=>
  if (!q) then (
   some (.inl (out,(IntKind.i64.wrap (i+1))))
  ) else (
   zfb i out ways 0>>=fun q2=>
   cut out 0 q2>>=fun v3=>
   app 24 ([]:(List (List Int))) v3>>=fun v4=>
   idx ways i>>=fun x9=>
   app 24 v4 ([x9]:(List (List Int)))>>=fun v5=>
   cut out q2 (out.length:Int)>>=fun v6=>
   app 24 v5 v6>>=fun v7=>
   some (.inl (v7,(IntKind.i64.wrap (i+1))))
  )
 ) else (
  some (.inr out)
 )
def zeZ (ways:(List (List Int))) (out:(List (List Int))) (i:Int):Option (List (List Int)):=zab (fun s:((List (List Int))×Int)=>zcl ways s.1 s.2) (out,i)
def zhX (ways:(List (List Int))):Option (List (List Int)):=
 zeZ ways [] 0>>=fun q3=>
 some q3
theorem zjX {i:Int} {ways:(List (List Int))} {ok:Bool} {k:Int} {ok':Bool} {k':Int} (h:zbH i ways ok k=some (.inl (ok',k'))):zfa i ways ok k=zfa i ways ok' k':=zF (body:=fun s:(Bool×Int)=>zbH i ways s.1 s.2) h
theorem zoS {i:Int} {ways:(List (List Int))} {ok:Bool} {k:Int} {oo_:Bool} (h:zbH i ways ok k=some (.inr oo_)):zfa i ways ok k=some oo_:=zE (body:=fun s:(Bool×Int)=>zbH i ways s.1 s.2) h
theorem zoT {i:Int} {out:(List (List Int))} {ways:(List (List Int))} {k2:Int} {k2':Int} (h:zbI i out ways k2=some (.inl k2')):zfb i out ways k2=zfb i out ways k2':=zF (body:=fun s:Int=>zbI i out ways s) h
theorem zjY {i:Int} {out:(List (List Int))} {ways:(List (List Int))} {k2:Int} {oo_:Int} (h:zbI i out ways k2=some (.inr oo_)):zfb i out ways k2=some oo_:=zE (body:=fun s:Int=>zbI i out ways s) h
theorem zoQ {ways:(List (List Int))} {out:(List (List Int))} {i:Int} {out':(List (List Int))} {i':Int} (h:zcl ways out i=some (.inl (out',i'))):zeZ ways out i=zeZ ways out' i':=zF (body:=fun s:((List (List Int))×Int)=>zcl ways s.1 s.2) h
theorem zoR {ways:(List (List Int))} {out:(List (List Int))} {i:Int} {oo_:(List (List Int))} (h:zcl ways out i=some (.inr oo_)):zeZ ways out i=some oo_:=zE (body:=fun s:((List (List Int))×Int)=>zcl ways s.1 s.2) h
def zaQ (m:(List (List Int))) (number:Int) (i:Int):Option (Int⊕(Unit⊕Unit)):=
 if (decide (i<(m.length:Int))) then (
  (
   idx m i>>=fun x=>
   if ((x.length:Int)==1) then (
    idx m i>>=fun x2=>
    idx x2 0>>=fun x3=>
    some (x3==number)
   ) else (
    some false
   )
  )>>=fun g=>
  if g then (
   some (.inr (.inr ()))
  ) else (
   some (.inl (IntKind.i64.wrap (i+1)))
  )
 ) else (
  some (.inr (.inl ()))
 )
def zdy (m:(List (List Int))) (number:Int) (i:Int):Option (Unit⊕Unit):=zab (fun s:Int=>zaQ m number s) i
def zgl (m:(List (List Int))) (number:Int):Option Bool:=
 zdy m number 0>>=fun q=>
 match q with
 | .inl u=>(
  some false
 )
 | .inr u2=>(
  some true
 )
theorem zmT {m:(List (List Int))} {number:Int} {i:Int} {i':Int} (h:zaQ m number i=some (.inl i')):zdy m number i=zdy m number i':=zF (body:=fun s:Int=>zaQ m number s) h
theorem zjb {m:(List (List Int))} {number:Int} {i:Int} {oo_:(Unit⊕Unit)} (h:zaQ m number i=some (.inr oo_)):zdy m number i=some oo_:=zE (body:=fun s:Int=>zaQ m number s) h
def zaP (m:(List (List Int))) (number:Int) (out:(List (List Int))) (i:Int):Option (((List (List Int))×Int)⊕(List (List Int))):=
 if (decide (i<(m.length:Int))) then (
  (
   idx m i>>=fun x=>
   if (decide ((x.length:Int)>1)) then (
    idx m i>>=fun x2=>
    idx x2 0>>=fun x3=>
    some (x3==number)
   ) else (
    some false
   )
  )>>=fun g=>
  if g then (
   idx m i>>=fun x4=>
   cut x4 1 (x4.length:Int)>>=fun v2=>
   app 24 out ([v2]:(List (List Int)))>>=fun v3=>
   some (.inl (v3,(IntKind.i64.wrap (i+1))))
  ) else (
   some (.inl (out,(IntKind.i64.wrap (i+1))))
  )
 ) else (
  some (.inr out)
 )
def zdx (m:(List (List Int))) (number:Int) (out:(List (List Int))) (i:Int):Option (List (List Int)):=zab (fun s:((List (List Int))×Int)=>zaP m number s.1 s.2) (out,i)
def zgk (m:(List (List Int))) (number:Int):Option (List (List Int)):=
 zdx m number [] 0>>=fun q=>
 some q
theorem zmR {m:(List (List Int))} {number:Int} {out:(List (List Int))} {i:Int} {out':(List (List Int))} {i':Int} (h:zaP m number out i=some (.inl (out',i'))):zdx m number out i=zdx m number out' i':=zF (body:=fun s:((List (List Int))×Int)=>zaP m number s.1 s.2) h
theorem zmS {m:(List (List Int))} {number:Int} {out:(List (List Int))} {i:Int} {oo_:(List (List Int))} (h:zaP m number out i=some (.inr oo_)):zdx m number out i=some oo_:=zE (body:=fun s:((List (List Int))×Int)=>zaP m number s.1 s.2) h
def zgV (v:zb):Option Int:=
 some (IntKind.i64.wrap ((IntKind.i64.wrap ((v.Words.length:Int)+(v.Texts.length:Int)))+(v.Subs.length:Int)))
def zck (xj:zb->Option zb) (x:zc) (i:Int) (f:(List zb)):Option ((Int×(List zb))⊕(List zb)):=
 if (decide (i<(x.Values.length:Int))) then (
  idx x.Values i>>=fun x2=>
  xj x2>>=fun rv=>
  app 80 f ([rv]:(List zb))>>=fun v2=>
  some (.inl ((IntKind.i64.wrap (i+1)),v2))
 ) else (
  some (.inr f)
 )
def zeX (xj:zb->Option zb) (x:zc) (i:Int) (f:(List zb)):Option (List zb):=zab (fun s:(Int×(List zb))=>zck xj x s.1 s.2) (i,f)
def zgG (xi:zc->Option zc) (xj:zb->Option zb) (x:zc):Option zc:=
 app 16 ([]:(List Str)) x.Unknown>>=fun v=>
 zeX xj x 0 []>>=fun q=>
 some (⟨q,v⟩:zc)
def zaH (xi:zc->Option zc) (v:zb) (i:Int) (f:(List zc)):Option ((Int×(List zc))⊕(List zc)):=
 if (decide (i<(v.Subs.length:Int))) then (
  idx v.Subs i>>=fun x=>
  xi x>>=fun rv=>
  app 48 f ([rv]:(List zc))>>=fun v2=>
  some (.inl ((IntKind.i64.wrap (i+1)),v2))
 ) else (
  some (.inr f)
 )
def zcW (xi:zc->Option zc) (v:zb) (i:Int) (f:(List zc)):Option (List zc):=zab (fun s:(Int×(List zc))=>zaH xi v s.1 s.2) (i,f)
def zeq (xi:zc->Option zc) (xj:zb->Option zb) (v:zb):Option zb:=
 zcW xi v 0 []>>=fun q=>
 some (⟨v.Number,v.Words,v.Texts,q⟩:zb)
def zau:Nat->(zc->Option zc)×(zb->Option zb)
  | 0=>(fun _=>none,fun _=>none)
  | fuel+1=>(fun x=>zgG (zau fuel).1 (zau fuel).2 x,fun v=>zeq (zau fuel).1 (zau fuel).2 v)
def zca (fuel:Nat):zc->Option zc:=(zau fuel).1
def zdQ (fuel:Nat):zb->Option zb:=(zau fuel).2
theorem zoN (h:zck xj x i f=some (.inl (i',f'))):zeX xj x i f=zeX xj x i' f':=zF (body:=fun s:(Int×(List zb))=>zck xj x s.1 s.2) h
theorem zoO (h:zck xj x i f=some (.inr oo_)):zeX xj x i f=some oo_:=zE (body:=fun s:(Int×(List zb))=>zck xj x s.1 s.2) h
theorem zlG (h:zaH xi v i f=some (.inl (i',f'))):zcW xi v i f=zcW xi v i' f':=zF (body:=fun s:(Int×(List zc))=>zaH xi v s.1 s.2) h
theorem zlH (h:zaH xi v i f=some (.inr oo_)):zcW xi v i f=some oo_:=zE (body:=fun s:(Int×(List zc))=>zaH xi v s.1 s.2) h
def zby (x:zc) (n:Int) (i:Int):Option ((Int×Int)⊕Int):=
 if (decide (i<(x.Unknown.length:Int))) then (
  idx x.Unknown i>>=fun x2=>
  some (.inl ((IntKind.i64.wrap ((IntKind.i64.wrap (n+1))+(x2.length:Int))),(IntKind.i64.wrap (i+1))))
 ) else (
  some (.inr n)
 )
def zdR (x:zc) (n:Int) (i:Int):Option Int:=zab (fun s:(Int×Int)=>zby x s.1 s.2) (n,i)
def zbb (deep:Int) (xh:zb->Int->Option Int) (x:zc) (n3:Int) (i2:Int):Option ((Int×Int)⊕(Int⊕Unit)):=
 if (decide (i2<(x.Values.length:Int))) then (
  idx x.Values i2>>=fun x3=>
  xh x3 deep>>=fun rv=>
  if (decide ((IntKind.i64.wrap (n3+rv))>=5000)) then (
   some (.inr (.inr ()))
  ) else (
   some (.inl ((IntKind.i64.wrap (n3+rv)),(IntKind.i64.wrap (i2+1))))
  )
 ) else (
  some (.inr (.inl n3))
 )
def zdS (deep:Int) (xh:zb->Int->Option Int) (x:zc) (n3:Int) (i2:Int):Option (Int⊕Unit):=zab (fun s:(Int×Int)=>zbb deep xh x s.1 s.2) (n3,i2)
def zfJ (xg:zc->Int->Option Int) (xh:zb->Int->Option Int) (x:zc) (deep:Int):Option Int:=
 if (decide (deep<0)) then (
  some 5000
 ) else (
  zdR x 1 0>>=fun q=>
  zdS deep xh x q 0>>=fun q2=>
  match q2 with
  | .inl u=>(
   some u
  )
  | .inr u2=>(
   some 5000
  )
 )
def zaA (v:zb) (n:Int) (k:Int):Option ((Int×Int)⊕Int):=
 if (decide (k<(v.Texts.length:Int))) then (
  idx v.Texts k>>=fun x=>
  some (.inl ((IntKind.i64.wrap ((IntKind.i64.wrap (n+1))+(x.length:Int))),(IntKind.i64.wrap (k+1))))
 ) else (
  some (.inr n)
 )
def zcC (v:zb) (n:Int) (k:Int):Option Int:=zab (fun s:(Int×Int)=>zaA v s.1 s.2) (n,k)
def zap (deep:Int) (xg:zc->Int->Option Int) (v:zb) (n3:Int) (k2:Int):Option ((Int×Int)⊕(Int⊕Unit)):=
 if (decide (k2<(v.Subs.length:Int))) then (
  idx v.Subs k2>>=fun x2=>
  xg x2 (IntKind.i64.wrap (deep - 1))>>=fun rv=>
  if (decide ((IntKind.i64.wrap (n3+rv))>=5000)) then (
   some (.inr (.inr ()))
  ) else (
   some (.inl ((IntKind.i64.wrap (n3+rv)),(IntKind.i64.wrap (k2+1))))
  )
 ) else (
  some (.inr (.inl n3))
 )
def zcD (deep:Int) (xg:zc->Int->Option Int) (v:zb) (n3:Int) (k2:Int):Option (Int⊕Unit):=zab (fun s:(Int×Int)=>zap deep xg v s.1 s.2) (n3,k2)
def zdE (xg:zc->Int->Option Int) (xh:zb->Int->Option Int) (v:zb) (deep:Int):Option Int:=
 zcC v (IntKind.i64.wrap (1+(v.Words.length:Int))) 0>>=fun q=>
 zcD deep xg v q 0>>=fun q2=>
 match q2 with
 | .inl u=>(
  some u
 )
 | .inr u2=>(
  some 5000
 )
def zal:Nat->(zc->Int->Option Int)×(zb->Int->Option Int)
  | 0=>(fun _ _=>none,fun _ _=>none)
  | fuel+1=>(fun x deep=>zfJ (zal fuel).1 (zal fuel).2 x deep,fun v deep=>zdE (zal fuel).1 (zal fuel).2 v deep)
def zcd (fuel:Nat):zc->Int->Option Int:=(zal fuel).1
def zbu (fuel:Nat):zb->Int->Option Int:=(zal fuel).2
theorem zns (h:zby x n i=some (.inl (n',i'))):zdR x n i=zdR x n' i':=zF (body:=fun s:(Int×Int)=>zby x s.1 s.2) h
theorem znt (h:zby x n i=some (.inr oo_)):zdR x n i=some oo_:=zE (body:=fun s:(Int×Int)=>zby x s.1 s.2) h
theorem znu (h:zbb deep xh x n3 i2=some (.inl (n3',i2'))):zdS deep xh x n3 i2=zdS deep xh x n3' i2':=zF (body:=fun s:(Int×Int)=>zbb deep xh x s.1 s.2) h
theorem zjn (h:zbb deep xh x n3 i2=some (.inr oo_)):zdS deep xh x n3 i2=some oo_:=zE (body:=fun s:(Int×Int)=>zbb deep xh x s.1 s.2) h
theorem zkV (h:zaA v n k=some (.inl (n',k'))):zcC v n k=zcC v n' k':=zF (body:=fun s:(Int×Int)=>zaA v s.1 s.2) h
theorem zkW (h:zaA v n k=some (.inr oo_)):zcC v n k=some oo_:=zE (body:=fun s:(Int×Int)=>zaA v s.1 s.2) h
theorem zkX (h:zap deep xg v n3 k2=some (.inl (n3',k2'))):zcD deep xg v n3 k2=zcD deep xg v n3' k2':=zF (body:=fun s:(Int×Int)=>zap deep xg v s.1 s.2) h
theorem zhC (h:zap deep xg v n3 k2=some (.inr oo_)):zcD deep xg v n3 k2=some oo_:=zE (body:=fun s:(Int×Int)=>zap deep xg v s.1 s.2) h
def zeo (most:Int) (xa:zc->Int->Option Int) (x2:zb) (deep3:Int) (v3:Int):Option ((Int×Int)⊕(Int⊕Int)):=
 if (decide (v3<(x2.Subs.length:Int))) then (
  idx x2.Subs v3>>=fun x3=>
  if (decide (most<=0)) then (
   some (.inr (.inr 1))
  ) else (
   xa x3 (IntKind.i64.wrap (most - 1))>>=fun rv=>
   if (decide ((if deep3<(IntKind.i64.wrap (1+rv)) then (IntKind.i64.wrap (1+rv)) else deep3)>most)) then (
    some (.inr (.inr (if deep3<(IntKind.i64.wrap (1+rv)) then (IntKind.i64.wrap (1+rv)) else deep3)))
   ) else (
    some (.inl ((if deep3<(IntKind.i64.wrap (1+rv)) then (IntKind.i64.wrap (1+rv)) else deep3),(IntKind.i64.wrap (v3+1))))
   )
  )
 ) else (
  some (.inr (.inl deep3))
 )
def zil (most:Int) (xa:zc->Int->Option Int) (x2:zb) (deep3:Int) (v3:Int):Option (Int⊕Int):=zab (fun s:(Int×Int)=>zeo most xa x2 s.1 s.2) (deep3,v3)
def zen (most:Int) (xa:zc->Int->Option Int) (x:zc) (deep:Int) (v:Int):Option ((Int×Int)⊕(Int⊕Int)):=
 if (decide (v<(x.Values.length:Int))) then (
  idx x.Values v>>=fun x2=>
  zil most xa x2 deep 0>>=fun q=>
  match q with
  | .inl u=>(
   some (.inl (u,(IntKind.i64.wrap (v+1))))
  )
  | .inr u2=>(
   some (.inr (.inr u2))
  )
 ) else (
  some (.inr (.inl deep))
 )
def zik (most:Int) (xa:zc->Int->Option Int) (x:zc) (deep:Int) (v:Int):Option (Int⊕Int):=zab (fun s:(Int×Int)=>zen most xa x s.1 s.2) (deep,v)
def zki (xa:zc->Int->Option Int) (x:zc) (most:Int):Option Int:=
 zik most xa x 0 0>>=fun q2=>
 match q2 with
 | .inl u3=>(
  some u3
 )
 | .inr u4=>(
  some u4
 )
def zhe:Nat->zc->Int->Option Int
  | 0,_,_=>none
  | fuel+1,x,most=>zki (zhe fuel) x most
theorem ztq (h:zeo most xa x2 deep3 v3=some (.inl (deep3',v3'))):zil most xa x2 deep3 v3=zil most xa x2 deep3' v3':=zF (body:=fun s:(Int×Int)=>zeo most xa x2 s.1 s.2) h
theorem ztr (h:zeo most xa x2 deep3 v3=some (.inr oo_)):zil most xa x2 deep3 v3=some oo_:=zE (body:=fun s:(Int×Int)=>zeo most xa x2 s.1 s.2) h
theorem zto (h:zen most xa x deep v=some (.inl (deep',v'))):zik most xa x deep v=zik most xa x deep' v':=zF (body:=fun s:(Int×Int)=>zen most xa x s.1 s.2) h
theorem ztp (h:zen most xa x deep v=some (.inr oo_)):zik most xa x deep v=some oo_:=zE (body:=fun s:(Int×Int)=>zen most xa x s.1 s.2) h
def zmF (fuel:Nat) (x:zc):Option Int:=
 zhe fuel x 131072>>=fun rv=>
 some rv
def zlX (fuel:Nat) (x:zc):Option Bool:=
 zmF fuel x>>=fun rv=>
 some (decide (rv<=131072))
def zcy (l:(List Str)) (v:Int):Option (Int⊕(Unit⊕Unit)):=
 if (decide (v<(l.length:Int))) then (
  idx l v>>=fun x=>
  lenO x>>=fun v2=>
  zoC v2>>=fun rv=>
  if (!rv) then (
   some (.inr (.inr ()))
  ) else (
   some (.inl (IntKind.i64.wrap (v+1)))
  )
 ) else (
  some (.inr (.inl ()))
 )
def zfZ (l:(List Str)) (v:Int):Option (Unit⊕Unit):=zab (fun s:Int=>zcy l s) v
def zjw (l:(List Str)):Option Bool:=
 zfZ l 0>>=fun q=>
 match q with
 | .inl u=>(
  some true
 )
 | .inr u2=>(
  some false
 )
theorem zqU (h:zcy l v=some (.inl v')):zfZ l v=zfZ l v':=zF (body:=fun s:Int=>zcy l s) h
theorem zlp (h:zcy l v=some (.inr oo_)):zfZ l v=some oo_:=zE (body:=fun s:Int=>zcy l s) h
def ziK (m:zg) (text:Str):Option Bool:=
 lenO text>>=fun v=>
 zlj v 0>>=fun rv=>
 if ((rv.2 !=0)|| (rv.1.To !=(text.length:Int))) then (
  some false
 ) else (
  zfH m rv.1.Number>>=fun rv2=>
  some (!rv2.2)
 )
def zaF (k:Int) (l:(List Int)) (v:Int):Option (Int⊕(Unit⊕Unit)):=
 if (decide (v<(l.length:Int))) then (
  idx l v>>=fun x=>
  zmn k x>>=fun rv=>
  if ((rv.2 !=0)|| (rv.1 !=x)) then (
   some (.inr (.inr ()))
  ) else (
   some (.inl (IntKind.i64.wrap (v+1)))
  )
 ) else (
  some (.inr (.inl ()))
 )
def zej (k:Int) (l:(List Int)) (v:Int):Option (Unit⊕Unit):=zab (fun s:Int=>zaF k l s) v
def zgW (k:Int) (l:(List Int)):Option Bool:=
 zej k l 0>>=fun q=>
 match q with
 | .inl u=>(
  some true
 )
 | .inr u2=>(
  some false
 )
theorem znV (h:zaF k l v=some (.inl v')):zej k l v=zej k l v':=zF (body:=fun s:Int=>zaF k l s) h
theorem zhd (h:zaF k l v=some (.inr oo_)):zej k l v=some oo_:=zE (body:=fun s:Int=>zaF k l s) h
def zbt (l:(List zc)) (message:Int) (xc:(List zg)->Int->zc->Option Bool) (sv:(List zg)) (v2:Int):Option (Int⊕(Unit⊕Unit)):=
 if (decide (v2<(l.length:Int))) then (
  idx l v2>>=fun x=>
  xc sv message x>>=fun rv=>
  if (!rv) then (
   some (.inr (.inr ()))
  ) else (
   some (.inl (IntKind.i64.wrap (v2+1)))
  )
 ) else (
  some (.inr (.inl ()))
 )
def zeH (l:(List zc)) (message:Int) (xc:(List zg)->Int->zc->Option Bool) (sv:(List zg)) (v2:Int):Option (Unit⊕Unit):=zab (fun s:Int=>zbt l message xc sv s) v2
def zgr (xq:(List zg)->Int->(List zc)->Option Bool) (xb:ze->(List zg)->zb->Option Bool) (xc:(List zg)->Int->zc->Option Bool) (sv:(List zg)) (message:Int) (l:(List zc)):Option Bool:=
 if ((decide (message<0))|| (decide (message>=(sv.length:Int)))) then (
  some false
 ) else (
  zeH l message xc sv 0>>=fun q=>
  match q with
  | .inl u=>(
   some true
  )
  | .inr u2=>(
   some false
  )
 )
def zlq (xq:(List zg)->Int->(List zc)->Option Bool) (xb:ze->(List zg)->zb->Option Bool) (xc:(List zg)->Int->zc->Option Bool) (f:ze) (sv:(List zg)) (v:zb):Option Bool:=
 zgV v>>=fun rv=>
 if ((rv==0)|| ((decide (rv>1))&&(!f.Repeated))) then (
  some false
 ) else (
  if (f.Kind==15) then (
   (
    if ((v.Texts.length:Int)==rv) then (
     zjw v.Texts>>=fun rv2=>
     some rv2
    ) else (
     some false
    )
   )>>=fun g=>
   some g
  ) else (
   if (f.Kind==16) then (
    some ((v.Texts.length:Int)==rv)
   ) else (
    if (f.Kind==17) then (
     (
      if ((v.Subs.length:Int)==rv) then (
       xq sv f.Of v.Subs>>=fun rv3=>
       some rv3
      ) else (
       some false
      )
     )>>=fun g2=>
     some g2
    ) else (
     (
      if ((v.Words.length:Int)==rv) then (
       zgW f.Kind v.Words>>=fun rv4=>
       some rv4
      ) else (
       some false
      )
     )>>=fun g3=>
     some g3
    )
   )
  )
 )
def zcg (xb:ze->(List zg)->zb->Option Bool) (sv:(List zg)) (x:zc) (x2:zg) (last:Int) (v:Int):Option ((Int×Int)⊕(Unit⊕Unit)):=
 if (decide (v<(x.Values.length:Int))) then (
  idx x.Values v>>=fun x3=>
  zfH x2 x3.Number>>=fun rv=>
  (
   if (!rv.2) then (
    some true
   ) else (
    if (decide (x3.Number<=last)) then (
     some true
    ) else (
     idx x2.Fields rv.1>>=fun x4=>
     xb x4 sv x3>>=fun rv2=>
     some (!rv2)
    )
   )
  )>>=fun g=>
  if g then (
   some (.inr (.inr ()))
  ) else (
   some (.inl (x3.Number,(IntKind.i64.wrap (v+1))))
  )
 ) else (
  some (.inr (.inl ()))
 )
def zfD (xb:ze->(List zg)->zb->Option Bool) (sv:(List zg)) (x:zc) (x2:zg) (last:Int) (v:Int):Option (Unit⊕Unit):=zab (fun s:(Int×Int)=>zcg xb sv x x2 s.1 s.2) (last,v)
def zch (x:zc) (x2:zg) (v3:Int):Option (Int⊕(Unit⊕Unit)):=
 if (decide (v3<(x.Unknown.length:Int))) then (
  idx x.Unknown v3>>=fun x5=>
  ziK x2 x5>>=fun rv3=>
  if (!rv3) then (
   some (.inr (.inr ()))
  ) else (
   some (.inl (IntKind.i64.wrap (v3+1)))
  )
 ) else (
  some (.inr (.inl ()))
 )
def zfE (x:zc) (x2:zg) (v3:Int):Option (Unit⊕Unit):=zab (fun s:Int=>zch x x2 s) v3
def zhx (xq:(List zg)->Int->(List zc)->Option Bool) (xb:ze->(List zg)->zb->Option Bool) (xc:(List zg)->Int->zc->Option Bool) (sv:(List zg)) (message:Int) (x:zc):Option Bool:=
 idx sv message>>=fun x2=>
 zfD xb sv x x2 0 0>>=fun q=>
 match q with
 | .inl u=>(
  zfE x x2 0>>=fun q2=>
  match q2 with
  | .inl u2=>(
   some true
  )
  | .inr u3=>(
   some false
  )
 )
 | .inr u4=>(
  some false
 )
def zac:Nat->((List zg)->Int->(List zc)->Option Bool)×(ze->(List zg)->zb->Option Bool)×((List zg)->Int->zc->Option Bool)
  | 0=>(fun _ _ _=>none,fun _ _ _=>none,fun _ _ _=>none)
  | fuel+1=>(fun sv message l=>zgr (zac fuel).1 (zac fuel).2.1 (zac fuel).2.2 sv message l,fun f sv v=>zlq (zac fuel).1 (zac fuel).2.1 (zac fuel).2.2 f sv v,fun sv message x=>zhx (zac fuel).1 (zac fuel).2.1 (zac fuel).2.2 sv message x)
def zhv (fuel:Nat):(List zg)->Int->(List zc)->Option Bool:=(zac fuel).1
def zjQ (fuel:Nat):ze->(List zg)->zb->Option Bool:=(zac fuel).2.1
def zex (fuel:Nat):(List zg)->Int->zc->Option Bool:=(zac fuel).2.2
theorem zoy (h:zbt l message xc sv v2=some (.inl v2')):zeH l message xc sv v2=zeH l message xc sv v2':=zF (body:=fun s:Int=>zbt l message xc sv s) h
theorem zjP (h:zbt l message xc sv v2=some (.inr oo_)):zeH l message xc sv v2=some oo_:=zE (body:=fun s:Int=>zbt l message xc sv s) h
theorem zpS (h:zcg xb sv x x2 last v=some (.inl (last',v'))):zfD xb sv x x2 last v=zfD xb sv x x2 last' v':=zF (body:=fun s:(Int×Int)=>zcg xb sv x x2 s.1 s.2) h
theorem zkt (h:zcg xb sv x x2 last v=some (.inr oo_)):zfD xb sv x x2 last v=some oo_:=zE (body:=fun s:(Int×Int)=>zcg xb sv x x2 s.1 s.2) h
theorem zpT (h:zch x x2 v3=some (.inl v3')):zfE x x2 v3=zfE x x2 v3':=zF (body:=fun s:Int=>zch x x2 s) h
theorem zku (h:zch x x2 v3=some (.inr oo_)):zfE x x2 v3=some oo_:=zE (body:=fun s:Int=>zch x x2 s) h
def zdo (v:zb):Option Int:=
 some (IntKind.i64.wrap ((IntKind.i64.wrap ((v.Words.length:Int)+(v.Texts.length:Int)))+(v.Subs.length:Int)))
def zbC (f:ze) (v:zb) (ok:Bool) (i:Int):Option ((Bool×Int)⊕Bool):=
 if (decide (i<(v.Words.length:Int))) then (
  (
   if ok then (
    zdn f.Kind>>=fun rv5=>
    if rv5 then (
     idx v.Words i>>=fun x=>
     zgg f.Kind x>>=fun rv6=>
     idx v.Words i>>=fun x2=>
     some (rv6==x2)
    ) else (
     some false
    )
   ) else (
    some false
   )
  )>>=fun g2=>
  some (.inl (g2,(IntKind.i64.wrap (i+1))))
 ) else (
  some (.inr ok)
 )
def zdX (f:ze) (v:zb) (ok:Bool) (i:Int):Option Bool:=zab (fun s:(Bool×Int)=>zbC f v s.1 s.2) (ok,i)
def zbD (f:ze) (v:zb) (ok4:Bool) (i2:Int):Option ((Bool×Int)⊕Bool):=
 if (decide (i2<(v.Texts.length:Int))) then (
  (
   if ok4 then (
    if (f.Kind==16) then (
     some true
    ) else (
     if (f.Kind==15) then (
      idx v.Texts i2>>=fun x3=>
      lenO x3>>=fun v3=>
      zgf v3>>=fun rv7=>
      some rv7
     ) else (
      some false
     )
    )
   ) else (
    some false
   )
  )>>=fun g3=>
  some (.inl (g3,(IntKind.i64.wrap (i2+1))))
 ) else (
  some (.inr ok4)
 )
def zdY (f:ze) (v:zb) (ok4:Bool) (i2:Int):Option Bool:=zab (fun s:(Bool×Int)=>zbD f v s.1 s.2) (ok4,i2)
def zbE (f:ze) (xe:(List zg)->Int->zc->Option Bool) (sv:(List zg)) (v:zb) (ok7:Bool) (i3:Int):Option ((Bool×Int)⊕Bool):=
 if (decide (i3<(v.Subs.length:Int))) then (
  (
   if ok7 then (
    if (f.Kind==17) then (
     idx v.Subs i3>>=fun x4=>
     xe sv f.Of x4>>=fun rv8=>
     some rv8
    ) else (
     some false
    )
   ) else (
    some false
   )
  )>>=fun g4=>
  some (.inl (g4,(IntKind.i64.wrap (i3+1))))
 ) else (
  some (.inr ok7)
 )
def zdZ (f:ze) (xe:(List zg)->Int->zc->Option Bool) (sv:(List zg)) (v:zb) (ok7:Bool) (i3:Int):Option Bool:=zab (fun s:(Bool×Int)=>zbE f xe sv v s.1 s.2) (ok7,i3)
def zfL (xd:(List zg)->ze->zb->Option Bool) (xe:(List zg)->Int->zc->Option Bool) (sv:(List zg)) (f:ze) (v:zb):Option Bool:=
 (
  zdo v>>=fun rv=>
  if (rv==0) then (
   some true
  ) else (
   zdo v>>=fun rv2=>
   if (decide (rv2>1)) then (
    if (!f.Repeated) then (
     some true
    ) else (
     zcJ f.Kind>>=fun rv3=>
     some (!rv3)
    )
   ) else (
    zcJ f.Kind>>=fun rv4=>
    some (!rv4)
   )
  )
 )>>=fun g=>
 if g then (
  some false
 ) else (
  zdX f v true 0>>=fun q=>
  zdY f v q 0>>=fun q2=>
  zdZ f xe sv v q2 0>>=fun q3=>
  some q3
 )
def zaR (xd:(List zg)->ze->zb->Option Bool) (root:Int) (sv:(List zg)) (x:zc) (i:Int):Option (Int⊕(Unit⊕Unit)):=
 if (decide (i<(x.Values.length:Int))) then (
  idx sv root>>=fun x2=>
  idx x.Values i>>=fun x3=>
  zdL x2 x3.Number>>=fun rv=>
  (
   if (decide (rv<0)) then (
    some true
   ) else (
    if (decide (i>0)) then (
     idx x.Values (IntKind.i64.wrap (i - 1))>>=fun x4=>
     idx x.Values i>>=fun x5=>
     if (decide (x4.Number>=x5.Number)) then (
      some true
     ) else (
      idx sv root>>=fun x6=>
      idx x6.Fields rv>>=fun x7=>
      idx x.Values i>>=fun x8=>
      xd sv x7 x8>>=fun rv2=>
      some (!rv2)
     )
    ) else (
     idx sv root>>=fun x9=>
     idx x9.Fields rv>>=fun x10=>
     idx x.Values i>>=fun x11=>
     xd sv x10 x11>>=fun rv3=>
     some (!rv3)
    )
   )
  )>>=fun g=>
  if g then (
   some (.inr (.inr ()))
  ) else (
   some (.inl (IntKind.i64.wrap (i+1)))
  )
 ) else (
  some (.inr (.inl ()))
 )
def zdz (xd:(List zg)->ze->zb->Option Bool) (root:Int) (sv:(List zg)) (x:zc) (i:Int):Option (Unit⊕Unit):=zab (fun s:Int=>zaR xd root sv x s) i
def zaS (root:Int) (sv:(List zg)) (x:zc) (i2:Int):Option (Int⊕(Unit⊕Unit)):=
 if (decide (i2<(x.Unknown.length:Int))) then (
  idx x.Unknown i2>>=fun x12=>
  lenO x12>>=fun v3=>
  zgL v3 0>>=fun rv4=>
  (
   if (rv4.2 !=0) then (
    some true
   ) else (
    idx x.Unknown i2>>=fun x13=>
    if (rv4.1.To !=(x13.length:Int)) then (
     some true
    ) else (
     idx sv root>>=fun x14=>
     zdL x14 rv4.1.Number>>=fun rv5=>
     some (decide (rv5>=0))
    )
   )
  )>>=fun g2=>
  if g2 then (
   some (.inr (.inr ()))
  ) else (
   some (.inl (IntKind.i64.wrap (i2+1)))
  )
 ) else (
  some (.inr (.inl ()))
 )
def zdA (root:Int) (sv:(List zg)) (x:zc) (i2:Int):Option (Unit⊕Unit):=zab (fun s:Int=>zaS root sv x s) i2
def zfn (xd:(List zg)->ze->zb->Option Bool) (xe:(List zg)->Int->zc->Option Bool) (sv:(List zg)) (root:Int) (x:zc):Option Bool:=
 if ((decide (root<0))|| (decide (root>=(sv.length:Int)))) then (
  some false
 ) else (
  zdz xd root sv x 0>>=fun q=>
  match q with
  | .inl u=>(
   zdA root sv x 0>>=fun q2=>
   match q2 with
   | .inl u2=>(
    some true
   )
   | .inr u3=>(
    some false
   )
  )
  | .inr u4=>(
   some false
  )
 )
def zav:Nat->((List zg)->ze->zb->Option Bool)×((List zg)->Int->zc->Option Bool)
  | 0=>(fun _ _ _=>none,fun _ _ _=>none)
  | fuel+1=>(fun sv f v=>zfL (zav fuel).1 (zav fuel).2 sv f v,fun sv root x=>zfn (zav fuel).1 (zav fuel).2 sv root x)
def zes (fuel:Nat):(List zg)->ze->zb->Option Bool:=(zav fuel).1
def zcK (fuel:Nat):(List zg)->Int->zc->Option Bool:=(zav fuel).2
theorem znE (h:zbC f v ok i=some (.inl (ok',i'))):zdX f v ok i=zdX f v ok' i':=zF (body:=fun s:(Bool×Int)=>zbC f v s.1 s.2) h
theorem znF (h:zbC f v ok i=some (.inr oo_)):zdX f v ok i=some oo_:=zE (body:=fun s:(Bool×Int)=>zbC f v s.1 s.2) h
theorem znG (h:zbD f v ok4 i2=some (.inl (ok4',i2'))):zdY f v ok4 i2=zdY f v ok4' i2':=zF (body:=fun s:(Bool×Int)=>zbD f v s.1 s.2) h
theorem znH (h:zbD f v ok4 i2=some (.inr oo_)):zdY f v ok4 i2=some oo_:=zE (body:=fun s:(Bool×Int)=>zbD f v s.1 s.2) h
theorem znI (h:zbE f xe sv v ok7 i3=some (.inl (ok7',i3'))):zdZ f xe sv v ok7 i3=zdZ f xe sv v ok7' i3':=zF (body:=fun s:(Bool×Int)=>zbE f xe sv v s.1 s.2) h
theorem znJ (h:zbE f xe sv v ok7 i3=some (.inr oo_)):zdZ f xe sv v ok7 i3=some oo_:=zE (body:=fun s:(Bool×Int)=>zbE f xe sv v s.1 s.2) h
theorem zmU (h:zaR xd root sv x i=some (.inl i')):zdz xd root sv x i=zdz xd root sv x i':=zF (body:=fun s:Int=>zaR xd root sv x s) h
theorem zjc (h:zaR xd root sv x i=some (.inr oo_)):zdz xd root sv x i=some oo_:=zE (body:=fun s:Int=>zaR xd root sv x s) h
theorem zmV (h:zaS root sv x i2=some (.inl i2')):zdA root sv x i2=zdA root sv x i2':=zF (body:=fun s:Int=>zaS root sv x s) h
theorem zjd (h:zaS root sv x i2=some (.inr oo_)):zdA root sv x i2=some oo_:=zE (body:=fun s:Int=>zaS root sv x s) h
def zkM (fuel:Nat) (sv:(List zg)) (root:Int) (x:zc):Option Bool:=
 (
  zmG sv root 0>>=fun rv=>
  if (rv==0) then (
   zlX fuel x>>=fun rv2=>
   if rv2 then (
    zex fuel sv root x>>=fun rv3=>
    some rv3
   ) else (
    some false
   )
  ) else (
   some false
  )
 )>>=fun g=>
 some g
def zdI (xn:zb->Option zb) (rv:(List zb)) (v:(List zb)) (v2:Int):Option (((List zb)×Int)⊕(List zb)):=
 if (decide (v2<(rv.length:Int))) then (
  idx v v2>>=fun x2=>
  xn x2>>=fun rv3=>
  idx v v2>>=fun x3=>
  some (.inl ((v.set (Int.toNat v2) rv3),(IntKind.i64.wrap (v2+1))))
 ) else (
  some (.inr v)
 )
def zhw (xn:zb->Option zb) (rv:(List zb)) (v:(List zb)) (v2:Int):Option (List zb):=zab (fun s:((List zb)×Int)=>zdI xn rv s.1 s.2) (v,v2)
def zjx (xm:zc->Option zc) (xn:zb->Option zb) (x:zc):Option zc:=
 zbh x.Values>>=fun rv=>
 zbN x.Unknown>>=fun rv2=>
 zhw xn rv rv 0>>=fun q=>
 some (⟨q,rv2⟩:zc)
def zbT (xm:zc->Option zc) (rv3:(List zc)) (v2:(List zc)) (v3:Int):Option (((List zc)×Int)⊕(List zc)):=
 if (decide (v3<(rv3.length:Int))) then (
  idx v2 v3>>=fun x=>
  xm x>>=fun rv4=>
  idx v2 v3>>=fun x2=>
  some (.inl ((v2.set (Int.toNat v3) rv4),(IntKind.i64.wrap (v3+1))))
 ) else (
  some (.inr v2)
 )
def zeI (xm:zc->Option zc) (rv3:(List zc)) (v2:(List zc)) (v3:Int):Option (List zc):=zab (fun s:((List zc)×Int)=>zbT xm rv3 s.1 s.2) (v2,v3)
def zgs (xm:zc->Option zc) (xn:zb->Option zb) (v:zb):Option zb:=
 zcB v.Words>>=fun rv=>
 zbN v.Texts>>=fun rv2=>
 zbU v.Subs>>=fun rv3=>
 zeI xm rv3 rv3 0>>=fun q=>
 some (⟨v.Number,rv,rv2,q⟩:zb)
def zbk:Nat->(zc->Option zc)×(zb->Option zb)
  | 0=>(fun _=>none,fun _=>none)
  | fuel+1=>(fun x=>zjx (zbk fuel).1 (zbk fuel).2 x,fun v=>zgs (zbk fuel).1 (zbk fuel).2 v)
def zhI (fuel:Nat):zc->Option zc:=(zbk fuel).1
def zga (fuel:Nat):zb->Option zb:=(zbk fuel).2
theorem zsv (h:zdI xn rv v v2=some (.inl (v',v2'))):zhw xn rv v v2=zhw xn rv v' v2':=zF (body:=fun s:((List zb)×Int)=>zdI xn rv s.1 s.2) h
theorem zsw (h:zdI xn rv v v2=some (.inr oo_)):zhw xn rv v v2=some oo_:=zE (body:=fun s:((List zb)×Int)=>zdI xn rv s.1 s.2) h
theorem zoz (h:zbT xm rv3 v2 v3=some (.inl (v2',v3'))):zeI xm rv3 v2 v3=zeI xm rv3 v2' v3':=zF (body:=fun s:((List zc)×Int)=>zbT xm rv3 s.1 s.2) h
theorem zoA (h:zbT xm rv3 v2 v3=some (.inr oo_)):zeI xm rv3 v2 v3=some oo_:=zE (body:=fun s:((List zc)×Int)=>zbT xm rv3 s.1 s.2) h
def zlW (fuel:Nat) (x:zc):Option zc:=
 zlX fuel x>>=fun rv=>
 if (!rv) then (
  some (⟨[],[]⟩:zc)
 ) else (
  zhI fuel x>>=fun rv2=>
  some rv2
 )
def zbd (av:zc) (b:zc) (xl:zb->zb->Option Bool) (i:Int):Option (Int⊕(Unit⊕Unit)):=
 if (decide (i<(av.Values.length:Int))) then (
  idx av.Values i>>=fun x=>
  idx b.Values i>>=fun x2=>
  xl x x2>>=fun rv=>
  if (!rv) then (
   some (.inr (.inr ()))
  ) else (
   some (.inl (IntKind.i64.wrap (i+1)))
  )
 ) else (
  some (.inr (.inl ()))
 )
def zea (av:zc) (b:zc) (xl:zb->zb->Option Bool) (i:Int):Option (Unit⊕Unit):=zab (fun s:Int=>zbd av b xl s) i
def zbe (av:zc) (b:zc) (i2:Int):Option (Int⊕(Unit⊕Unit)):=
 if (decide (i2<(av.Unknown.length:Int))) then (
  idx av.Unknown i2>>=fun x3=>
  idx b.Unknown i2>>=fun x4=>
  if (!(x3==x4)) then (
   some (.inr (.inr ()))
  ) else (
   some (.inl (IntKind.i64.wrap (i2+1)))
  )
 ) else (
  some (.inr (.inl ()))
 )
def zeb (av:zc) (b:zc) (i2:Int):Option (Unit⊕Unit):=zab (fun s:Int=>zbe av b s) i2
def zfM (xk:zc->zc->Option Bool) (xl:zb->zb->Option Bool) (av:zc) (b:zc):Option Bool:=
 if (((av.Values.length:Int) !=(b.Values.length:Int))|| ((av.Unknown.length:Int) !=(b.Unknown.length:Int))) then (
  some false
 ) else (
  zea av b xl 0>>=fun q=>
  match q with
  | .inl u=>(
   zeb av b 0>>=fun q2=>
   match q2 with
   | .inl u2=>(
    some true
   )
   | .inr u3=>(
    some false
   )
  )
  | .inr u4=>(
   some false
  )
 )
def zaq (av:zb) (b:zb) (i:Int):Option (Int⊕(Unit⊕Unit)):=
 if (decide (i<(av.Words.length:Int))) then (
  idx av.Words i>>=fun x=>
  idx b.Words i>>=fun x2=>
  if (x !=x2) then (
   some (.inr (.inr ()))
  ) else (
   some (.inl (IntKind.i64.wrap (i+1)))
  )
 ) else (
  some (.inr (.inl ()))
 )
def zcE (av:zb) (b:zb) (i:Int):Option (Unit⊕Unit):=zab (fun s:Int=>zaq av b s) i
def zar (av:zb) (b:zb) (i2:Int):Option (Int⊕(Unit⊕Unit)):=
 if (decide (i2<(av.Texts.length:Int))) then (
  idx av.Texts i2>>=fun x3=>
  idx b.Texts i2>>=fun x4=>
  if (!(x3==x4)) then (
   some (.inr (.inr ()))
  ) else (
   some (.inl (IntKind.i64.wrap (i2+1)))
  )
 ) else (
  some (.inr (.inl ()))
 )
def zcF (av:zb) (b:zb) (i2:Int):Option (Unit⊕Unit):=zab (fun s:Int=>zar av b s) i2
def zas (av:zb) (b:zb) (xk:zc->zc->Option Bool) (i3:Int):Option (Int⊕(Unit⊕Unit)):=
 if (decide (i3<(av.Subs.length:Int))) then (
  idx av.Subs i3>>=fun x5=>
  idx b.Subs i3>>=fun x6=>
  xk x5 x6>>=fun rv=>
  if (!rv) then (
   some (.inr (.inr ()))
  ) else (
   some (.inl (IntKind.i64.wrap (i3+1)))
  )
 ) else (
  some (.inr (.inl ()))
 )
def zcG (av:zb) (b:zb) (xk:zc->zc->Option Bool) (i3:Int):Option (Unit⊕Unit):=zab (fun s:Int=>zas av b xk s) i3
def zdF (xk:zc->zc->Option Bool) (xl:zb->zb->Option Bool) (av:zb) (b:zb):Option Bool:=
 if ((av.Number !=b.Number)|| (((av.Words.length:Int) !=(b.Words.length:Int))|| (((av.Texts.length:Int) !=(b.Texts.length:Int))|| ((av.Subs.length:Int) !=(b.Subs.length:Int))))) then (
  some false
 ) else (
  zcE av b 0>>=fun q=>
  match q with
  | .inl u=>(
   zcF av b 0>>=fun q2=>
   match q2 with
   | .inl u2=>(
    zcG av b xk 0>>=fun q3=>
    match q3 with
    | .inl u3=>(
     some true
    )
    | .inr u4=>(
     some false
    )
   )
   | .inr u5=>(
    some false
   )
  )
  | .inr u6=>(
   some false
  )
 )
def zam:Nat->(zc->zc->Option Bool)×(zb->zb->Option Bool)
  | 0=>(fun _ _=>none,fun _ _=>none)
  | fuel+1=>(fun av b=>zfM (zam fuel).1 (zam fuel).2 av b,fun av b=>zdF (zam fuel).1 (zam fuel).2 av b)
def zbf (fuel:Nat):zc->zc->Option Bool:=(zam fuel).1
def zcL (fuel:Nat):zb->zb->Option Bool:=(zam fuel).2
theorem znK (h:zbd av b xl i=some (.inl i')):zea av b xl i=zea av b xl i':=zF (body:=fun s:Int=>zbd av b xl s) h
theorem zjp (h:zbd av b xl i=some (.inr oo_)):zea av b xl i=some oo_:=zE (body:=fun s:Int=>zbd av b xl s) h
theorem znL (h:zbe av b i2=some (.inl i2')):zeb av b i2=zeb av b i2':=zF (body:=fun s:Int=>zbe av b s) h
theorem zjq (h:zbe av b i2=some (.inr oo_)):zeb av b i2=some oo_:=zE (body:=fun s:Int=>zbe av b s) h
theorem zla (h:zaq av b i=some (.inl i')):zcE av b i=zcE av b i':=zF (body:=fun s:Int=>zaq av b s) h
theorem zhD (h:zaq av b i=some (.inr oo_)):zcE av b i=some oo_:=zE (body:=fun s:Int=>zaq av b s) h
theorem zlb (h:zar av b i2=some (.inl i2')):zcF av b i2=zcF av b i2':=zF (body:=fun s:Int=>zar av b s) h
theorem zhE (h:zar av b i2=some (.inr oo_)):zcF av b i2=some oo_:=zE (body:=fun s:Int=>zar av b s) h
theorem zlc (h:zas av b xk i3=some (.inl i3')):zcG av b xk i3=zcG av b xk i3':=zF (body:=fun s:Int=>zas av b xk s) h
theorem zhF (h:zas av b xk i3=some (.inr oo_)):zcG av b xk i3=some oo_:=zE (body:=fun s:Int=>zas av b xk s) h
def ziw (fuel:Nat) (x:zc) (v:(List zg)) (v2:Int):Option Bool:=
 zkM fuel v v2 x>>=fun rv=>
 some (!rv)
def zC (fuel:Nat) (sv:(List zc)) (v:(List zg)) (v2:Int) (v3:Int):Option (Int⊕(Unit⊕Int)):=
 if (decide (v3<(sv.length:Int))) then (
  idx sv v3>>=fun x=>
  ziw fuel x v v2>>=fun rv=>
  if rv then (
   some (.inr (.inr v3))
  ) else (
   some (.inl (IntKind.i64.wrap (v3+1)))
  )
 ) else (
  some (.inr (.inl ()))
 )
def zG (fuel:Nat) (sv:(List zc)) (v:(List zg)) (v2:Int) (v3:Int):Option (Unit⊕Int):=zab (fun s:Int=>zC fuel sv v v2 s) v3
def zaz (fuel:Nat) (sv:(List zc)) (v:(List zg)) (v2:Int):Option Int:=
 zG fuel sv v v2 0>>=fun q=>
 match q with
 | .inl u=>(
  some (-1)
 )
 | .inr u2=>(
  some u2
 )
theorem zeP {fuel:Nat} {sv:(List zc)} {v:(List zg)} {v2:Int} {v3:Int} {v3':Int} (h:zC fuel sv v v2 v3=some (.inl v3')):zG fuel sv v v2 v3=zG fuel sv v v2 v3':=zF (body:=fun s:Int=>zC fuel sv v v2 s) h
theorem zcn {fuel:Nat} {sv:(List zc)} {v:(List zg)} {v2:Int} {v3:Int} {oo_:(Unit⊕Int)} (h:zC fuel sv v v2 v3=some (.inr oo_)):zG fuel sv v v2 v3=some oo_:=zE (body:=fun s:Int=>zC fuel sv v v2 s) h
def zag (fuel:Nat) (sv:(List zc)) (v:(List zg)) (v2:Int):Option Bool:=
 zaz fuel sv v v2>>=fun rv=>
 some (decide (rv>=0))
def ziN (fuel:Nat) (sv:(List zg)) (root:Int) (l:(List zc)):Option Int:=
 zag fuel l sv root>>=fun rv=>
 if (!rv) then (
  some 0
 ) else (
  ziS sv>>=fun rv2=>
  if (!rv2) then (
   some 9
  ) else (
   if ((decide (root<0))|| (decide (root>=(sv.length:Int)))) then (
    some 2
   ) else (
    some 12
   )
  )
 )
def zbQ (x:zc) (values:(List (Int×zb))) (v:Int):Option (((List (Int×zb))×Int)⊕(List (Int×zb))):=
 if (decide (v<(x.Values.length:Int))) then (
  idx x.Values v>>=fun x2=>
  some (.inl ((mput values x2.Number x2),(IntKind.i64.wrap (v+1))))
 ) else (
  some (.inr values)
 )
def zez (x:zc) (values:(List (Int×zb))) (v:Int):Option (List (Int×zb)):=zab (fun s:((List (Int×zb))×Int)=>zbQ x s.1 s.2) (values,v)
def zhh (x:zc):Option (List (Int×zb)):=
 zez x ([]:(List (Int×zb))) 0>>=fun q=>
 some q
theorem znZ {x:zc} {values:(List (Int×zb))} {v:Int} {values':(List (Int×zb))} {v':Int} (h:zbQ x values v=some (.inl (values',v'))):zez x values v=zez x values' v':=zF (body:=fun s:((List (Int×zb))×Int)=>zbQ x s.1 s.2) h
theorem zoa {x:zc} {values:(List (Int×zb))} {v:Int} {oo_:(List (Int×zb))} (h:zbQ x values v=some (.inr oo_)):zez x values v=some oo_:=zE (body:=fun s:((List (Int×zb))×Int)=>zbQ x s.1 s.2) h
def zgZ (v:zb):Option zc:=
 if ((v.Subs.length:Int)==0) then (
  some (⟨[],[]⟩:zc)
 ) else (
  idx v.Subs 0>>=fun x=>
  some x
 )
def zie (m:zg) (number:Int):Option ze:=
 zfH m number>>=fun rv=>
 idx m.Fields rv.1>>=fun x=>
 some x
def zjm (number:Int) (x:zc):Option zb:=
 some (⟨number,[],[],([x]:(List zc))⟩:zb)
def zcj (v2:(List Int)) (values:(List (Int×zb))) (l:(List zb)) (v3:Int):Option (((List zb)×Int)⊕(List zb)):=
 if (decide (v3<(v2.length:Int))) then (
  idx v2 v3>>=fun x=>
  app 80 l ([((mget values x).getD (⟨0,[],[],[]⟩:zb))]:(List zb))>>=fun v4=>
  some (.inl (v4,(IntKind.i64.wrap (v3+1))))
 ) else (
  some (.inr l)
 )
def zeW (v2:(List Int)) (values:(List (Int×zb))) (l:(List zb)) (v3:Int):Option (List zb):=zab (fun s:((List zb)×Int)=>zcj v2 values s.1 s.2) (l,v3)
def zhU (values:(List (Int×zb))):Option (List zb):=
 mkO 80 ((⟨0,[],[],[]⟩:zb):zb) 0 (values.length:Int)>>=fun v=>
 zvY values>>=fun v2=>
 zeW v2 values v 0>>=fun q=>
 some q
theorem zoI {v2:(List Int)} {values:(List (Int×zb))} {l:(List zb)} {v3:Int} {l':(List zb)} {v3':Int} (h:zcj v2 values l v3=some (.inl (l',v3'))):zeW v2 values l v3=zeW v2 values l' v3':=zF (body:=fun s:((List zb)×Int)=>zcj v2 values s.1 s.2) h
theorem zoJ {v2:(List Int)} {values:(List (Int×zb))} {l:(List zb)} {v3:Int} {oo_:(List zb)} (h:zcj v2 values l v3=some (.inr oo_)):zeW v2 values l v3=some oo_:=zE (body:=fun s:((List zb)×Int)=>zcj v2 values s.1 s.2) h
def zdf (b:zc) (message:Int) (xf:(List zg)->ze->zb->zb->Option zb) (sv:(List zg)) (values:(List (Int×zb))) (v:Int):Option (((List (Int×zb))×Int)⊕(List (Int×zb))):=
 if (decide (v<(b.Values.length:Int))) then (
  idx b.Values v>>=fun x=>
  if (mget values x.Number).isSome then (
   idx sv message>>=fun x2=>
   zie x2 x.Number>>=fun rv2=>
   xf sv rv2 (⟨((mget values x.Number).getD (⟨0,[],[],[]⟩:zb)).Number,((mget values x.Number).getD (⟨0,[],[],[]⟩:zb)).Words,((mget values x.Number).getD (⟨0,[],[],[]⟩:zb)).Texts,((mget values x.Number).getD (⟨0,[],[],[]⟩:zb)).Subs⟩:zb) x>>=fun rv3=>
   some (.inl ((mput values rv3.Number rv3),(IntKind.i64.wrap (v+1))))
  ) else (
   some (.inl ((mput values x.Number x),(IntKind.i64.wrap (v+1))))
  )
 ) else (
  some (.inr values)
 )
def zgA (b:zc) (message:Int) (xf:(List zg)->ze->zb->zb->Option zb) (sv:(List zg)) (values:(List (Int×zb))) (v:Int):Option (List (Int×zb)):=zab (fun s:((List (Int×zb))×Int)=>zdf b message xf sv s.1 s.2) (values,v)
def ziz (xr:(List zg)->Int->zc->zc->Option zc) (xf:(List zg)->ze->zb->zb->Option zb) (sv:(List zg)) (message:Int) (av:zc) (b:zc):Option zc:=
 zhh av>>=fun rv=>
 zgA b message xf sv rv 0>>=fun q=>
 zhU q>>=fun rv4=>
 zbG ([av.Unknown,b.Unknown]:(List (List Str)))>>=fun rv5=>
 some (⟨rv4,rv5⟩:zc)
def zfl (xr:(List zg)->Int->zc->zc->Option zc) (xf:(List zg)->ze->zb->zb->Option zb) (sv:(List zg)) (f:ze) (v:zb) (wv:zb):Option zb:=
 if f.Repeated then (
  zcu ([v.Words,wv.Words]:(List (List Int)))>>=fun rv=>
  zbG ([v.Texts,wv.Texts]:(List (List Str)))>>=fun rv2=>
  zbM ([v.Subs,wv.Subs]:(List (List zc)))>>=fun rv3=>
  some (⟨f.Number,rv,rv2,rv3⟩:zb)
 ) else (
  if (f.Kind==17) then (
   zgZ v>>=fun rv4=>
   zgZ wv>>=fun rv5=>
   xr sv f.Of rv4 rv5>>=fun rv6=>
   zjm f.Number rv6>>=fun rv7=>
   some (⟨rv7.Number,[],[],rv7.Subs⟩:zb)
  ) else (
   some wv
  )
 )
def zaG:Nat->((List zg)->Int->zc->zc->Option zc)×((List zg)->ze->zb->zb->Option zb)
  | 0=>(fun _ _ _ _=>none,fun _ _ _ _=>none)
  | fuel+1=>(fun sv message av b=>ziz (zaG fuel).1 (zaG fuel).2 sv message av b,fun sv f v wv=>zfl (zaG fuel).1 (zaG fuel).2 sv f v wv)
def ziO (fuel:Nat):(List zg)->Int->zc->zc->Option zc:=(zaG fuel).1
def zgb (fuel:Nat):(List zg)->ze->zb->zb->Option zb:=(zaG fuel).2
theorem zru {b:zc} {message:Int} {xf:(List zg)->ze->zb->zb->Option zb} {sv:(List zg)} {values:(List (Int×zb))} {v:Int} {values':(List (Int×zb))} {v':Int} (h:zdf b message xf sv values v=some (.inl (values',v'))):zgA b message xf sv values v=zgA b message xf sv values' v':=zF (body:=fun s:((List (Int×zb))×Int)=>zdf b message xf sv s.1 s.2) h
theorem zrv {b:zc} {message:Int} {xf:(List zg)->ze->zb->zb->Option zb} {sv:(List zg)} {values:(List (Int×zb))} {v:Int} {oo_:(List (Int×zb))} (h:zdf b message xf sv values v=some (.inr oo_)):zgA b message xf sv values v=some oo_:=zE (body:=fun s:((List (Int×zb))×Int)=>zdf b message xf sv s.1 s.2) h
def zjU (fuel:Nat) (sv:(List zg)) (root:Int) (av:zc) (b:zc):Option (zc×Int):=
 ziN fuel sv root ([av,b]:(List zc))>>=fun rv=>
 if (rv !=0) then (
  some ((⟨[],[]⟩:zc),rv)
 ) else (
  ziO fuel sv root av b>>=fun rv2=>
  zlW fuel rv2>>=fun rv3=>
  some (rv3,0)
 )
def zci (ways:(List (List Int))) (rests:(List (Int×(List (List Int))))) (v:Int):Option (((List (Int×(List (List Int))))×Int)⊕(List (Int×(List (List Int))))):=
 if (decide (v<(ways.length:Int))) then (
  idx ways v>>=fun x=>
  idx x 0>>=fun x2=>
  cut x 1 (x.length:Int)>>=fun v2=>
  app 24 ((mget rests x2).getD []) ([v2]:(List (List Int)))>>=fun v3=>
  some (.inl ((mput rests x2 v3),(IntKind.i64.wrap (v+1))))
 ) else (
  some (.inr rests)
 )
def zeV (ways:(List (List Int))) (rests:(List (Int×(List (List Int))))) (v:Int):Option (List (Int×(List (List Int)))):=zab (fun s:((List (Int×(List (List Int))))×Int)=>zci ways s.1 s.2) (rests,v)
def zhT (ways:(List (List Int))):Option (List (Int×(List (List Int)))):=
 zeV ways ([]:(List (Int×(List (List Int))))) 0>>=fun q=>
 some q
theorem zoG {ways:(List (List Int))} {rests:(List (Int×(List (List Int))))} {v:Int} {rests':(List (Int×(List (List Int))))} {v':Int} (h:zci ways rests v=some (.inl (rests',v'))):zeV ways rests v=zeV ways rests' v':=zF (body:=fun s:((List (Int×(List (List Int))))×Int)=>zci ways s.1 s.2) h
theorem zoH {ways:(List (List Int))} {rests:(List (Int×(List (List Int))))} {v:Int} {oo_:(List (Int×(List (List Int))))} (h:zci ways rests v=some (.inr oo_)):zeV ways rests v=some oo_:=zE (body:=fun s:((List (Int×(List (List Int))))×Int)=>zci ways s.1 s.2) h
def zdC (keep:Bool) (message:Int) (xo:(List zg)->Int->zc->(List (List Int))->Bool->Option zc) (rv:(List (Int×(List (List Int))))) (sv:(List zg)) (x:zc) (v:Int) (f2:(List zb)):Option ((Int×(List zb))⊕(List zb)):=
 if (decide (v<(x.Values.length:Int))) then (
  idx x.Values v>>=fun x2=>
  idx sv message>>=fun x3=>
  zie x3 x2.Number>>=fun rv2=>
  (
   if ((((mget rv x2.Number).getD []).length:Int)==1) then (
    idx ((mget rv x2.Number).getD []) 0>>=fun x4=>
    some ((x4.length:Int)==0)
   ) else (
    some false
   )
  )>>=fun g=>
  if ((!g)&&((decide ((((mget rv x2.Number).getD []).length:Int)>0))&&((rv2.Kind==17)&&(!rv2.Repeated)))) then (
   zgZ x2>>=fun rv3=>
   xo sv rv2.Of rv3 ((mget rv x2.Number).getD []) keep>>=fun rv4=>
   zjm x2.Number rv4>>=fun rv5=>
   app 80 f2 ([(⟨rv5.Number,[],[],rv5.Subs⟩:zb)]:(List zb))>>=fun v3=>
   some (.inl ((IntKind.i64.wrap (v+1)),v3))
  ) else (
   if (g==keep) then (
    app 80 f2 ([x2]:(List zb))>>=fun v4=>
    some (.inl ((IntKind.i64.wrap (v+1)),v4))
   ) else (
    some (.inl ((IntKind.i64.wrap (v+1)),f2))
   )
  )
 ) else (
  some (.inr f2)
 )
def zhi (keep:Bool) (message:Int) (xo:(List zg)->Int->zc->(List (List Int))->Bool->Option zc) (rv:(List (Int×(List (List Int))))) (sv:(List zg)) (x:zc) (v:Int) (f2:(List zb)):Option (List zb):=zab (fun s:(Int×(List zb))=>zdC keep message xo rv sv x s.1 s.2) (v,f2)
def zjl (xo:(List zg)->Int->zc->(List (List Int))->Bool->Option zc) (sv:(List zg)) (message:Int) (x:zc) (ways:(List (List Int))) (keep:Bool):Option zc:=
 ((
  if (!keep) then (
   some x.Unknown
  ) else (
   some []
  )
  :Option (List Str)))>>=fun p=>
 zhT ways>>=fun rv=>
 zhi keep message xo rv sv x 0 []>>=fun q=>
 some (⟨q,p⟩:zc)
def zix:Nat->(List zg)->Int->zc->(List (List Int))->Bool->Option zc
  | 0,_,_,_,_,_=>none
  | fuel+1,sv,message,x,ways,keep=>zjl (zix fuel) sv message x ways keep
theorem zrP {keep:Bool} {message:Int} {xo:(List zg)->Int->zc->(List (List Int))->Bool->Option zc} {rv:(List (Int×(List (List Int))))} {sv:(List zg)} {x:zc} {v:Int} {f2:(List zb)} {v':Int} {f2':(List zb)} (h:zdC keep message xo rv sv x v f2=some (.inl (v',f2'))):zhi keep message xo rv sv x v f2=zhi keep message xo rv sv x v' f2':=zF (body:=fun s:(Int×(List zb))=>zdC keep message xo rv sv x s.1 s.2) h
theorem zrQ {keep:Bool} {message:Int} {xo:(List zg)->Int->zc->(List (List Int))->Bool->Option zc} {rv:(List (Int×(List (List Int))))} {sv:(List zg)} {x:zc} {v:Int} {f2:(List zb)} {oo_:(List zb)} (h:zdC keep message xo rv sv x v f2=some (.inr oo_)):zhi keep message xo rv sv x v f2=some oo_:=zE (body:=fun s:(Int×(List zb))=>zdC keep message xo rv sv x s.1 s.2) h
def zhg (fuel:Nat) (sv:(List zg)) (root:Int) (x:zc) (m:zgY) (keep:Bool):Option (zc×Int):=
 ziN fuel sv root ([x]:(List zc))>>=fun rv=>
 if (rv !=0) then (
  some ((⟨[],[]⟩:zc),rv)
 ) else (
  zrl m.Ways>>=fun rv2=>
  zix fuel sv root x rv2.Ways keep>>=fun rv3=>
  zlW fuel rv3>>=fun rv4=>
  some (rv4,0)
 )
def zjV (fuel:Nat) (sv:(List zg)) (root:Int) (x:zc) (m:zgY):Option (zc×Int):=
 zhg fuel sv root x m true>>=fun rv=>
 some (rv.1,rv.2)
def zid (fuel:Nat) (sv:(List zg)) (root:Int) (x:zc) (m:zgY):Option (zc×Int):=
 zhg fuel sv root x m false>>=fun rv=>
 some (rv.1,rv.2)
def zgc (fuel:Nat):Option Bool:=
 zrl ([([1]:(List Int))]:(List (List Int)))>>=fun rv=>
 zid fuel ([(⟨[109],([(⟨[97],1,3,false,false,0⟩:ze)]:(List ze))⟩:zg)]:(List zg)) 0 (⟨([(⟨1,([5]:(List Int)),[],[]⟩:zb)]:(List zb)),([[16,1]]:(List Str))⟩:zc) rv>>=fun rv2=>
 zjU fuel ([(⟨[109],([(⟨[97],1,3,false,false,0⟩:ze)]:(List ze))⟩:zg)]:(List zg)) 0 rv2.1 (⟨([(⟨1,([5]:(List Int)),[],[]⟩:zb)]:(List zb)),([[16,1]]:(List Str))⟩:zc)>>=fun rv3=>
 some (((IntKind.i64.wrap ((IntKind.i64.wrap rv2.2)+(IntKind.i64.wrap rv3.2)))==0)&&(((rv2.1.Values.length:Int)==0)&&(((rv2.1.Unknown.length:Int)==1)&&(((rv3.1.Values.length:Int)==1)&&((rv3.1.Unknown.length:Int)==2)))))
def zbr (fuel:Nat) (l:(List zc)) (i:Int):Option (Int⊕(Unit⊕Unit)):=
 if (decide (i<(l.length:Int))) then (
  idx l i>>=fun x=>
  zcd fuel x 70>>=fun rv=>
  if (decide (rv>2000)) then (
   some (.inr (.inr ()))
  ) else (
   some (.inl (IntKind.i64.wrap (i+1)))
  )
 ) else (
  some (.inr (.inl ()))
 )
def zeD (fuel:Nat) (l:(List zc)) (i:Int):Option (Unit⊕Unit):=zab (fun s:Int=>zbr fuel l s) i
def zhn (fuel:Nat) (l:(List zc)):Option Bool:=
 zeD fuel l 0>>=fun q=>
 match q with
 | .inl u=>(
  some false
 )
 | .inr u2=>(
  some true
 )
theorem zoh {fuel:Nat} {l:(List zc)} {i:Int} {i':Int} (h:zbr fuel l i=some (.inl i')):zeD fuel l i=zeD fuel l i':=zF (body:=fun s:Int=>zbr fuel l s) h
theorem zjJ {fuel:Nat} {l:(List zc)} {i:Int} {oo_:(Unit⊕Unit)} (h:zbr fuel l i=some (.inr oo_)):zeD fuel l i=some oo_:=zE (body:=fun s:Int=>zbr fuel l s) h
def zbs (fuel:Nat) (l:(List zc)) (root:Int) (sv:(List zg)) (i:Int):Option (Int⊕(Unit⊕Unit)):=
 if (decide (i<(l.length:Int))) then (
  idx l i>>=fun x=>
  zcK fuel sv root x>>=fun rv2=>
  if (!rv2) then (
   some (.inr (.inr ()))
  ) else (
   some (.inl (IntKind.i64.wrap (i+1)))
  )
 ) else (
  some (.inr (.inl ()))
 )
def zeF (fuel:Nat) (l:(List zc)) (root:Int) (sv:(List zg)) (i:Int):Option (Unit⊕Unit):=zab (fun s:Int=>zbs fuel l root sv s) i
def zhp (fuel:Nat) (sv:(List zg)) (root:Int) (l:(List zc)):Option Int:=
 zgM sv root>>=fun rv=>
 if (rv !=0) then (
  some rv
 ) else (
  zeF fuel l root sv 0>>=fun q=>
  match q with
  | .inl u=>(
   some 0
  )
  | .inr u2=>(
   some 12
  )
 )
theorem zoi {fuel:Nat} {l:(List zc)} {root:Int} {sv:(List zg)} {i:Int} {i':Int} (h:zbs fuel l root sv i=some (.inl i')):zeF fuel l root sv i=zeF fuel l root sv i':=zF (body:=fun s:Int=>zbs fuel l root sv s) h
theorem zjK {fuel:Nat} {l:(List zc)} {root:Int} {sv:(List zg)} {i:Int} {oo_:(Unit⊕Unit)} (h:zbs fuel l root sv i=some (.inr oo_)):zeF fuel l root sv i=some oo_:=zE (body:=fun s:Int=>zbs fuel l root sv s) h
def zbF (keep:Bool) (m:(List (List Int))) (xp:(List zg)->Int->zc->(List (List Int))->Bool->Option zc) (root:Int) (sv:(List zg)) (x:zc) (i:Int) (f2:(List zb)):Option ((Int×(List zb))⊕(List zb)):=
 if (decide (i<(x.Values.length:Int))) then (
  idx x.Values i>>=fun x2=>
  idx sv root>>=fun x3=>
  idx sv root>>=fun x4=>
  zdL x4 x2.Number>>=fun rv=>
  idx x3.Fields rv>>=fun x5=>
  zgk m x2.Number>>=fun rv2=>
  zgl m x2.Number>>=fun rv3=>
  if ((!rv3)&&((decide ((rv2.length:Int)>0))&&((x5.Kind==17)&&(!x5.Repeated)))) then (
   idx x2.Subs 0>>=fun x6=>
   xp sv x5.Of x6 rv2 keep>>=fun rv4=>
   app 80 f2 ([(⟨x2.Number,[],[],([rv4]:(List zc))⟩:zb)]:(List zb))>>=fun v2=>
   some (.inl ((IntKind.i64.wrap (i+1)),v2))
  ) else (
   if (rv3==keep) then (
    app 80 f2 ([x2]:(List zb))>>=fun v3=>
    some (.inl ((IntKind.i64.wrap (i+1)),v3))
   ) else (
    some (.inl ((IntKind.i64.wrap (i+1)),f2))
   )
  )
 ) else (
  some (.inr f2)
 )
def zec (keep:Bool) (m:(List (List Int))) (xp:(List zg)->Int->zc->(List (List Int))->Bool->Option zc) (root:Int) (sv:(List zg)) (x:zc) (i:Int) (f2:(List zb)):Option (List zb):=zab (fun s:(Int×(List zb))=>zbF keep m xp root sv x s.1 s.2) (i,f2)
def zfN (xp:(List zg)->Int->zc->(List (List Int))->Bool->Option zc) (sv:(List zg)) (root:Int) (x:zc) (m:(List (List Int))) (keep:Bool):Option zc:=
 ((
  if (!keep) then (
   some x.Unknown
  ) else (
   some []
  )
  :Option (List Str)))>>=fun p=>
 zec keep m xp root sv x 0 []>>=fun q=>
 some (⟨q,p⟩:zc)
def zdp:Nat->(List zg)->Int->zc->(List (List Int))->Bool->Option zc
  | 0,_,_,_,_,_=>none
  | fuel+1,sv,root,x,m,keep=>zfN (zdp fuel) sv root x m keep
theorem znM {keep:Bool} {m:(List (List Int))} {xp:(List zg)->Int->zc->(List (List Int))->Bool->Option zc} {root:Int} {sv:(List zg)} {x:zc} {i:Int} {f2:(List zb)} {i':Int} {f2':(List zb)} (h:zbF keep m xp root sv x i f2=some (.inl (i',f2'))):zec keep m xp root sv x i f2=zec keep m xp root sv x i' f2':=zF (body:=fun s:(Int×(List zb))=>zbF keep m xp root sv x s.1 s.2) h
theorem znN {keep:Bool} {m:(List (List Int))} {xp:(List zg)->Int->zc->(List (List Int))->Bool->Option zc} {root:Int} {sv:(List zg)} {x:zc} {i:Int} {f2:(List zb)} {oo_:(List zb)} (h:zbF keep m xp root sv x i f2=some (.inr oo_)):zec keep m xp root sv x i f2=some oo_:=zE (body:=fun s:(Int×(List zb))=>zbF keep m xp root sv x s.1 s.2) h
def zdi (fuel:Nat) (sv:(List zg)) (root:Int) (x:zc) (ways:(List (List Int))):Option Bool:=
 zgc fuel>>=fun rv=>
 if (!rv) then (
  some false
 ) else (
  (
   zhm sv>>=fun rv2=>
   if (!rv2) then (
    some true
   ) else (
    zhn fuel ([x]:(List zc))>>=fun rv3=>
    if rv3 then (
     some true
    ) else (
     zgF ways>>=fun rv4=>
     some rv4
    )
   )
  )>>=fun g=>
  if g then (
   some true
  ) else (
   zca fuel x>>=fun rv5=>
   zjV fuel sv root x (⟨ways⟩:zgY)>>=fun rv6=>
   zid fuel sv root x (⟨ways⟩:zgY)>>=fun rv7=>
   zhp fuel sv root ([rv5]:(List zc))>>=fun rv8=>
   if (rv8 !=0) then (
    (
     if ((IntKind.i64.wrap rv6.2)==rv8) then (
      if ((IntKind.i64.wrap rv7.2)==rv8) then (
       zca fuel rv6.1>>=fun rv9=>
       zbf fuel rv9 (⟨[],[]⟩:zc)>>=fun rv10=>
       if rv10 then (
        zca fuel rv7.1>>=fun rv11=>
        zbf fuel rv11 (⟨[],[]⟩:zc)>>=fun rv12=>
        some rv12
       ) else (
        some false
       )
      ) else (
       some false
      )
     ) else (
      some false
     )
    )>>=fun g2=>
    some g2
   ) else (
    zhX ways>>=fun rv13=>
    (
     if ((IntKind.i64.wrap ((IntKind.i64.wrap rv6.2)+(IntKind.i64.wrap rv7.2)))==0) then (
      zca fuel rv6.1>>=fun rv14=>
      zdp fuel sv root rv5 rv13 true>>=fun rv15=>
      zbf fuel rv14 rv15>>=fun rv16=>
      if rv16 then (
       zca fuel rv7.1>>=fun rv17=>
       zdp fuel sv root rv5 rv13 false>>=fun rv18=>
       zbf fuel rv17 rv18>>=fun rv19=>
       some rv19
      ) else (
       some false
      )
     ) else (
      some false
     )
    )>>=fun g3=>
    some g3
   )
  )
 )
end
end Go.Proofs.YtekgmimingolbaaGreat
