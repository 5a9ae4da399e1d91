/-
  What the Go functions do, as plain functions. No condition.
-/
import Derived.Test.YtekgmimingolbaaGreatx2K2
set_option autoImplicit true
set_option relaxedAutoImplicit true
namespace Go.Proofs.YtekgmimingolbaaGreat
open Go
set_option linter.unusedVariables false
abbrev Str:=List UInt8
structure zNx where
  a0:Str
  a1:Str
  a2:Str
  a3:Str
  a4:Str
  a5:Str
  a6:Str
  a7:Str
  a8:Str
  a9:Str
  a10:Str
  a11:Str
  a12:Str
  a13:Str
  a14:Str deriving DecidableEq
structure zB where
  Number:Int
  Wire:Int
  From:Int
  At:Int
  To:Int deriving DecidableEq
def zal:Rp zB:=⟨5,true,fun x=>[.int .i64 x.Number,.int .i64 x.Wire,.int .i64 x.From,.int .i64 x.At,.int .i64 x.To],fun _=>rfl,by decide⟩
structure znz where
  Record:zB
  Field:Int
  Run:Bool deriving DecidableEq
structure zx where
  name:Str
  wire:Int deriving DecidableEq
def zC:Rp zx:=⟨2,true,fun x=>[.str x.name,.int .i64 x.wire],fun _=>rfl,by decide⟩
mutual
structure zd where
  Values:(List zb)
  Unknown:(List Str)
structure zb where
  Number:Int
  Words:(List Int)
  Texts:(List Str)
  Subs:(List zd)
end
mutual
def zjv:zd->List LV
  | ⟨x0,x1⟩=>[.sl x0.length 4 (zeN x0),.sl x1.length Rp.str.size (x1.flatMap Rp.str.lv)]
def ziQ:List zd->List LV
  | []=>[]
  | x::l=>zjv x++ziQ l
def zff:zb->List LV
  | ⟨x0,x1,x2,x3⟩=>[.int .i64 x0,.sl x1.length (Rp.int .u64).size (x1.flatMap (Rp.int .u64).lv),.sl x2.length Rp.str.size (x2.flatMap Rp.str.lv),.sl x3.length 2 (ziQ x3)]
def zeN:List zb->List LV
  | []=>[]
  | x::l=>zff x++zeN l
end
theorem ztT (l:List zd):ziQ l=l.flatMap zjv:=by
  induction l with
  | nil=>rfl
  | cons x l ih=>rw [ziQ,ih,xO]
def zc:Rp zd:=⟨2,true,zjv,fun x=>by cases x;rfl,by decide⟩
theorem znj (l:List zb):zeN l=l.flatMap zff:=by
  induction l with
  | nil=>rfl
  | cons x l ih=>rw [zeN,ih,xO]
def za:Rp zb:=⟨4,true,zff,fun x=>by cases x;rfl,by decide⟩
theorem zj (x:zd):zc.lv x=[.sl x.Values.length za.size (x.Values.flatMap za.lv),.sl x.Unknown.length Rp.str.size (x.Unknown.flatMap Rp.str.lv)]:=by
  cases x;simp only [zc,zjv,znj,za]<;>rfl
theorem zi (x:zb):za.lv x=[.int .i64 x.Number,.sl x.Words.length (Rp.int .u64).size (x.Words.flatMap (Rp.int .u64).lv),.sl x.Texts.length Rp.str.size (x.Texts.flatMap Rp.str.lv),.sl x.Subs.length zc.size (x.Subs.flatMap zc.lv)]:=by
  cases x;simp only [za,zff,ztT,zc]<;>rfl
structure ze where
  Name:Str
  Number:Int
  Kind:Int
  Repeated:Bool
  Packed:Bool
  Of:Int deriving DecidableEq
def zf:Rp ze:=⟨6,true,fun x=>[.str x.Name,.int .i64 x.Number,.int .i64 x.Kind,.bool x.Repeated,.bool x.Packed,.int .i64 x.Of],fun _=>rfl,by decide⟩
structure zg where
  Name:Str
  Fields:(List ze) deriving DecidableEq
def zh:Rp zg:=⟨2,true,fun x=>[.str x.Name,.sl x.Fields.length zf.size (x.Fields.flatMap zf.lv)],fun _=>rfl,by decide⟩
structure zce where
  Number:Int
  Wire:Int deriving DecidableEq
def zhU:Rp zce:=⟨2,true,fun x=>[.int .i64 x.Number,.int .i64 x.Wire],fun _=>rfl,by decide⟩
structure zm where
  message:Int
  name:Str deriving DecidableEq
def zr:Rp zm:=⟨2,true,fun x=>[.int .i64 x.message,.str x.name],fun _=>rfl,by decide⟩
structure zn where
  message:Int
  number:Int deriving DecidableEq
def zq:Rp zn:=⟨2,true,fun x=>[.int .i64 x.message,.int .i64 x.number],fun _=>rfl,by decide⟩
structure zbo where
  size:Int
  kinds:(List Int)
  names:(List (zm×Bool))
  numbers:(List (zn×Bool))
structure zbN where
  Message:Int
  Field:Int
  What:Int deriving DecidableEq
def zfY:Rp zbN:=⟨3,true,fun x=>[.int .i64 x.Message,.int .i64 x.Field,.int .i64 x.What],fun _=>rfl,by decide⟩
structure zzC where
  number:Int
  wire:Int deriving DecidableEq
structure zzB where
  field:Int
  run:Bool
  e:Int deriving DecidableEq
structure zKJ where
  R:zB
  Field:Int
  Run:Bool deriving DecidableEq
structure zlJ where
  message:Int
  number:Int
  wire:Int deriving DecidableEq
structure zMM where
  s:(List zg)
  b:(List UInt8)
  met:(List (zlJ×znz))
structure zIr where
  depth:Int
  place:Int
  e:Int deriving DecidableEq
structure zig where
  Ways:(List (List Int)) deriving DecidableEq
def zoR:Rp zig:=⟨1,true,fun x=>[.sl x.Ways.length (Rp.list (Rp.int .i64)).size (x.Ways.flatMap (Rp.list (Rp.int .i64)).lv)],fun _=>rfl,by decide⟩
structure zak where
  a0:Int
  a1:Int deriving DecidableEq
def zbe:Rp zak:=⟨2,true,fun x=>[.int .i64 x.a0,.int .i64 x.a1],fun _=>rfl,by decide⟩
noncomputable section
def zck (sv:(List zd)):Option (List zd):=
 nilO sv (
  some []
 ) (
  app 48 ([]:(List zd)) sv>>=fun v=>
  some v
 )
def zby (sv:(List zb)):Option (List zb):=
 nilO sv (
  some []
 ) (
  app 80 ([]:(List zb)) sv>>=fun v=>
  some v
 )
def zcx (n:Int):Option (List zd):=
 if (decide (n<0)) then (
  none
 ) else (
  if (decide ((IntKind.i64.wrap (n - (IntKind.i64.wrap (0 - 0))))>0)) then (
   mkO 48 ((⟨[],[]⟩:zd):zd) (IntKind.i64.wrap (n - (IntKind.i64.wrap (0 - 0)))) (IntKind.i64.wrap (n - (IntKind.i64.wrap (0 - 0))))>>=fun v=>
   cut v 0 0>>=fun v2=>
   some v2
  ) else (
   some []
  )
 )
def zN (slices:(List (List zd))) (size:Int) (v:Int):Option ((Int×Int)⊕Int):=
 if (decide (v<(slices.length:Int))) then (
  idx slices v>>=fun x=>
  if (decide ((IntKind.i64.wrap (size+(x.length:Int)))<0)) then (
   none
  ) else (
   some (.inl ((IntKind.i64.wrap (size+(x.length:Int))),(IntKind.i64.wrap (v+1))))
  )
 ) else (
  some (.inr size)
 )
def zbz (slices:(List (List zd))) (size:Int) (v:Int):Option Int:=zad (fun s:(Int×Int)=>zN slices s.1 s.2) (size,v)
def zY (slices:(List (List zd))) (newslice:(List zd)) (v2:Int):Option (((List zd)×Int)⊕(List zd)):=
 if (decide (v2<(slices.length:Int))) then (
  idx slices v2>>=fun x2=>
  app 48 newslice x2>>=fun v3=>
  some (.inl (v3,(IntKind.i64.wrap (v2+1))))
 ) else (
  some (.inr newslice)
 )
def zbA (slices:(List (List zd))) (newslice:(List zd)) (v2:Int):Option (List zd):=zad (fun s:((List zd)×Int)=>zY slices s.1 s.2) (newslice,v2)
def zca (slices:(List (List zd))):Option (List zd):=
 zbz slices 0 0>>=fun q=>
 zcx q>>=fun rv=>
 zbA slices rv 0>>=fun q2=>
 some q2
theorem zfw {slices:(List (List zd))} {size:Int} {v:Int} {size':Int} {v':Int} (h:zN slices size v=some (.inl (size',v'))):zbz slices size v=zbz slices size' v':=zF (body:=fun s:(Int×Int)=>zN slices s.1 s.2) h
theorem zjb {slices:(List (List zd))} {size:Int} {v:Int} {oo_:Int} (h:zN slices size v=some (.inr oo_)):zbz slices size v=some oo_:=zE (body:=fun s:(Int×Int)=>zN slices s.1 s.2) h
theorem zfx {slices:(List (List zd))} {newslice:(List zd)} {v2:Int} {newslice':(List zd)} {v2':Int} (h:zY slices newslice v2=some (.inl (newslice',v2'))):zbA slices newslice v2=zbA slices newslice' v2':=zF (body:=fun s:((List zd)×Int)=>zY slices s.1 s.2) h
theorem zjc {slices:(List (List zd))} {newslice:(List zd)} {v2:Int} {oo_:(List zd)} (h:zY slices newslice v2=some (.inr oo_)):zbA slices newslice v2=some oo_:=zE (body:=fun s:((List zd)×Int)=>zY slices s.1 s.2) h
def zay (sv:(List Int)) (v:Int) (v2:Int):Option (Int⊕(Unit⊕Int)):=
 if (decide (v2<(sv.length:Int))) then (
  idx sv v2>>=fun x=>
  if (v==x) then (
   some (.inr (.inr v2))
  ) else (
   some (.inl (IntKind.i64.wrap (v2+1)))
  )
 ) else (
  some (.inr (.inl ()))
 )
def zcN (sv:(List Int)) (v:Int) (v2:Int):Option (Unit⊕Int):=zad (fun s:Int=>zay sv v s) v2
def zeL (sv:(List Int)) (v:Int):Option Int:=
 zcN sv v 0>>=fun q=>
 match q with
 | .inl u=>(
  some (-1)
 )
 | .inr u2=>(
  some u2
 )
theorem zmf (h:zay sv v v2=some (.inl v2')):zcN sv v v2=zcN sv v v2':=zF (body:=fun s:Int=>zay sv v s) h
theorem ziv (h:zay sv v v2=some (.inr oo_)):zcN sv v v2=some oo_:=zE (body:=fun s:Int=>zay sv v s) h
def zdD (sv:(List Int)) (v:Int):Option Bool:=
 zeL sv v>>=fun rv=>
 some (decide (rv>=0))
def zjG (x:Int):Option Bool:=
 some (x !=x)
def zik (x:Int) (y:Int):Option Int:=
 zjG x>>=fun rv=>
 zjG y>>=fun rv2=>
 if rv then (
  if rv2 then (
   some 0
  ) else (
   some (-1)
  )
 ) else (
  if rv2 then (
   some 1
  ) else (
   if (decide (x<y)) then (
    some (-1)
   ) else (
    if (decide (x>y)) then (
     some 1
    ) else (
     some 0
    )
   )
  )
 )
def zac {σ:Type} (kf:(Rnd σ Str)) (v:(List Str)) (v2:Int) (sg2:σ):Option ((Int×σ)⊕(σ⊕σ)):=
 if (decide (v2<(v.length:Int))) then (
  idx v v2>>=fun x=>
  kf sg2 x>>=fun y=>
  if (!y.1) then (
   some (.inr (.inr y.2))
  ) else (
   some (.inl ((IntKind.i64.wrap (v2+1)),y.2))
  )
 ) else (
  some (.inr (.inl sg2))
 )
def zbd {σ:Type} (kf:(Rnd σ Str)) (v:(List Str)) (v2:Int) (sg2:σ):Option (σ⊕σ):=zad (fun s:(Int×σ)=>zac kf v s.1 s.2) (v2,sg2)
def zaV {σ:Type} (v:(List Str)) (kf:Rnd σ Str) (sg:σ):Option σ:=
 zbd kf v 0 sg>>=fun q=>
 match q with
 | .inl u=>(
  some u
 )
 | .inr u2=>(
  some u2
 )
theorem zjz {σ:Type} {kf:(Rnd σ Str)} {v:(List Str)} {v2:Int} {sg2:σ} {v2':Int} {sg2':σ} (h:zac kf v v2 sg2=some (.inl (v2',sg2'))):zbd kf v v2 sg2=zbd kf v v2' sg2':=zF (body:=fun s:(Int×σ)=>zac kf v s.1 s.2) h
theorem zfT {σ:Type} {kf:(Rnd σ Str)} {v:(List Str)} {v2:Int} {sg2:σ} {oo_:(σ⊕σ)} (h:zac kf v v2 sg2=some (.inr oo_)):zbd kf v v2 sg2=some oo_:=zE (body:=fun s:(Int×σ)=>zac kf v s.1 s.2) h
def zdM (sv:(List Str)):Option (List Str):=
 some sv
def zgu (x:(List Str)):Option (List Str):=zGU x
def zM (f:(List Str)) (x:Str):Option ((List Str)⊕Empty):=
 app 16 f ([x]:(List Str))>>=fun v2=>
 some (.inl v2)
def zam (v:(List Str)):Option (List Str):=
 zaV v (rnd (fun (s:(List Str)) (x:Str)=>zM s x)) (.inl [])>>=fun q=>
 match q with
 | .inl u=>(
  some u
 )
 | .inr j=>(
  nomatch j
 )
def zaG (v:(List Str)):Option (List Str):=
 zam v>>=fun rv=>
 some rv
def zar (v:(List Str)):Option (List Str):=
 zaG v>>=fun rv=>
 zgu rv>>=fun rv3=>
 some rv3
def strings_Join (elems:(List Str)) (sep:Str):Option Str:=zGw elems sep
def zaj (s1:(List Int)) (s2:(List Int)) (v:Int):Option (Int⊕(Unit⊕Int)):=
 if (decide (v<(s1.length:Int))) then (
  idx s1 v>>=fun x=>
  if (decide (v>=(s2.length:Int))) then (
   some (.inr (.inr 1))
  ) else (
   idx s2 v>>=fun x2=>
   zik x x2>>=fun rv=>
   if (rv !=0) then (
    some (.inr (.inr rv))
   ) else (
    some (.inl (IntKind.i64.wrap (v+1)))
   )
  )
 ) else (
  some (.inr (.inl ()))
 )
def zcq (s1:(List Int)) (s2:(List Int)) (v:Int):Option (Unit⊕Int):=zad (fun s:Int=>zaj s1 s2 s) v
def zdP (s1:(List Int)) (s2:(List Int)):Option Int:=
 zcq s1 s2 0>>=fun q=>
 match q with
 | .inl u=>(
  if (decide ((s1.length:Int)<(s2.length:Int))) then (
   some (-1)
  ) else (
   some 0
  )
 )
 | .inr u2=>(
  some u2
 )
theorem zlC {s1:(List Int)} {s2:(List Int)} {v:Int} {v':Int} (h:zaj s1 s2 v=some (.inl v')):zcq s1 s2 v=zcq s1 s2 v':=zF (body:=fun s:Int=>zaj s1 s2 s) h
theorem zdt {s1:(List Int)} {s2:(List Int)} {v:Int} {oo_:(Unit⊕Int)} (h:zaj s1 s2 v=some (.inr oo_)):zcq s1 s2 v=some oo_:=zE (body:=fun s:Int=>zaj s1 s2 s) h
def zau (s1:(List Int)) (s2:(List Int)) (v:Int):Option (Int⊕(Unit⊕Unit)):=
 if (decide (v<(s1.length:Int))) then (
  idx s1 v>>=fun x=>
  idx s2 v>>=fun x2=>
  if (x !=x2) then (
   some (.inr (.inr ()))
  ) else (
   some (.inl (IntKind.i64.wrap (v+1)))
  )
 ) else (
  some (.inr (.inl ()))
 )
def zcM (s1:(List Int)) (s2:(List Int)) (v:Int):Option (Unit⊕Unit):=zad (fun s:Int=>zau s1 s2 s) v
def zeJ (s1:(List Int)) (s2:(List Int)):Option Bool:=
 if ((s1.length:Int) !=(s2.length:Int)) then (
  some false
 ) else (
  zcM s1 s2 0>>=fun q=>
  match q with
  | .inl u=>(
   some true
  )
  | .inr u2=>(
   some false
  )
 )
theorem zme {s1:(List Int)} {s2:(List Int)} {v:Int} {v':Int} (h:zau s1 s2 v=some (.inl v')):zcM s1 s2 v=zcM s1 s2 v':=zF (body:=fun s:Int=>zau s1 s2 s) h
theorem ziu {s1:(List Int)} {s2:(List Int)} {v:Int} {oo_:(Unit⊕Unit)} (h:zau s1 s2 v=some (.inr oo_)):zcM s1 s2 v=some oo_:=zE (body:=fun s:Int=>zau s1 s2 s) h
def zeI (sv:(List Int)):Option (List Int):=
 nilO sv (
  some []
 ) (
  app 8 ([]:(List Int)) sv>>=fun v=>
  some v
 )
def zah {σ:Type} (kf:(Rnd σ (List Int))) (v:(List (List Int))) (v2:Int) (sg2:σ):Option ((Int×σ)⊕(σ⊕σ)):=
 if (decide (v2<(v.length:Int))) then (
  idx v v2>>=fun x=>
  kf sg2 x>>=fun y=>
  if (!y.1) then (
   some (.inr (.inr y.2))
  ) else (
   some (.inl ((IntKind.i64.wrap (v2+1)),y.2))
  )
 ) else (
  some (.inr (.inl sg2))
 )
def zbn {σ:Type} (kf:(Rnd σ (List Int))) (v:(List (List Int))) (v2:Int) (sg2:σ):Option (σ⊕σ):=zad (fun s:(Int×σ)=>zah kf v s.1 s.2) (v2,sg2)
def zbl {σ:Type} (v:(List (List Int))) (kf:Rnd σ (List Int)) (sg:σ):Option σ:=
 zbn kf v 0 sg>>=fun q=>
 match q with
 | .inl u=>(
  some u
 )
 | .inr u2=>(
  some u2
 )
theorem zjY {σ:Type} {kf:(Rnd σ (List Int))} {v:(List (List Int))} {v2:Int} {sg2:σ} {v2':Int} {sg2':σ} (h:zah kf v v2 sg2=some (.inl (v2',sg2'))):zbn kf v v2 sg2=zbn kf v v2' sg2':=zF (body:=fun s:(Int×σ)=>zah kf v s.1 s.2) h
theorem zgp {σ:Type} {kf:(Rnd σ (List Int))} {v:(List (List Int))} {v2:Int} {sg2:σ} {oo_:(σ⊕σ)} (h:zah kf v v2 sg2=some (.inr oo_)):zbn kf v v2 sg2=some oo_:=zE (body:=fun s:(Int×σ)=>zah kf v s.1 s.2) h
def zen (sv:(List (List Int))):Option (List (List Int)):=
 some sv
def zO (f:(List (List Int))) (x:(List Int)):Option ((List (List Int))⊕Empty):=
 app 24 f ([x]:(List (List Int)))>>=fun v2=>
 some (.inl v2)
def zav (v:(List (List Int))):Option (List (List Int)):=
 zbl v (rnd (fun (s:(List (List Int))) (x:(List Int))=>zO s x)) (.inl [])>>=fun q=>
 match q with
 | .inl u=>(
  some u
 )
 | .inr j=>(
  nomatch j
 )
def zaO (v:(List (List Int))):Option (List (List Int)):=
 zav v>>=fun rv=>
 some rv
def zbm (x:(List (List Int))):Option (List (List Int)):=zCj x
def zP (v:(List (List Int))):Option (List (List Int)):=
 zaO v>>=fun rv=>
 zbm rv>>=fun rv3=>
 some rv3
def zcc (sv:(List Str)):Option (List Str):=
 nilO sv (
  some []
 ) (
  app 16 ([]:(List Str)) sv>>=fun v=>
  some v
 )
def zcS (sv:(List Int)):Option (List Int):=
 nilO sv (
  some []
 ) (
  app 8 ([]:(List Int)) sv>>=fun v=>
  some v
 )
def zdg (n:Int):Option (List Int):=
 if (decide (n<0)) then (
  none
 ) else (
  if (decide ((IntKind.i64.wrap (n - (IntKind.i64.wrap (0 - 0))))>0)) then (
   mkO 8 (0:Int) (IntKind.i64.wrap (n - (IntKind.i64.wrap (0 - 0)))) (IntKind.i64.wrap (n - (IntKind.i64.wrap (0 - 0))))>>=fun v=>
   cut v 0 0>>=fun v2=>
   some v2
  ) else (
   some []
  )
 )
def zT (slices:(List (List Int))) (size:Int) (v:Int):Option ((Int×Int)⊕Int):=
 if (decide (v<(slices.length:Int))) then (
  idx slices v>>=fun x=>
  if (decide ((IntKind.i64.wrap (size+(x.length:Int)))<0)) then (
   none
  ) else (
   some (.inl ((IntKind.i64.wrap (size+(x.length:Int))),(IntKind.i64.wrap (v+1))))
  )
 ) else (
  some (.inr size)
 )
def zcn (slices:(List (List Int))) (size:Int) (v:Int):Option Int:=zad (fun s:(Int×Int)=>zT slices s.1 s.2) (size,v)
def zag (slices:(List (List Int))) (newslice:(List Int)) (v2:Int):Option (((List Int)×Int)⊕(List Int)):=
 if (decide (v2<(slices.length:Int))) then (
  idx slices v2>>=fun x2=>
  app 8 newslice x2>>=fun v3=>
  some (.inl (v3,(IntKind.i64.wrap (v2+1))))
 ) else (
  some (.inr newslice)
 )
def zco (slices:(List (List Int))) (newslice:(List Int)) (v2:Int):Option (List Int):=zad (fun s:((List Int)×Int)=>zag slices s.1 s.2) (newslice,v2)
def zcL (slices:(List (List Int))):Option (List Int):=
 zcn slices 0 0>>=fun q=>
 zdg q>>=fun rv=>
 zco slices rv 0>>=fun q2=>
 some q2
theorem zgn {slices:(List (List Int))} {size:Int} {v:Int} {size':Int} {v':Int} (h:zT slices size v=some (.inl (size',v'))):zcn slices size v=zcn slices size' v':=zF (body:=fun s:(Int×Int)=>zT slices s.1 s.2) h
theorem zjW {slices:(List (List Int))} {size:Int} {v:Int} {oo_:Int} (h:zT slices size v=some (.inr oo_)):zcn slices size v=some oo_:=zE (body:=fun s:(Int×Int)=>zT slices s.1 s.2) h
theorem zgo {slices:(List (List Int))} {newslice:(List Int)} {v2:Int} {newslice':(List Int)} {v2':Int} (h:zag slices newslice v2=some (.inl (newslice',v2'))):zco slices newslice v2=zco slices newslice' v2':=zF (body:=fun s:((List Int)×Int)=>zag slices s.1 s.2) h
theorem zjX {slices:(List (List Int))} {newslice:(List Int)} {v2:Int} {oo_:(List Int)} (h:zag slices newslice v2=some (.inr oo_)):zco slices newslice v2=some oo_:=zE (body:=fun s:((List Int)×Int)=>zag slices s.1 s.2) h
def zdf (n:Int):Option (List Str):=
 if (decide (n<0)) then (
  none
 ) else (
  if (decide ((IntKind.i64.wrap (n - (IntKind.i64.wrap (0 - 0))))>0)) then (
   mkO 16 ([]:Str) (IntKind.i64.wrap (n - (IntKind.i64.wrap (0 - 0)))) (IntKind.i64.wrap (n - (IntKind.i64.wrap (0 - 0))))>>=fun v=>
   cut v 0 0>>=fun v2=>
   some v2
  ) else (
   some []
  )
 )
def zS (slices:(List (List Str))) (size:Int) (v:Int):Option ((Int×Int)⊕Int):=
 if (decide (v<(slices.length:Int))) then (
  idx slices v>>=fun x=>
  if (decide ((IntKind.i64.wrap (size+(x.length:Int)))<0)) then (
   none
  ) else (
   some (.inl ((IntKind.i64.wrap (size+(x.length:Int))),(IntKind.i64.wrap (v+1))))
  )
 ) else (
  some (.inr size)
 )
def zcl (slices:(List (List Str))) (size:Int) (v:Int):Option Int:=zad (fun s:(Int×Int)=>zS slices s.1 s.2) (size,v)
def zaf (slices:(List (List Str))) (newslice:(List Str)) (v2:Int):Option (((List Str)×Int)⊕(List Str)):=
 if (decide (v2<(slices.length:Int))) then (
  idx slices v2>>=fun x2=>
  app 16 newslice x2>>=fun v3=>
  some (.inl (v3,(IntKind.i64.wrap (v2+1))))
 ) else (
  some (.inr newslice)
 )
def zcm (slices:(List (List Str))) (newslice:(List Str)) (v2:Int):Option (List Str):=zad (fun s:((List Str)×Int)=>zaf slices s.1 s.2) (newslice,v2)
def zbX (slices:(List (List Str))):Option (List Str):=
 zcl slices 0 0>>=fun q=>
 zdf q>>=fun rv=>
 zcm slices rv 0>>=fun q2=>
 some q2
theorem zgl {slices:(List (List Str))} {size:Int} {v:Int} {size':Int} {v':Int} (h:zS slices size v=some (.inl (size',v'))):zcl slices size v=zcl slices size' v':=zF (body:=fun s:(Int×Int)=>zS slices s.1 s.2) h
theorem zjT {slices:(List (List Str))} {size:Int} {v:Int} {oo_:Int} (h:zS slices size v=some (.inr oo_)):zcl slices size v=some oo_:=zE (body:=fun s:(Int×Int)=>zS slices s.1 s.2) h
theorem zgm {slices:(List (List Str))} {newslice:(List Str)} {v2:Int} {newslice':(List Str)} {v2':Int} (h:zaf slices newslice v2=some (.inl (newslice',v2'))):zcm slices newslice v2=zcm slices newslice' v2':=zF (body:=fun s:((List Str)×Int)=>zaf slices s.1 s.2) h
theorem zjU {slices:(List (List Str))} {newslice:(List Str)} {v2:Int} {oo_:(List Str)} (h:zaf slices newslice v2=some (.inr oo_)):zcm slices newslice v2=some oo_:=zE (body:=fun s:((List Str)×Int)=>zaf slices s.1 s.2) h
def zlT (wv:Int):Option Int:=
 some (IntKind.u32.wrap wv)
def zmr (wv:Int):Option Int:=
 zlT wv>>=fun rv=>
 some (IntKind.i32.wrap rv)
def zms (n:Int):Option Int:=
 some (IntKind.u64.wrap (IntKind.i64.wrap n))
def zgw (wv:Int):Option Int:=
 if (decide ((IntKind.i64.wrap (Int.tmod wv 4294967296))>=2147483648)) then (
  some (IntKind.i64.wrap ((IntKind.i64.wrap (Int.tmod wv 4294967296)) - 4294967296))
 ) else (
  some (IntKind.i64.wrap (Int.tmod wv 4294967296))
 )
def zhA (n:Int):Option Int:=
 if (decide (n>=0)) then (
  some (IntKind.u64.wrap n)
 ) else (
  some (IntKind.u64.wrap (18446744073709551615 - (IntKind.u64.wrap (IntKind.i64.wrap (0 - (IntKind.i64.wrap (n+1)))))))
 )
def zdF (v:(List UInt8)) (wv:Int) (v2:Int):Option ((Int×Int)⊕(Unit⊕(Int×Int×Int))):=
 if (decide (v2<(v.length:Int))) then (
  idx v v2>>=fun x=>
  if ((v2==9)&&(decide ((x.toNat:Int)>1))) then (
   some (.inr (.inr (0,0,4)))
  ) else (
   shlO .u64 (IntKind.u64.wrap (andI .u8 (x.toNat:Int) 127)) (IntKind.i64.wrap (7*v2))>>=fun v4=>
   if (decide ((x.toNat:Int)<128)) then (
    some (.inr (.inr ((orI .u64 wv v4),(IntKind.i64.wrap (v2+1)),0)))
   ) else (
    some (.inl ((orI .u64 wv v4),(IntKind.i64.wrap (v2+1))))
   )
  )
 ) else (
  some (.inr (.inl ()))
 )
def ziz (v:(List UInt8)) (wv:Int) (v2:Int):Option (Unit⊕(Int×Int×Int)):=zad (fun s:(Int×Int)=>zdF v s.1 s.2) (wv,v2)
def ziK (b:(List UInt8)):Option (Int×Int×Int):=
 cut b 0 (if (10:Int)<(b.length:Int) then 10 else (b.length:Int))>>=fun v=>
 ziz v 0 0>>=fun q=>
 match q with
 | .inl u=>(
  some (0,0,3)
 )
 | .inr u2=>(
  some (u2.1,u2.2.1,u2.2.2)
 )
theorem zuu (h:zdF v wv v2=some (.inl (wv',v2'))):ziz v wv v2=ziz v wv' v2':=zF (body:=fun s:(Int×Int)=>zdF v s.1 s.2) h
theorem zkP (h:zdF v wv v2=some (.inr oo_)):ziz v wv v2=some oo_:=zE (body:=fun s:(Int×Int)=>zdF v s.1 s.2) h
def zmo (b2:(List UInt8)) (l:(List Int)):Option (((List UInt8)×(List Int))⊕((List Int)⊕Int)):=
 if (decide ((b2.length:Int)>0)) then (
  ziK b2>>=fun rv=>
  if (rv.2.2 !=0) then (
   some (.inr (.inr rv.2.2))
  ) else (
   app 8 l ([rv.1]:(List Int))>>=fun v2=>
   cut b2 rv.2.1 (b2.length:Int)>>=fun v3=>
   some (.inl (v3,v2))
  )
 ) else (
  some (.inr (.inl l))
 )
def ztF (b2:(List UInt8)) (l:(List Int)):Option ((List Int)⊕Int):=zad (fun s:((List UInt8)×(List Int))=>zmo s.1 s.2) (b2,l)
theorem zvz (h:zmo b2 l=some (.inr oo_)):ztF b2 l=some oo_:=zE (body:=fun s:((List UInt8)×(List Int))=>zmo s.1 s.2) h
def zaX (atv:Int) (b:(List UInt8)) (n:Int):Option (Int⊕Int):=
 (
  if (decide ((IntKind.i64.wrap (atv+n))<(b.length:Int))) then (
   if (decide (n<10)) then (
    idx b (IntKind.i64.wrap (atv+n))>>=fun x=>
    some (decide ((x.toNat:Int)>=128))
   ) else (
    some false
   )
  ) else (
   some false
  )
 )>>=fun g=>
 if g then (
  some (.inl (IntKind.i64.wrap (n+1)))
 ) else (
  some (.inr n)
 )
def zet (atv:Int) (b:(List UInt8)) (n:Int):Option Int:=zad (fun s:Int=>zaX atv b s) n
def zbQ (atv:Int) (b:(List UInt8)) (wv:Int) (i:Int):Option ((Int×Int)⊕Int):=
 if (decide (i>=0)) then (
  idx b (IntKind.i64.wrap (atv+i))>>=fun x3=>
  some (.inl ((IntKind.u64.wrap ((IntKind.u64.wrap (128*wv))+(IntKind.u64.wrap (Int.tmod (x3.toNat:Int) 128)))),(IntKind.i64.wrap (i - 1))))
 ) else (
  some (.inr wv)
 )
def zeu (atv:Int) (b:(List UInt8)) (wv:Int) (i:Int):Option Int:=zad (fun s:(Int×Int)=>zbQ atv b s.1 s.2) (wv,i)
def zfc (b:(List UInt8)) (atv:Int):Option (Int×Int×Int):=
 zet atv b 0>>=fun q=>
 if (q==10) then (
  some (0,0,4)
 ) else (
  if ((IntKind.i64.wrap (atv+q))==(b.length:Int)) then (
   some (0,0,3)
  ) else (
   (
    if (q==9) then (
     idx b (IntKind.i64.wrap (atv+q))>>=fun x2=>
     some (decide ((x2.toNat:Int)>1))
    ) else (
     some false
    )
   )>>=fun g2=>
   if g2 then (
    some (0,0,4)
   ) else (
    zeu atv b 0 q>>=fun q2=>
    some (q2,(IntKind.i64.wrap (q+1)),0)
   )
  )
 )
theorem zoW (h:zaX atv b n=some (.inl n')):zet atv b n=zet atv b n':=zF (body:=fun s:Int=>zaX atv b s) h
theorem zhX (h:zaX atv b n=some (.inr oo_)):zet atv b n=some oo_:=zE (body:=fun s:Int=>zaX atv b s) h
theorem zoX (h:zbQ atv b wv i=some (.inl (wv',i'))):zeu atv b wv i=zeu atv b wv' i':=zF (body:=fun s:(Int×Int)=>zbQ atv b s.1 s.2) h
theorem zoY (h:zbQ atv b wv i=some (.inr oo_)):zeu atv b wv i=some oo_:=zE (body:=fun s:(Int×Int)=>zbQ atv b s.1 s.2) h
def zmN (b:(List UInt8)):Option (Int×Int):=
 ziK b>>=fun rv=>
 some (rv.2.1,rv.2.2)
def zkE (wire:Int):Option Bool:=
 if (wire==0) then (
  if (wire==0) then (
   some true
  ) else (
   some false
  )
 ) else (
  if (wire==1) then (
   if (wire==1) then (
    some true
   ) else (
    some false
   )
  ) else (
   if (wire==2) then (
    if (wire==2) then (
     some true
    ) else (
     some false
    )
   ) else (
    if (wire==5) then (
     some true
    ) else (
     some false
    )
   )
  )
 )
def zqe (t:zce):Option Bool:=
 (
  if (decide (t.Number>=1)) then (
   if (decide (t.Number<=536870911)) then (
    zkE t.Wire>>=fun rv=>
    some rv
   ) else (
    some false
   )
  ) else (
   some false
  )
 )>>=fun g=>
 some g
def zsC (b:(List UInt8)):Option (zce×Int×Int):=
 ziK b>>=fun rv=>
 if (rv.2.2 !=0) then (
  some ((⟨0,0⟩:zce),0,rv.2.2)
 ) else (
  zqe (⟨(IntKind.i64.wrap (if (536870912:Int)<(shrI .u64 rv.1 3) then 536870912 else (shrI .u64 rv.1 3))),(IntKind.i64.wrap (andI .u64 rv.1 7))⟩:zce)>>=fun rv2=>
  if (!rv2) then (
   some ((⟨0,0⟩:zce),0,5)
  ) else (
   some ((⟨(IntKind.i64.wrap (if (536870912:Int)<(shrI .u64 rv.1 3) then 536870912 else (shrI .u64 rv.1 3))),(IntKind.i64.wrap (andI .u64 rv.1 7))⟩:zce),rv.2.1,0)
  )
 )
def zgT (number:Int) (wire:Int):Option Bool:=
 some ((decide (number>=1))&&((decide (number<=536870911))&&((wire==0)|| ((wire==1)|| ((wire==2)|| (wire==5))))))
def zhB (b:(List UInt8)) (atv:Int):Option (Int×Int×Int×Int):=
 zfc b atv>>=fun rv=>
 if (rv.2.2 !=0) then (
  some (0,0,0,rv.2.2)
 ) else (
  (
   if (decide (rv.1>4294967295)) then (
    some true
   ) else (
    zgT (IntKind.i64.wrap (IntKind.u64.wrap (Int.tdiv rv.1 8))) (IntKind.i64.wrap (Int.tmod rv.1 8))>>=fun rv2=>
    some (!rv2)
   )
  )>>=fun g=>
  if g then (
   some (0,0,0,5)
  ) else (
   some ((IntKind.i64.wrap (IntKind.u64.wrap (Int.tdiv rv.1 8))),(IntKind.i64.wrap (Int.tmod rv.1 8)),rv.2.1,0)
  )
 )
def zvy (c:Int):Option (Int×Int):=
 if ((shrI .u8 c 7)==0) then (
  some (1,(IntKind.u32.wrap c))
 ) else (
  if ((shrI .u8 c 5)==6) then (
   some (2,(IntKind.u32.wrap (andI .u8 c 31)))
  ) else (
   if ((shrI .u8 c 4)==14) then (
    some (3,(IntKind.u32.wrap (andI .u8 c 15)))
   ) else (
    if ((shrI .u8 c 3)==30) then (
     some (4,(IntKind.u32.wrap (andI .u8 c 7)))
    ) else (
     some (0,0)
    )
   )
  )
 )
def zqm (wv:Int):Option Int:=
 if ((shrI .u32 wv 7)==0) then (
  some 1
 ) else (
  if ((shrI .u32 wv 11)==0) then (
   some 2
  ) else (
   if ((shrI .u32 wv 11)==27) then (
    some 0
   ) else (
    if ((shrI .u32 wv 16)==0) then (
     some 3
    ) else (
     if (decide (wv<=1114111)) then (
      some 4
     ) else (
      some 0
     )
    )
   )
  )
 )
def zgi (v2:(List UInt8)) (wv:Int) (v3:Int):Option ((Int×Int)⊕(Int⊕Unit)):=
 if (decide (v3<(v2.length:Int))) then (
  idx v2 v3>>=fun x2=>
  if ((shrI .u8 (x2.toNat:Int) 6) !=2) then (
   some (.inr (.inr ()))
  ) else (
   some (.inl ((orI .u32 (shlI .u32 wv 6) (IntKind.u32.wrap (andI .u8 (x2.toNat:Int) 63))),(IntKind.i64.wrap (v3+1))))
  )
 ) else (
  some (.inr (.inl wv))
 )
def zdV (v2:(List UInt8)) (wv:Int) (v3:Int):Option (Int⊕Unit):=zad (fun s:(Int×Int)=>zgi v2 s.1 s.2) (wv,v3)
def zql (b:(List UInt8)):Option Int:=
 if ((b.length:Int)==0) then (
  some 0
 ) else (
  idx b 0>>=fun x=>
  zvy (x.toNat:Int)>>=fun rv=>
  if ((rv.1==0)|| (decide (rv.1>(b.length:Int)))) then (
   some 0
  ) else (
   cut b 1 rv.1>>=fun v2=>
   zdV v2 rv.2 0>>=fun q=>
   match q with
   | .inl u=>(
    zqm u>>=fun rv2=>
    if (rv.1 !=rv2) then (
     some 0
    ) else (
     some rv.1
    )
   )
   | .inr u2=>(
    some 0
   )
  )
 )
theorem zxi (h:zgi v2 wv v3=some (.inl (wv',v3'))):zdV v2 wv v3=zdV v2 wv' v3':=zF (body:=fun s:(Int×Int)=>zgi v2 s.1 s.2) h
theorem zrd (h:zgi v2 wv v3=some (.inr oo_)):zdV v2 wv v3=some oo_:=zE (body:=fun s:(Int×Int)=>zgi v2 s.1 s.2) h
def zgH (b:(List UInt8)) (atv:Int) (points:Int) (size:Int):Option ((Int×Int×Int)⊕(Int×Int)):=
 if (decide (size>0)) then (
  cut b (IntKind.i64.wrap (atv+size)) (b.length:Int)>>=fun v=>
  zql v>>=fun rv2=>
  some (.inl ((IntKind.i64.wrap (atv+size)),(IntKind.i64.wrap (points+1)),rv2))
 ) else (
  some (.inr (atv,points))
 )
def zjP (b:(List UInt8)) (atv:Int) (points:Int) (size:Int):Option (Int×Int):=zad (fun s:(Int×Int×Int)=>zgH b s.1 s.2.1 s.2.2) (atv,points,size)
def zsK (b:(List UInt8)):Option (Int×Int):=
 zql b>>=fun rv=>
 zjP b 0 0 rv>>=fun q=>
 some (q.1,q.2)
theorem zxj (h:zgH b atv points size=some (.inl (atv',points',size'))):zjP b atv points size=zjP b atv' points' size':=zF (body:=fun s:(Int×Int×Int)=>zgH b s.1 s.2.1 s.2.2) h
theorem zxk (h:zgH b atv points size=some (.inr oo_)):zjP b atv points size=some oo_:=zE (body:=fun s:(Int×Int×Int)=>zgH b s.1 s.2.1 s.2.2) h
def zqj (b:(List UInt8)):Option Int:=
 zsK b>>=fun rv=>
 some rv.1
def zqk (b:(List UInt8)):Option Bool:=
 zqj b>>=fun rv=>
 some (rv==(b.length:Int))
def zin (rv:Int):Option (List UInt8):=
 if ((decide (rv<0))|| ((decide (rv>1114111))|| ((decide (rv>=55296))&&(decide (rv<=57343))))) then (
  some []
 ) else (
  if (decide (rv<128)) then (
   zmX (IntKind.u8.wrap rv)>>=fun y=>
   some ([y]:List UInt8)
  ) else (
   if (decide (rv<2048)) then (
    zmX (IntKind.u8.wrap (IntKind.i64.wrap (192+(IntKind.i64.wrap (Int.tdiv rv 64)))))>>=fun y2=>
    zmX (IntKind.u8.wrap (IntKind.i64.wrap (128+(Int.tmod rv 64))))>>=fun y3=>
    some ([y2,y3]:List UInt8)
   ) else (
    if (decide (rv<65536)) then (
     zmX (IntKind.u8.wrap (IntKind.i64.wrap (224+(IntKind.i64.wrap (Int.tdiv rv 4096)))))>>=fun y4=>
     zmX (IntKind.u8.wrap (IntKind.i64.wrap (128+(Int.tmod (IntKind.i64.wrap (Int.tdiv rv 64)) 64))))>>=fun y5=>
     zmX (IntKind.u8.wrap (IntKind.i64.wrap (128+(Int.tmod rv 64))))>>=fun y6=>
     some ([y4,y5,y6]:List UInt8)
    ) else (
     zmX (IntKind.u8.wrap (IntKind.i64.wrap (240+(IntKind.i64.wrap (Int.tdiv rv 262144)))))>>=fun y7=>
     zmX (IntKind.u8.wrap (IntKind.i64.wrap (128+(Int.tmod (IntKind.i64.wrap (Int.tdiv rv 4096)) 64))))>>=fun y8=>
     zmX (IntKind.u8.wrap (IntKind.i64.wrap (128+(Int.tmod (IntKind.i64.wrap (Int.tdiv rv 64)) 64))))>>=fun y9=>
     zmX (IntKind.u8.wrap (IntKind.i64.wrap (128+(Int.tmod rv 64))))>>=fun y10=>
     some ([y7,y8,y9,y10]:List UInt8)
    )
   )
  )
 )
def zbS (atv:Int) (b:(List UInt8)) (n:Int) (rv2:Int) (i:Int):Option ((Int×Int)⊕Int):=
 if (decide (i<n)) then (
  idx b (IntKind.i64.wrap (atv+i))>>=fun x3=>
  some (.inl ((IntKind.i64.wrap ((IntKind.i64.wrap (64*rv2))+(Int.tmod (IntKind.i64.wrap (x3.toNat:Int)) 64))),(IntKind.i64.wrap (i+1))))
 ) else (
  some (.inr rv2)
 )
def zcs (atv:Int) (b:(List UInt8)) (n:Int) (rv2:Int) (i:Int):Option Int:=zad (fun s:(Int×Int)=>zbS atv b n s.1 s.2) (rv2,i)
def zbR (atv:Int) (b:(List UInt8)) (n:Int):Option (Int⊕(Unit⊕Int)):=
 if ((decide (n<=4))&&(decide ((IntKind.i64.wrap (atv+n))<=(b.length:Int)))) then (
  idx b atv>>=fun x=>
  ((
   if (decide (n>1)) then (
    idx ([0,0,32,16,8]:(List Int)) n>>=fun x2=>
    remI (IntKind.i64.wrap (x.toNat:Int)) x2>>=fun v3=>
    some v3
   ) else (
    some (IntKind.i64.wrap (x.toNat:Int))
   )
   :Option Int))>>=fun p=>
  zcs atv b n p 1>>=fun q=>
  zin q>>=fun rv4=>
  cut b atv (IntKind.i64.wrap (atv+n))>>=fun v4=>
  if (rv4==v4) then (
   some (.inr (.inr n))
  ) else (
   some (.inl (IntKind.i64.wrap (n+1)))
  )
 ) else (
  some (.inr (.inl ()))
 )
def zev (atv:Int) (b:(List UInt8)) (n:Int):Option (Unit⊕Int):=zad (fun s:Int=>zbR atv b s) n
def zhC (b:(List UInt8)) (atv:Int):Option Int:=
 zev atv b 1>>=fun q2=>
 match q2 with
 | .inl u=>(
  some 0
 )
 | .inr u2=>(
  some u2
 )
theorem zpa (h:zbS atv b n rv2 i=some (.inl (rv2',i'))):zcs atv b n rv2 i=zcs atv b n rv2' i':=zF (body:=fun s:(Int×Int)=>zbS atv b n s.1 s.2) h
theorem zpb (h:zbS atv b n rv2 i=some (.inr oo_)):zcs atv b n rv2 i=some oo_:=zE (body:=fun s:(Int×Int)=>zbS atv b n s.1 s.2) h
theorem zoZ (h:zbR atv b n=some (.inl n')):zev atv b n=zev atv b n':=zF (body:=fun s:Int=>zbR atv b s) h
theorem zhY (h:zbR atv b n=some (.inr oo_)):zev atv b n=some oo_:=zE (body:=fun s:Int=>zbR atv b s) h
def zbC (b:(List UInt8)) (most:Int) (atv:Int) (count:Int):Option ((Int×Int)⊕(Int×Int)):=
 zhC b atv>>=fun rv=>
 if ((rv==0)|| (decide ((IntKind.i64.wrap (atv+rv))>most))) then (
  some (.inr (atv,count))
 ) else (
  some (.inl ((IntKind.i64.wrap (atv+rv)),(IntKind.i64.wrap (count+1))))
 )
def zdq (b:(List UInt8)) (most:Int) (atv:Int) (count:Int):Option (Int×Int):=zad (fun s:(Int×Int)=>zbC b most s.1 s.2) (atv,count)
def zgU (b:(List UInt8)) (most:Int):Option (Int×Int):=
 zdq b most 0 0>>=fun q=>
 some (q.1,q.2)
theorem zoi (h:zbC b most atv count=some (.inl (atv',count'))):zdq b most atv count=zdq b most atv' count':=zF (body:=fun s:(Int×Int)=>zbC b most s.1 s.2) h
theorem zoj (h:zbC b most atv count=some (.inr oo_)):zdq b most atv count=some oo_:=zE (body:=fun s:(Int×Int)=>zbC b most s.1 s.2) h
def zgV (b:(List UInt8)):Option Bool:=
 zgU b (b.length:Int)>>=fun rv=>
 some (rv.1==(b.length:Int))
def zmI (wire:Int) (b:(List UInt8)):Option (Int×Int×Int):=
 if (wire==0) then (
  zmN b>>=fun rv=>
  some (0,rv.1,rv.2)
 ) else (
  ((
   if (wire==1) then (
    some (0,0,8)
   ) else (
    if (wire==5) then (
     some (0,0,4)
    ) else (
     if (wire==2) then (
      ziK b>>=fun rv2=>
      some (rv2.2.1,rv2.2.2,rv2.1)
     ) else (
      some (0,0,0)
     )
    )
   )
   :Option (Int×Int×Int)))>>=fun p=>
  if (p.2.1 !=0) then (
   some (0,0,p.2.1)
  ) else (
   if (decide (p.2.2>(IntKind.u64.wrap (IntKind.i64.wrap ((b.length:Int) - p.1))))) then (
    some (0,0,3)
   ) else (
    some (p.1,(IntKind.i64.wrap (p.1+(IntKind.i64.wrap p.2.2))),0)
   )
  )
 )
def zmH (b:(List UInt8)) (fromv:Int):Option (zB×Int):=
 if ((decide (fromv<0))|| (decide (fromv>=(b.length:Int)))) then (
  some ((⟨0,0,0,0,0⟩:zB),2)
 ) else (
  cut b fromv (b.length:Int)>>=fun v2=>
  zsC v2>>=fun rv=>
  if (rv.2.2 !=0) then (
   some ((⟨0,0,0,0,0⟩:zB),rv.2.2)
  ) else (
   cut b (IntKind.i64.wrap (fromv+rv.2.1)) (b.length:Int)>>=fun v3=>
   zmI rv.1.Wire v3>>=fun rv2=>
   if (rv2.2.2 !=0) then (
    some ((⟨0,0,0,0,0⟩:zB),rv2.2.2)
   ) else (
    some ((⟨rv.1.Number,rv.1.Wire,fromv,(IntKind.i64.wrap ((IntKind.i64.wrap (fromv+rv.2.1))+rv2.1)),(IntKind.i64.wrap ((IntKind.i64.wrap (fromv+rv.2.1))+rv2.2.1))⟩:zB),0)
   )
  )
 )
def zhD (b:(List UInt8)) (fromv:Int):Option (zB×Int):=
 if ((decide (fromv<0))|| (decide (fromv>=(b.length:Int)))) then (
  some ((⟨0,0,0,0,0⟩:zB),2)
 ) else (
  zhB b fromv>>=fun rv=>
  if (rv.2.2.2 !=0) then (
   some ((⟨0,0,0,0,0⟩:zB),rv.2.2.2)
  ) else (
   ((
    if (rv.2.1==5) then (
     some 4
    ) else (
     some 8
    )
    :Option Int))>>=fun p=>
   ((
    if (rv.2.1==0) then (
     zfc b (IntKind.i64.wrap (fromv+rv.2.2.1))>>=fun rv2=>
     if (rv2.2.2 !=0) then (
      some (.inr rv2.2.2)
     ) else (
      some (.inl rv2.2.1)
     )
    ) else (
     some (.inl p)
    )
    :Option (Int⊕Int)))>>=fun p2=>
   match p2 with
   | .inl u=>(
    ((
     if (rv.2.1==2) then (
      zfc b (IntKind.i64.wrap (fromv+rv.2.2.1))>>=fun rv3=>
      if (rv3.2.2 !=0) then (
       some (.inr rv3.2.2)
      ) else (
       if (decide (rv3.1>(IntKind.u64.wrap (IntKind.i64.wrap ((IntKind.i64.wrap ((b.length:Int) - (IntKind.i64.wrap (fromv+rv.2.2.1)))) - rv3.2.1))))) then (
        some (.inr 3)
       ) else (
        some (.inl ((IntKind.i64.wrap ((IntKind.i64.wrap ((b.length:Int) - (IntKind.i64.wrap (fromv+rv.2.2.1)))) - rv3.2.1)),(IntKind.i64.wrap rv3.1),(IntKind.i64.wrap ((IntKind.i64.wrap (fromv+rv.2.2.1))+rv3.2.1))))
       )
      )
     ) else (
      some (.inl ((IntKind.i64.wrap ((b.length:Int) - (IntKind.i64.wrap (fromv+rv.2.2.1)))),u,(IntKind.i64.wrap (fromv+rv.2.2.1))))
     )
     :Option ((Int×Int×Int)⊕Int)))>>=fun p3=>
    match p3 with
    | .inl u2=>(
     if (decide (u2.2.1>u2.1)) then (
      some ((⟨0,0,0,0,0⟩:zB),3)
     ) else (
      some ((⟨rv.1,rv.2.1,fromv,u2.2.2,(IntKind.i64.wrap (u2.2.2+u2.2.1))⟩:zB),0)
     )
    )
    | .inr u3=>(
     some ((⟨0,0,0,0,0⟩:zB),u3)
    )
   )
   | .inr u4=>(
    some ((⟨0,0,0,0,0⟩:zB),u4)
   )
  )
 )
def zqE (wv:Int):Option Int:=
 some (if (1:Int)<wv then 1 else wv)
def znM (k:Int) (wv:Int):Option (Int×Int):=
 ((
  if (k==1) then (
   some (k==1)
  ) else (
   some (k==8)
  )
  :Option Bool))>>=fun p=>
 if p then (
  zmr wv>>=fun rv=>
  zms rv>>=fun rv2=>
  some (rv2,0)
 ) else (
  ((
   if (k==3) then (
    some (k==3)
   ) else (
    if (k==5) then (
     some (k==5)
    ) else (
     if (k==9) then (
      some (k==9)
     ) else (
      if (k==10) then (
       some (k==10)
      ) else (
       some (k==11)
      )
     )
    )
   )
   :Option Bool))>>=fun p2=>
  if p2 then (
   zlT wv>>=fun rv3=>
   some ((IntKind.u64.wrap rv3),0)
  ) else (
   if (k==7) then (
    zqE wv>>=fun rv4=>
    some (rv4,0)
   ) else (
    ((
     if (k==2) then (
      some (k==2)
     ) else (
      if (k==4) then (
       some (k==4)
      ) else (
       if (k==6) then (
        some (k==6)
       ) else (
        if (k==12) then (
         some (k==12)
        ) else (
         if (k==13) then (
          some (k==13)
         ) else (
          some (k==14)
         )
        )
       )
      )
     )
     :Option Bool))>>=fun p3=>
    if p3 then (
     some (wv,0)
    ) else (
     some (0,2)
    )
   )
  )
 )
def znN:Option (List (Int×zx)):=
 some (mput (mput (mput (mput (mput (mput (mput (mput (mput (mput (mput (mput (mput (mput (mput (mput (mput ([]:(List (Int×zx))) 1 (⟨[105,110,116,51,50],0⟩:zx)) 2 (⟨[105,110,116,54,52],0⟩:zx)) 3 (⟨[117,105,110,116,51,50],0⟩:zx)) 4 (⟨[117,105,110,116,54,52],0⟩:zx)) 5 (⟨[115,105,110,116,51,50],0⟩:zx)) 6 (⟨[115,105,110,116,54,52],0⟩:zx)) 7 (⟨[98,111,111,108],0⟩:zx)) 8 (⟨[101,110,117,109],0⟩:zx)) 9 (⟨[102,105,120,101,100,51,50],5⟩:zx)) 10 (⟨[115,102,105,120,101,100,51,50],5⟩:zx)) 11 (⟨[102,108,111,97,116],5⟩:zx)) 12 (⟨[102,105,120,101,100,54,52],1⟩:zx)) 13 (⟨[115,102,105,120,101,100,54,52],1⟩:zx)) 14 (⟨[100,111,117,98,108,101],1⟩:zx)) 15 (⟨[115,116,114,105,110,103],2⟩:zx)) 16 (⟨[98,121,116,101,115],2⟩:zx)) 17 (⟨[109,101,115,115,97,103,101],2⟩:zx))
def zrZ:Option (List Int):=
 znN>>=fun rv=>
 zyu rv>>=fun v=>
 some v
def zpM (k:Int):Option (Int×Int):=
 znN>>=fun rv=>
 if (!(mget rv k).isSome) then (
  some (0,2)
 ) else (
  some (((mget rv k).getD (⟨[],0⟩:zx)).wire,0)
 )
def zcZ (k:Int):Option Bool:=
 some ((decide (k>=1))&&(decide (k<=17)))
def zmF (k:Int):Option Bool:=
 zpM k>>=fun rv=>
 some ((rv.2==0)&&(rv.1 !=2))
def zdQ (k:Int):Option Bool:=
 some ((decide (k>=1))&&(decide (k<=14)))
def zgW (k:Int) (wv:Int):Option Int:=
 ((
  if (k==1) then (
   some (k==1)
  ) else (
   some (k==8)
  )
  :Option Bool))>>=fun p=>
 if p then (
  zgw wv>>=fun rv=>
  zhA rv>>=fun rv2=>
  some rv2
 ) else (
  ((
   if (k==3) then (
    some (k==3)
   ) else (
    if (k==5) then (
     some (k==5)
    ) else (
     if (k==9) then (
      some (k==9)
     ) else (
      if (k==10) then (
       some (k==10)
      ) else (
       some (k==11)
      )
     )
    )
   )
   :Option Bool))>>=fun p2=>
  if p2 then (
   some (Int.tmod wv 4294967296)
  ) else (
   if (k==7) then (
    if (decide (wv>0)) then (
     some 1
    ) else (
     some 0
    )
   ) else (
    some wv
   )
  )
 )
def zit (c:Int):Option Bool:=
 some ((decide (c>=48))&&(decide (c<=57)))
def ziZ (c:Int):Option Bool:=
 some (if (decide (c>=97)) then ((decide (c<=122))|| (if (decide (c>=65)) then ((decide (c<=90))|| (c==95)) else (c==95))) else (if (decide (c>=65)) then ((decide (c<=90))|| (c==95)) else (c==95)))
def zcK (name:Str) (v2:Int):Option (Int⊕(Unit⊕Unit)):=
 if (decide (v2<(name.length:Int))) then (
  (
   idx name v2>>=fun c2=>
   ziZ (c2.toNat:Int)>>=fun rv2=>
   if (!rv2) then (
    idx name v2>>=fun c3=>
    zit (c3.toNat:Int)>>=fun rv3=>
    some (!rv3)
   ) else (
    some false
   )
  )>>=fun g2=>
  if g2 then (
   some (.inr (.inr ()))
  ) else (
   some (.inl (IntKind.i64.wrap (v2+1)))
  )
 ) else (
  some (.inr (.inl ()))
 )
def zgO (name:Str) (v2:Int):Option (Unit⊕Unit):=zad (fun s:Int=>zcK name s) v2
def zjk (name:Str):Option Bool:=
 (
  if (name==[]) then (
   some true
  ) else (
   if (decide ((name.length:Int)>60)) then (
    some true
   ) else (
    idx name 0>>=fun c=>
    zit (c.toNat:Int)>>=fun rv=>
    some rv
   )
  )
 )>>=fun g=>
 if g then (
  some false
 ) else (
  zgO name 0>>=fun q=>
  match q with
  | .inl u=>(
   some true
  )
  | .inr u2=>(
   some false
  )
 )
theorem zsA (h:zcK name v2=some (.inl v2')):zgO name v2=zgO name v2':=zF (body:=fun s:Int=>zcK name s) h
theorem zmJ (h:zcK name v2=some (.inr oo_)):zgO name v2=some oo_:=zE (body:=fun s:Int=>zcK name s) h
def zja (n:Int):Option Bool:=
 some ((decide (n>=1))&&((decide (n<=536870911))&&((decide (n<19000))|| (decide (n>19999)))))
def zjK (f:ze):Option Bool:=
 (
  if f.Repeated then (
   zmF f.Kind>>=fun rv=>
   some rv
  ) else (
   some false
  )
 )>>=fun g=>
 some g
def zhe (c:zbo) (f:ze):Option Bool:=
 if (f.Kind==17) then (
  some ((decide (f.Of>=0))&&(decide (f.Of<c.size)))
 ) else (
  some (f.Of==0)
 )
def zhd (c:zbo) (message:Int) (f:ze):Option (Int×(List (zm×Bool))×(List (zn×Bool))):=
 zjk f.Name>>=fun rv=>
 if (!rv) then (
  some (5,c.names,c.numbers)
 ) else (
  if ((mget c.names (⟨message,f.Name⟩:zm)).getD false) then (
   some (6,c.names,c.numbers)
  ) else (
   zja f.Number>>=fun rv2=>
   if (!rv2) then (
    some (7,c.names,c.numbers)
   ) else (
    if ((mget c.numbers (⟨message,f.Number⟩:zn)).getD false) then (
     some (8,c.names,c.numbers)
    ) else (
     zdD c.kinds f.Kind>>=fun rv3=>
     if (!rv3) then (
      some (9,c.names,c.numbers)
     ) else (
      (
       if f.Packed then (
        zjK f>>=fun rv4=>
        some (!rv4)
       ) else (
        some false
       )
      )>>=fun g=>
      if g then (
       some (10,c.names,c.numbers)
      ) else (
       zhe c f>>=fun rv5=>
       if (!rv5) then (
        some (11,c.names,c.numbers)
       ) else (
        some (0,(mput c.names (⟨message,f.Name⟩:zm) true),(mput c.numbers (⟨message,f.Number⟩:zn) true))
       )
      )
     )
    )
   )
  )
 )
def zge (c:zbo) (m:zg):Option (Int×(List (zm×Bool))×(List (zn×Bool))):=
 zjk m.Name>>=fun rv=>
 if (!rv) then (
  some (2,c.names,c.numbers)
 ) else (
  if ((mget c.names (⟨(-1),m.Name⟩:zm)).getD false) then (
   some (3,c.names,c.numbers)
  ) else (
   if (decide ((m.Fields.length:Int)>200)) then (
    some (4,c.names,c.numbers)
   ) else (
    some (0,(mput c.names (⟨(-1),m.Name⟩:zm) true),c.numbers)
   )
  )
 )
def zch (i:Int) (sv:(List zg)) (n3:Int) (k:Int):Option ((Int×Int)⊕Int):=
 idx sv i>>=fun x3=>
 if (decide (k<(x3.Fields.length:Int))) then (
  idx sv i>>=fun x4=>
  idx x4.Fields k>>=fun x5=>
  some (.inl ((IntKind.i64.wrap (n3+(IntKind.i64.wrap (Int.tdiv (x5.Name.length:Int) 100)))),(IntKind.i64.wrap (k+1))))
 ) else (
  some (.inr n3)
 )
def zfl (i:Int) (sv:(List zg)) (n3:Int) (k:Int):Option Int:=zad (fun s:(Int×Int)=>zch i sv s.1 s.2) (n3,k)
def zcg (sv:(List zg)) (n:Int) (i:Int):Option ((Int×Int)⊕Int):=
 if (decide (i<(sv.length:Int))) then (
  idx sv i>>=fun x=>
  idx sv i>>=fun x2=>
  zfl i sv (IntKind.i64.wrap ((IntKind.i64.wrap ((IntKind.i64.wrap (n+1))+(IntKind.i64.wrap (Int.tdiv (x.Name.length:Int) 100))))+(x2.Fields.length:Int))) 0>>=fun q=>
  some (.inl (q,(IntKind.i64.wrap (i+1))))
 ) else (
  some (.inr n)
 )
def zfk (sv:(List zg)) (n:Int) (i:Int):Option Int:=zad (fun s:(Int×Int)=>zcg sv s.1 s.2) (n,i)
def zil (sv:(List zg)):Option Bool:=
 zfk sv 0 0>>=fun q2=>
 some (decide (q2<=500))
theorem zpE (h:zch i sv n3 k=some (.inl (n3',k'))):zfl i sv n3 k=zfl i sv n3' k':=zF (body:=fun s:(Int×Int)=>zch i sv s.1 s.2) h
theorem zpF (h:zch i sv n3 k=some (.inr oo_)):zfl i sv n3 k=some oo_:=zE (body:=fun s:(Int×Int)=>zch i sv s.1 s.2) h
theorem zpC (h:zcg sv n i=some (.inl (n',i'))):zfk sv n i=zfk sv n' i':=zF (body:=fun s:(Int×Int)=>zcg sv s.1 s.2) h
theorem zpD (h:zcg sv n i=some (.inr oo_)):zfk sv n i=some oo_:=zE (body:=fun s:(Int×Int)=>zcg sv s.1 s.2) h
def zcH (rv:(List Int)) (sv:(List zg)) (v2:Int) (x:zg) (v3:Int) (f6:(List (zm×Bool))) (f7:(List (zn×Bool))):Option ((Int×(List (zm×Bool))×(List (zn×Bool)))⊕(((List (zm×Bool))×(List (zn×Bool)))⊕(Int×Int))):=
 if (decide (v3<(x.Fields.length:Int))) then (
  idx x.Fields v3>>=fun x2=>
  zhd (⟨(sv.length:Int),rv,f6,f7⟩:zbo) v2 x2>>=fun rv5=>
  if (rv5.1 !=0) then (
   some (.inr (.inr (v3,rv5.1)))
  ) else (
   some (.inl ((IntKind.i64.wrap (v3+1)),rv5.2.1,rv5.2.2))
  )
 ) else (
  some (.inr (.inl (f6,f7)))
 )
def zfv (rv:(List Int)) (sv:(List zg)) (v2:Int) (x:zg) (v3:Int) (f6:(List (zm×Bool))) (f7:(List (zn×Bool))):Option (((List (zm×Bool))×(List (zn×Bool)))⊕(Int×Int)):=zad (fun s:(Int×(List (zm×Bool))×(List (zn×Bool)))=>zcH rv sv v2 x s.1 s.2.1 s.2.2) (v3,f6,f7)
def zbG (rv:(List Int)) (sv:(List zg)) (v2:Int) (f:(List (zm×Bool))) (f2:(List (zn×Bool))):Option ((Int×(List (zm×Bool))×(List (zn×Bool)))⊕(Unit⊕(Int×Int×Int))):=
 if (decide (v2<(sv.length:Int))) then (
  idx sv v2>>=fun x=>
  zge (⟨(sv.length:Int),rv,f,f2⟩:zbo) x>>=fun rv3=>
  if (rv3.1 !=0) then (
   some (.inr (.inr (v2,(-1),rv3.1)))
  ) else (
   zfv rv sv v2 x 0 rv3.2.1 rv3.2.2>>=fun q=>
   match q with
   | .inl u=>(
    some (.inl ((IntKind.i64.wrap (v2+1)),u.1,u.2))
   )
   | .inr u2=>(
    some (.inr (.inr (v2,u2.1,u2.2)))
   )
  )
 ) else (
  some (.inr (.inl ()))
 )
def zhw (rv:(List Int)) (sv:(List zg)) (v2:Int) (f:(List (zm×Bool))) (f2:(List (zn×Bool))):Option (Unit⊕(Int×Int×Int)):=zad (fun s:(Int×(List (zm×Bool))×(List (zn×Bool)))=>zbG rv sv s.1 s.2.1 s.2.2) (v2,f,f2)
def zlA (sv:(List zg)):Option (zbN×Int):=
 if ((decide ((sv.length:Int)<1))|| (decide ((sv.length:Int)>100))) then (
  some ((⟨(-1),(-1),1⟩:zbN),9)
 ) else (
  zrZ>>=fun rv=>
  zhw rv sv 0 ([]:(List (zm×Bool))) ([]:(List (zn×Bool)))>>=fun q2=>
  match q2 with
  | .inl u3=>(
   some ((⟨0,0,0⟩:zbN),0)
  )
  | .inr u4=>(
   some ((⟨u4.1,u4.2.1,u4.2.2⟩:zbN),9)
  )
 )
theorem zty (h:zcH rv sv v2 x v3 f6 f7=some (.inl (v3',f6',f7'))):zfv rv sv v2 x v3 f6 f7=zfv rv sv v2 x v3' f6' f7':=zF (body:=fun s:(Int×(List (zm×Bool))×(List (zn×Bool)))=>zcH rv sv v2 x s.1 s.2.1 s.2.2) h
theorem znd (h:zcH rv sv v2 x v3 f6 f7=some (.inr oo_)):zfv rv sv v2 x v3 f6 f7=some oo_:=zE (body:=fun s:(Int×(List (zm×Bool))×(List (zn×Bool)))=>zcH rv sv v2 x s.1 s.2.1 s.2.2) h
theorem ztx (h:zbG rv sv v2 f f2=some (.inl (v2',f',f2'))):zhw rv sv v2 f f2=zhw rv sv v2' f' f2':=zF (body:=fun s:(Int×(List (zm×Bool))×(List (zn×Bool)))=>zbG rv sv s.1 s.2.1 s.2.2) h
theorem zgA (h:zbG rv sv v2 f f2=some (.inr oo_)):zhw rv sv v2 f f2=some oo_:=zE (body:=fun s:(Int×(List (zm×Bool))×(List (zn×Bool)))=>zbG rv sv s.1 s.2.1 s.2.2) h
def zgE (sv:(List zg)):Option Bool:=
 zlA sv>>=fun rv=>
 some (rv.2==0)
def zbr (sv:Str) (i:Int):Option (Int⊕(Unit⊕Unit)):=
 if (decide (i<(sv.length:Int))) then (
  idx sv i>>=fun c=>
  if (!(if (decide ((c.toNat:Int)>=65)) then ((decide ((c.toNat:Int)<=90))|| (if (decide ((c.toNat:Int)>=97)) then ((decide ((c.toNat:Int)<=122))|| (((c.toNat:Int)==95)|| ((decide (i>0))&&((decide ((c.toNat:Int)>=48))&&(decide ((c.toNat:Int)<=57)))))) else (((c.toNat:Int)==95)|| ((decide (i>0))&&((decide ((c.toNat:Int)>=48))&&(decide ((c.toNat:Int)<=57))))))) else (if (decide ((c.toNat:Int)>=97)) then ((decide ((c.toNat:Int)<=122))|| (((c.toNat:Int)==95)|| ((decide (i>0))&&((decide ((c.toNat:Int)>=48))&&(decide ((c.toNat:Int)<=57)))))) else (((c.toNat:Int)==95)|| ((decide (i>0))&&((decide ((c.toNat:Int)>=48))&&(decide ((c.toNat:Int)<=57)))))))) then (
   some (.inr (.inr ()))
  ) else (
   some (.inl (IntKind.i64.wrap (i+1)))
  )
 ) else (
  some (.inr (.inl ()))
 )
def zew (sv:Str) (i:Int):Option (Unit⊕Unit):=zad (fun s:Int=>zbr sv s) i
def zgj (sv:Str):Option Bool:=
 zew sv 0>>=fun q=>
 match q with
 | .inl u=>(
  some ((decide ((sv.length:Int)>=1))&&(decide ((sv.length:Int)<=60)))
 )
 | .inr u2=>(
  some false
 )
theorem zpc (h:zbr sv i=some (.inl i')):zew sv i=zew sv i':=zF (body:=fun s:Int=>zbr sv s) h
theorem zkt (h:zbr sv i=some (.inr oo_)):zew sv i=some oo_:=zE (body:=fun s:Int=>zbr sv s) h
def zbE (i:Int) (k:Int) (sv:(List zg)) (x2:ze) (name:Bool) (number:Bool) (j:Int):Option ((Bool×Bool×Int)⊕(Bool×Bool)):=
 if (decide (j<k)) then (
  (
   if name then (
    some true
   ) else (
    idx sv i>>=fun x3=>
    idx x3.Fields j>>=fun x4=>
    some (x4.Name==x2.Name)
   )
  )>>=fun g=>
  (
   if number then (
    some true
   ) else (
    idx sv i>>=fun x5=>
    idx x5.Fields j>>=fun x6=>
    some (x6.Number==x2.Number)
   )
  )>>=fun g2=>
  some (.inl (g,g2,(IntKind.i64.wrap (j+1))))
 ) else (
  some (.inr (name,number))
 )
def zdZ (i:Int) (k:Int) (sv:(List zg)) (x2:ze) (name:Bool) (number:Bool) (j:Int):Option (Bool×Bool):=zad (fun s:(Bool×Bool×Int)=>zbE i k sv x2 s.1 s.2.1 s.2.2) (name,number,j)
def zgY (sv:(List zg)) (i:Int) (k:Int):Option Int:=
 idx sv i>>=fun x=>
 idx x.Fields k>>=fun x2=>
 zdZ i k sv x2 false false 0>>=fun q=>
 zgj x2.Name>>=fun rv=>
 if (!rv) then (
  some 5
 ) else (
  if q.1 then (
   some 6
  ) else (
   if ((decide (x2.Number<1))|| ((decide (x2.Number>536870911))|| ((decide (x2.Number>=19000))&&(decide (x2.Number<20000))))) then (
    some 7
   ) else (
    if q.2 then (
     some 8
    ) else (
     zcZ x2.Kind>>=fun rv2=>
     if (!rv2) then (
      some 9
     ) else (
      (
       if x2.Packed then (
        if x2.Repeated then (
         zdQ x2.Kind>>=fun rv3=>
         some (!rv3)
        ) else (
         some (!false)
        )
       ) else (
        some false
       )
      )>>=fun g3=>
      if g3 then (
       some 10
      ) else (
       if (if (x2.Kind==17) then ((decide (x2.Of<0))|| ((decide (x2.Of>=(sv.length:Int)))|| ((x2.Kind !=17)&&(x2.Of !=0)))) else ((x2.Kind !=17)&&(x2.Of !=0))) then (
        some 11
       ) else (
        some 0
       )
      )
     )
    )
   )
  )
 )
theorem zop (h:zbE i k sv x2 name number j=some (.inl (name',number',j'))):zdZ i k sv x2 name number j=zdZ i k sv x2 name' number' j':=zF (body:=fun s:(Bool×Bool×Int)=>zbE i k sv x2 s.1 s.2.1 s.2.2) h
theorem zoq (h:zbE i k sv x2 name number j=some (.inr oo_)):zdZ i k sv x2 name number j=some oo_:=zE (body:=fun s:(Bool×Bool×Int)=>zbE i k sv x2 s.1 s.2.1 s.2.2) h
def zbD (i:Int) (sv:(List zg)) (twice:Bool) (k:Int):Option ((Bool×Int)⊕Bool):=
 if (decide (k<i)) then (
  (
   if twice then (
    some true
   ) else (
    idx sv k>>=fun x=>
    idx sv i>>=fun x2=>
    some (x.Name==x2.Name)
   )
  )>>=fun g=>
  some (.inl (g,(IntKind.i64.wrap (k+1))))
 ) else (
  some (.inr twice)
 )
def zdX (i:Int) (sv:(List zg)) (twice:Bool) (k:Int):Option Bool:=zad (fun s:(Bool×Int)=>zbD i sv s.1 s.2) (twice,k)
def zbg (i:Int) (sv:(List zg)) (k2:Int):Option (Int⊕(Unit⊕(Int×Int))):=
 idx sv i>>=fun x5=>
 if (decide (k2<(x5.Fields.length:Int))) then (
  zgY sv i k2>>=fun rv2=>
  if (decide (rv2>0)) then (
   some (.inr (.inr (k2,rv2)))
  ) else (
   some (.inl (IntKind.i64.wrap (k2+1)))
  )
 ) else (
  some (.inr (.inl ()))
 )
def zdY (i:Int) (sv:(List zg)) (k2:Int):Option (Unit⊕(Int×Int)):=zad (fun s:Int=>zbg i sv s) k2
def zbf (sv:(List zg)) (i:Int):Option (Int⊕(Unit⊕(Int×Int×Int))):=
 if (decide (i<(sv.length:Int))) then (
  zdX i sv false 0>>=fun q=>
  idx sv i>>=fun x3=>
  zgj x3.Name>>=fun rv=>
  if (!rv) then (
   some (.inr (.inr (i,(-1),2)))
  ) else (
   if q then (
    some (.inr (.inr (i,(-1),3)))
   ) else (
    idx sv i>>=fun x4=>
    if (decide ((x4.Fields.length:Int)>200)) then (
     some (.inr (.inr (i,(-1),4)))
    ) else (
     zdY i sv 0>>=fun q2=>
     match q2 with
     | .inl u=>(
      some (.inl (IntKind.i64.wrap (i+1)))
     )
     | .inr u2=>(
      some (.inr (.inr (i,u2.1,u2.2)))
     )
    )
   )
  )
 ) else (
  some (.inr (.inl ()))
 )
def zdW (sv:(List zg)) (i:Int):Option (Unit⊕(Int×Int×Int)):=zad (fun s:Int=>zbf sv s) i
def zgX (sv:(List zg)):Option (Int×Int×Int):=
 if (((sv.length:Int)==0)|| (decide ((sv.length:Int)>100))) then (
  some ((-1),(-1),1)
 ) else (
  zdW sv 0>>=fun q3=>
  match q3 with
  | .inl u3=>(
   some (0,0,0)
  )
  | .inr u4=>(
   some (u4.1,u4.2.1,u4.2.2)
  )
 )
theorem zom (h:zbD i sv twice k=some (.inl (twice',k'))):zdX i sv twice k=zdX i sv twice' k':=zF (body:=fun s:(Bool×Int)=>zbD i sv s.1 s.2) h
theorem zon (h:zbD i sv twice k=some (.inr oo_)):zdX i sv twice k=some oo_:=zE (body:=fun s:(Bool×Int)=>zbD i sv s.1 s.2) h
theorem zoo (h:zbg i sv k2=some (.inl k2')):zdY i sv k2=zdY i sv k2':=zF (body:=fun s:Int=>zbg i sv s) h
theorem zka (h:zbg i sv k2=some (.inr oo_)):zdY i sv k2=some oo_:=zE (body:=fun s:Int=>zbg i sv s) h
theorem zol (h:zbf sv i=some (.inl i')):zdW sv i=zdW sv i':=zF (body:=fun s:Int=>zbf sv s) h
theorem zdN (h:zbf sv i=some (.inr oo_)):zdW sv i=some oo_:=zE (body:=fun s:Int=>zbf sv s) h
def zhM (f:ze) (v:Int):Option Bool:=
 some (f.Number==v)
def zA (sv:(List ze)) (v:Int) (v2:Int):Option (Int⊕(Unit⊕Int)):=
 if (decide (v2<(sv.length:Int))) then (
  idx sv v2>>=fun x=>
  zhM x v>>=fun rv=>
  if rv then (
   some (.inr (.inr v2))
  ) else (
   some (.inl (IntKind.i64.wrap (v2+1)))
  )
 ) else (
  some (.inr (.inl ()))
 )
def zZ (sv:(List ze)) (v:Int) (v2:Int):Option (Unit⊕Int):=zad (fun s:Int=>zA sv v s) v2
def zaA (sv:(List ze)) (v:Int):Option Int:=
 zZ sv v 0>>=fun q=>
 match q with
 | .inl u=>(
  some (-1)
 )
 | .inr u2=>(
  some u2
 )
theorem zeK (h:zA sv v v2=some (.inl v2')):zZ sv v v2=zZ sv v v2':=zF (body:=fun s:Int=>zA sv v s) h
theorem zcd (h:zA sv v v2=some (.inr oo_)):zZ sv v v2=some oo_:=zE (body:=fun s:Int=>zA sv v s) h
def zdy (m:zg) (v:Int):Option (Int×Bool):=
 zaA m.Fields v>>=fun rv=>
 some ((if rv<0 then 0 else rv),(decide (rv>=0)))
def zfu (m:zg) (number:Int):Option (Int×Bool):=
 zdy m number>>=fun rv=>
 some (rv.1,rv.2)
def zbh (m:zg) (number:Int) (i:Int):Option (Int⊕(Unit⊕Int)):=
 if (decide (i<(m.Fields.length:Int))) then (
  idx m.Fields i>>=fun x=>
  if (x.Number==number) then (
   some (.inr (.inr i))
  ) else (
   some (.inl (IntKind.i64.wrap (i+1)))
  )
 ) else (
  some (.inr (.inl ()))
 )
def zea (m:zg) (number:Int) (i:Int):Option (Unit⊕Int):=zad (fun s:Int=>zbh m number s) i
def zdA (m:zg) (number:Int):Option Int:=
 zea m number 0>>=fun q=>
 match q with
 | .inl u=>(
  some (-1)
 )
 | .inr u2=>(
  some u2
 )
theorem zor (h:zbh m number i=some (.inl i')):zea m number i=zea m number i':=zF (body:=fun s:Int=>zbh m number s) h
theorem zkb (h:zbh m number i=some (.inr oo_)):zea m number i=some oo_:=zE (body:=fun s:Int=>zbh m number s) h
def zgZ (sv:(List zg)):Option Bool:=
 zgX sv>>=fun rv=>
 some (rv.2.2==0)
def zog (sv:(List zg)) (root:Int) (d:Int):Option Int:=
 zgE sv>>=fun rv=>
 if (!rv) then (
  some 9
 ) else (
  if ((decide (root<0))|| ((decide (root>=(sv.length:Int)))|| ((decide (d<0))|| (decide (d>64))))) then (
   some 2
  ) else (
   some 0
  )
 )
def zdl (rv2:(List Str)) (sv:(List zg)) (v2:Int):Option (((List zg)×Int)⊕(List zg)):=
 if (decide (v2<((zdn rv2).length:Int))) then (
  idx (zdn rv2) v2>>=fun x=>
  idx sv v2>>=fun x2=>
  some (.inl ((sv.set (Int.toNat v2) (⟨x,x2.Fields⟩:zg)),(IntKind.i64.wrap (v2+1))))
 ) else (
  some (.inr sv)
 )
def zgN (rv2:(List Str)) (sv:(List zg)) (v2:Int):Option (List zg):=zad (fun s:((List zg)×Int)=>zdl rv2 s.1 s.2) (sv,v2)
def zkB (l:(List Str)):Option Bool:=
 zdM l>>=fun rv=>
 zar rv>>=fun rv2=>
 mkO 40 ((⟨[],[]⟩:zg):zg) ((zdn rv2).length:Int) ((zdn rv2).length:Int)>>=fun v=>
 zgN rv2 v 0>>=fun q=>
 zgE q>>=fun rv3=>
 some rv3
theorem zsr {rv2:(List Str)} {sv:(List zg)} {v2:Int} {sv':(List zg)} {v2':Int} (h:zdl rv2 sv v2=some (.inl (sv',v2'))):zgN rv2 sv v2=zgN rv2 sv' v2':=zF (body:=fun s:((List zg)×Int)=>zdl rv2 s.1 s.2) h
theorem zss {rv2:(List Str)} {sv:(List zg)} {v2:Int} {oo_:(List zg)} (h:zdl rv2 sv v2=some (.inr oo_)):zgN rv2 sv v2=some oo_:=zE (body:=fun s:((List zg)×Int)=>zdl rv2 s.1 s.2) h
def zpW (l:(List Str)):Option (Str×Int):=
 (
  if (decide ((l.length:Int)>65)) then (
   some true
  ) else (
   zkB l>>=fun rv=>
   some (!rv)
  )
 )>>=fun g=>
 if g then (
  some ([],12)
 ) else (
  strings_Join l [46]>>=fun rv2=>
  some (rv2,0)
 )
def zbT (l:(List Str)) (out:Str) (i:Int):Option ((Str×Int)⊕Str):=
 if (decide (i<(l.length:Int))) then (
  ((
   if (decide (i>0)) then (
    cat out [46]>>=fun v=>
    some v
   ) else (
    some out
   )
   :Option Str))>>=fun p=>
  idx l i>>=fun x=>
  cat p x>>=fun v2=>
  some (.inl (v2,(IntKind.i64.wrap (i+1))))
 ) else (
  some (.inr out)
 )
def zex (l:(List Str)) (out:Str) (i:Int):Option Str:=zad (fun s:(Str×Int)=>zbT l s.1 s.2) (out,i)
def zhE (l:(List Str)):Option Str:=
 zex l [] 0>>=fun q=>
 some q
theorem zpd {l:(List Str)} {out:Str} {i:Int} {out':Str} {i':Int} (h:zbT l out i=some (.inl (out',i'))):zex l out i=zex l out' i':=zF (body:=fun s:(Str×Int)=>zbT l s.1 s.2) h
theorem zpe {l:(List Str)} {out:Str} {i:Int} {oo_:Str} (h:zbT l out i=some (.inr oo_)):zex l out i=some oo_:=zE (body:=fun s:(Str×Int)=>zbT l s.1 s.2) h
def zpR (way:(List Int)) (other:(List Int)):Option Bool:=
 (
  if (decide ((other.length:Int)>0)) then (
   if (decide ((other.length:Int)<=(way.length:Int))) then (
    cut way 0 (other.length:Int)>>=fun v=>
    zeJ v other>>=fun rv=>
    some rv
   ) else (
    some false
   )
  ) else (
   some false
  )
 )>>=fun g=>
 some g
def zdC (ways:(List (List Int))) (last:(List Int)) (v:Int):Option (((List Int)×Int)⊕(Unit⊕Unit)):=
 if (decide (v<(ways.length:Int))) then (
  idx ways v>>=fun x=>
  (
   zdP last x>>=fun rv=>
   if (decide (rv>=0)) then (
    some true
   ) else (
    zpR x last>>=fun rv2=>
    some rv2
   )
  )>>=fun g=>
  if g then (
   some (.inr (.inr ()))
  ) else (
   some (.inl (x,(IntKind.i64.wrap (v+1))))
  )
 ) else (
  some (.inr (.inl ()))
 )
def zir (ways:(List (List Int))) (last:(List Int)) (v:Int):Option (Unit⊕Unit):=zad (fun s:((List Int)×Int)=>zdC ways s.1 s.2) (last,v)
def zlb (ways:(List (List Int))):Option Bool:=
 zir ways [] 0>>=fun q=>
 match q with
 | .inl u=>(
  some true
 )
 | .inr u2=>(
  some false
 )
theorem ztW {ways:(List (List Int))} {last:(List Int)} {v:Int} {last':(List Int)} {v':Int} (h:zdC ways last v=some (.inl (last',v'))):zir ways last v=zir ways last' v':=zF (body:=fun s:((List Int)×Int)=>zdC ways s.1 s.2) h
theorem znQ {ways:(List (List Int))} {last:(List Int)} {v:Int} {oo_:(Unit⊕Unit)} (h:zdC ways last v=some (.inr oo_)):zir ways last v=some oo_:=zE (body:=fun s:((List Int)×Int)=>zdC ways s.1 s.2) h
def zek (ways:(List (List Int))) (l:(List (List Int))) (v2:Int):Option (((List (List Int))×Int)⊕(List (List Int))):=
 if (decide (v2<(ways.length:Int))) then (
  idx ways v2>>=fun x=>
  zeI x>>=fun rv=>
  idx l v2>>=fun x2=>
  some (.inl ((l.set (Int.toNat v2) rv),(IntKind.i64.wrap (v2+1))))
 ) else (
  some (.inr l)
 )
def ziq (ways:(List (List Int))) (l:(List (List Int))) (v2:Int):Option (List (List Int)):=zad (fun s:((List (List Int))×Int)=>zek ways s.1 s.2) (l,v2)
def zla (ways:(List (List Int))):Option (List (List Int)):=
 mkO 24 ([]:(List Int)) (ways.length:Int) (ways.length:Int)>>=fun v=>
 ziq ways v 0>>=fun q=>
 some q
theorem ztU {ways:(List (List Int))} {l:(List (List Int))} {v2:Int} {l':(List (List Int))} {v2':Int} (h:zek ways l v2=some (.inl (l',v2'))):ziq ways l v2=ziq ways l' v2':=zF (body:=fun s:((List (List Int))×Int)=>zek ways s.1 s.2) h
theorem ztV {ways:(List (List Int))} {l:(List (List Int))} {v2:Int} {oo_:(List (List Int))} (h:zek ways l v2=some (.inr oo_)):ziq ways l v2=some oo_:=zE (body:=fun s:((List (List Int))×Int)=>zek ways s.1 s.2) h
def zbk (t:(List (zak×Int))) (way:(List Int)) (place:Int) (v:Int):Option ((Int×Int)⊕(Unit⊕Bool)):=
 if (decide (v<(way.length:Int))) then (
  idx way v>>=fun x=>
  if (!(mget t (⟨place,x⟩:zak)).isSome) then (
   some (.inr (.inr false))
  ) else (
   if (((mget t (⟨place,x⟩:zak)).getD 0)==(-1)) then (
    some (.inr (.inr true))
   ) else (
    some (.inl (((mget t (⟨place,x⟩:zak)).getD 0),(IntKind.i64.wrap (v+1))))
   )
  )
 ) else (
  some (.inr (.inl ()))
 )
def zfN (t:(List (zak×Int))) (way:(List Int)) (place:Int) (v:Int):Option (Unit⊕Bool):=zad (fun s:(Int×Int)=>zbk t way s.1 s.2) (place,v)
def zhu (t:(List (zak×Int))) (way:(List Int)):Option Bool:=
 zfN t way 0 0>>=fun q=>
 match q with
 | .inl u=>(
  some false
 )
 | .inr u2=>(
  some u2
 )
theorem zqJ {t:(List (zak×Int))} {way:(List Int)} {place:Int} {v:Int} {place':Int} {v':Int} (h:zbk t way place v=some (.inl (place',v'))):zfN t way place v=zfN t way place' v':=zF (body:=fun s:(Int×Int)=>zbk t way s.1 s.2) h
theorem ziR {t:(List (zak×Int))} {way:(List Int)} {place:Int} {v:Int} {oo_:(Unit⊕Bool)} (h:zbk t way place v=some (.inr oo_)):zfN t way place v=some oo_:=zE (body:=fun s:(Int×Int)=>zbk t way s.1 s.2) h
def zcp (way:(List Int)) (t2:(List (zak×Int))) (place:Int) (v:Int) (f:Int) (f2:Int):Option (((List (zak×Int))×Int×Int×Int×Int)⊕((List (zak×Int))×Int×Int)):=
 if (decide (v<(way.length:Int))) then (
  idx way v>>=fun x=>
  if (!(mget t2 (⟨place,x⟩:zak)).isSome) then (
   some (.inl ((mput t2 (⟨place,x⟩:zak) (IntKind.i64.wrap ((t2.length:Int)+1))),((mget (mput t2 (⟨place,x⟩:zak) (IntKind.i64.wrap ((t2.length:Int)+1))) (⟨place,x⟩:zak)).getD 0),(IntKind.i64.wrap (v+1)),place,x))
  ) else (
   some (.inl (t2,((mget t2 (⟨place,x⟩:zak)).getD 0),(IntKind.i64.wrap (v+1)),place,x))
  )
 ) else (
  some (.inr (t2,f,f2))
 )
def zht (way:(List Int)) (t2:(List (zak×Int))) (place:Int) (v:Int) (f:Int) (f2:Int):Option ((List (zak×Int))×Int×Int):=zad (fun s:((List (zak×Int))×Int×Int×Int×Int)=>zcp way s.1 s.2.1 s.2.2.1 s.2.2.2.1 s.2.2.2.2) (t2,place,v,f,f2)
def zlt (t:(List (zak×Int))) (way:(List Int)):Option (List (zak×Int)):=
 zht way t 0 0 0 0>>=fun q=>
 some (mput q.1 (⟨q.2.1,q.2.2⟩:zak) (-1))
theorem znc {way:(List Int)} {t2:(List (zak×Int))} {place:Int} {v:Int} {f:Int} {f2:Int} {t2':(List (zak×Int))} {place':Int} {v':Int} {f':Int} {f2':Int} (h:zcp way t2 place v f f2=some (.inl (t2',place',v',f',f2'))):zht way t2 place v f f2=zht way t2' place' v' f' f2':=zF (body:=fun s:((List (zak×Int))×Int×Int×Int×Int)=>zcp way s.1 s.2.1 s.2.2.1 s.2.2.2.1 s.2.2.2.2) h
theorem ztv {way:(List Int)} {t2:(List (zak×Int))} {place:Int} {v:Int} {f:Int} {f2:Int} {oo_:((List (zak×Int))×Int×Int)} (h:zcp way t2 place v f f2=some (.inr oo_)):zht way t2 place v f f2=some oo_:=zE (body:=fun s:((List (zak×Int))×Int×Int×Int×Int)=>zcp way s.1 s.2.1 s.2.2.1 s.2.2.2.1 s.2.2.2.2) h
def zhc (rv4:(List (List Int))) (l:(List (List Int))) (t:(List (zak×Int))) (v:Int):Option (((List (List Int))×(List (zak×Int))×Int)⊕(List (List Int))):=
 if (decide (v<(rv4.length:Int))) then (
  idx rv4 v>>=fun x=>
  (
   if (decide ((x.length:Int)>0)) then (
    zhu t x>>=fun rv5=>
    some (!rv5)
   ) else (
    some false
   )
  )>>=fun g=>
  if g then (
   zlt t x>>=fun rv7=>
   app 24 l ([x]:(List (List Int)))>>=fun v3=>
   some (.inl (v3,rv7,(IntKind.i64.wrap (v+1))))
  ) else (
   some (.inl (l,t,(IntKind.i64.wrap (v+1))))
  )
 ) else (
  some (.inr l)
 )
def zlX (rv4:(List (List Int))) (l:(List (List Int))) (t:(List (zak×Int))) (v:Int):Option (List (List Int)):=zad (fun s:((List (List Int))×(List (zak×Int))×Int)=>zhc rv4 s.1 s.2.1 s.2.2) (l,t,v)
def ztc (ways:(List (List Int))):Option zig:=
 zlb ways>>=fun rv=>
 if rv then (
  zla ways>>=fun rv2=>
  some (⟨rv2⟩:zig)
 ) else (
  zen ways>>=fun rv3=>
  zP rv3>>=fun rv4=>
  zlX rv4 [] ([]:(List (zak×Int))) 0>>=fun q=>
  zla q>>=fun rv8=>
  some (⟨rv8⟩:zig)
 )
theorem zsg {rv4:(List (List Int))} {l:(List (List Int))} {t:(List (zak×Int))} {v:Int} {l':(List (List Int))} {t':(List (zak×Int))} {v':Int} (h:zhc rv4 l t v=some (.inl (l',t',v'))):zlX rv4 l t v=zlX rv4 l' t' v':=zF (body:=fun s:((List (List Int))×(List (zak×Int))×Int)=>zhc rv4 s.1 s.2.1 s.2.2) h
theorem zyA {rv4:(List (List Int))} {l:(List (List Int))} {t:(List (zak×Int))} {v:Int} {oo_:(List (List Int))} (h:zhc rv4 l t v=some (.inr oo_)):zlX rv4 l t v=some oo_:=zE (body:=fun s:((List (List Int))×(List (zak×Int))×Int)=>zhc rv4 s.1 s.2.1 s.2.2) h
def zpQ (sv:(List zg)) (root:Int):Option Int:=
 zgE sv>>=fun rv=>
 if (!rv) then (
  some 9
 ) else (
  if ((decide (root<0))|| (decide (root>=(sv.length:Int)))) then (
   some 2
  ) else (
   some 0
  )
 )
def zhF (sv:(List zg)) (root:Int):Option Int:=
 zgZ sv>>=fun rv=>
 if (!rv) then (
  some 9
 ) else (
  if ((decide (root<0))|| (decide (root>=(sv.length:Int)))) then (
   some 2
  ) else (
   some 0
  )
 )
def zQ (steps:(List Int)) (sv:(List zg)) (l:(List ze)) (v:Int) (f:Str) (f2:Int) (f3:Int) (f4:Bool) (f5:Bool) (f6:Int):Option (((List ze)×Int×Str×Int×Int×Bool×Bool×Int)⊕((List ze)⊕Unit)):=
 if (decide (v<(steps.length:Int))) then (
  idx steps v>>=fun x=>
  if ((f3 !=17)|| f4) then (
   some (.inr (.inr ()))
  ) else (
   idx sv f6>>=fun x2=>
   zfu x2 x>>=fun rv=>
   if (!rv.2) then (
    some (.inr (.inr ()))
   ) else (
    idx x2.Fields rv.1>>=fun x3=>
    app 48 l ([x3]:(List ze))>>=fun v3=>
    some (.inl (v3,(IntKind.i64.wrap (v+1)),x3.Name,x3.Number,x3.Kind,x3.Repeated,x3.Packed,x3.Of))
   )
  )
 ) else (
  some (.inr (.inl l))
 )
def zaW (steps:(List Int)) (sv:(List zg)) (l:(List ze)) (v:Int) (f:Str) (f2:Int) (f3:Int) (f4:Bool) (f5:Bool) (f6:Int):Option ((List ze)⊕Unit):=zad (fun s:((List ze)×Int×Str×Int×Int×Bool×Bool×Int)=>zQ steps sv s.1 s.2.1 s.2.2.1 s.2.2.2.1 s.2.2.2.2.1 s.2.2.2.2.2.1 s.2.2.2.2.2.2.1 s.2.2.2.2.2.2.2) (l,v,f,f2,f3,f4,f5,f6)
def zdj (sv:(List zg)) (root:Int) (steps:(List Int)):Option ((List ze)×Bool):=
 zaW steps sv [] 0 [] 0 17 false false root>>=fun q=>
 match q with
 | .inl u=>(
  some (u,true)
 )
 | .inr u2=>(
  some ([],false)
 )
theorem zjp {steps:(List Int)} {sv:(List zg)} {l:(List ze)} {v:Int} {f:Str} {f2:Int} {f3:Int} {f4:Bool} {f5:Bool} {f6:Int} {l':(List ze)} {v':Int} {f':Str} {f2':Int} {f3':Int} {f4':Bool} {f5':Bool} {f6':Int} (h:zQ steps sv l v f f2 f3 f4 f5 f6=some (.inl (l',v',f',f2',f3',f4',f5',f6'))):zaW steps sv l v f f2 f3 f4 f5 f6=zaW steps sv l' v' f' f2' f3' f4' f5' f6':=zF (body:=fun s:((List ze)×Int×Str×Int×Int×Bool×Bool×Int)=>zQ steps sv s.1 s.2.1 s.2.2.1 s.2.2.2.1 s.2.2.2.2.1 s.2.2.2.2.2.1 s.2.2.2.2.2.2.1 s.2.2.2.2.2.2.2) h
theorem zdr {steps:(List Int)} {sv:(List zg)} {l:(List ze)} {v:Int} {f:Str} {f2:Int} {f3:Int} {f4:Bool} {f5:Bool} {f6:Int} {oo_:((List ze)⊕Unit)} (h:zQ steps sv l v f f2 f3 f4 f5 f6=some (.inr oo_)):zaW steps sv l v f f2 f3 f4 f5 f6=some oo_:=zE (body:=fun s:((List ze)×Int×Str×Int×Int×Bool×Bool×Int)=>zQ steps sv s.1 s.2.1 s.2.2.1 s.2.2.2.1 s.2.2.2.2.1 s.2.2.2.2.2.1 s.2.2.2.2.2.2.1 s.2.2.2.2.2.2.2) h
def zel (rv:((List ze)×Bool)) (names:(List Str)) (v2:Int):Option (((List Str)×Int)⊕(List Str)):=
 if (decide (v2<(rv.1.length:Int))) then (
  idx rv.1 v2>>=fun x=>
  idx names v2>>=fun x2=>
  some (.inl ((names.set (Int.toNat v2) x.Name),(IntKind.i64.wrap (v2+1))))
 ) else (
  some (.inr names)
 )
def zis (rv:((List ze)×Bool)) (names:(List Str)) (v2:Int):Option (List Str):=zad (fun s:((List Str)×Int)=>zel rv s.1 s.2) (names,v2)
def zmG (sv:(List zg)) (root:Int) (way:(List Int)):Option (Str×Int):=
 zdj sv root way>>=fun rv=>
 if (!rv.2) then (
  some ([],10)
 ) else (
  mkO 16 ([]:Str) (rv.1.length:Int) (rv.1.length:Int)>>=fun v=>
  zis rv v 0>>=fun q=>
  zpW q>>=fun rv2=>
  if (rv2.2 !=0) then (
   some ([],10)
  ) else (
   some (rv2.1,0)
  )
 )
theorem ztY {rv:((List ze)×Bool)} {names:(List Str)} {v2:Int} {names':(List Str)} {v2':Int} (h:zel rv names v2=some (.inl (names',v2'))):zis rv names v2=zis rv names' v2':=zF (body:=fun s:((List Str)×Int)=>zel rv s.1 s.2) h
theorem ztZ {rv:((List ze)×Bool)} {names:(List Str)} {v2:Int} {oo_:(List Str)} (h:zel rv names v2=some (.inr oo_)):zis rv names v2=some oo_:=zE (body:=fun s:((List Str)×Int)=>zel rv s.1 s.2) h
def zdH (m:zig) (root:Int) (sv:(List zg)) (paths:(List Str)) (v2:Int):Option (((List Str)×Int)⊕((List Str)⊕Int)):=
 if (decide (v2<(m.Ways.length:Int))) then (
  idx m.Ways v2>>=fun x=>
  zmG sv root x>>=fun rv3=>
  if (rv3.2 !=0) then (
   some (.inr (.inr rv3.2))
  ) else (
   idx paths v2>>=fun x2=>
   some (.inl ((paths.set (Int.toNat v2) rv3.1),(IntKind.i64.wrap (v2+1))))
  )
 ) else (
  some (.inr (.inl paths))
 )
def zjh (m:zig) (root:Int) (sv:(List zg)) (paths:(List Str)) (v2:Int):Option ((List Str)⊕Int):=zad (fun s:((List Str)×Int)=>zdH m root sv s.1 s.2) (paths,v2)
def znP (sv:(List zg)) (root:Int) (m:zig):Option ((List Str)×Int):=
 zpQ sv root>>=fun rv=>
 if (rv !=0) then (
  some ([],rv)
 ) else (
  zlb m.Ways>>=fun rv2=>
  if (!rv2) then (
   some ([],10)
  ) else (
   mkO 16 ([]:Str) (m.Ways.length:Int) (m.Ways.length:Int)>>=fun v=>
   zjh m root sv v 0>>=fun q=>
   match q with
   | .inl u=>(
    some (u,0)
   )
   | .inr u2=>(
    some ([],u2)
   )
  )
 )
theorem zuY {m:zig} {root:Int} {sv:(List zg)} {paths:(List Str)} {v2:Int} {paths':(List Str)} {v2':Int} (h:zdH m root sv paths v2=some (.inl (paths',v2'))):zjh m root sv paths v2=zjh m root sv paths' v2':=zF (body:=fun s:((List Str)×Int)=>zdH m root sv s.1 s.2) h
theorem zoF {m:zig} {root:Int} {sv:(List zg)} {paths:(List Str)} {v2:Int} {oo_:((List Str)⊕Int)} (h:zdH m root sv paths v2=some (.inr oo_)):zjh m root sv paths v2=some oo_:=zE (body:=fun s:((List Str)×Int)=>zdH m root sv s.1 s.2) h
def zaY (sv:(List zg)) (way:(List Int)) (root2:Int) (names:(List Str)) (i:Int):Option ((Int×(List Str)×Int)⊕((List Str)⊕Unit)):=
 if (decide (i<(way.length:Int))) then (
  idx sv root2>>=fun x=>
  idx way i>>=fun x2=>
  zdA x x2>>=fun rv=>
  if (decide (rv<0)) then (
   some (.inr (.inr ()))
  ) else (
   idx sv root2>>=fun x3=>
   idx x3.Fields rv>>=fun x4=>
   app 16 names ([x4.Name]:(List Str))>>=fun v=>
   if ((decide (i<(IntKind.i64.wrap ((way.length:Int) - 1))))&&(x4.Repeated|| (x4.Kind !=17))) then (
    some (.inr (.inr ()))
   ) else (
    some (.inl (x4.Of,v,(IntKind.i64.wrap (i+1))))
   )
  )
 ) else (
  some (.inr (.inl names))
 )
def zey (sv:(List zg)) (way:(List Int)) (root2:Int) (names:(List Str)) (i:Int):Option ((List Str)⊕Unit):=zad (fun s:(Int×(List Str)×Int)=>zaY sv way s.1 s.2.1 s.2.2) (root2,names,i)
def zhG (sv:(List zg)) (root:Int) (way:(List Int)):Option (Str×Bool):=
 zey sv way root [] 0>>=fun q=>
 match q with
 | .inl u=>(
  (
   zhE u>>=fun rv2=>
   if (decide ((u.length:Int)>=1)) then (
    some (rv2,(decide ((u.length:Int)<=65)))
   ) else (
    some (rv2,false)
   )
  )>>=fun g=>
  some (g.1,g.2)
 )
 | .inr u2=>(
  some ([],false)
 )
theorem zku {sv:(List zg)} {way:(List Int)} {root2:Int} {names:(List Str)} {i:Int} {root2':Int} {names':(List Str)} {i':Int} (h:zaY sv way root2 names i=some (.inl (root2',names',i'))):zey sv way root2 names i=zey sv way root2' names' i':=zF (body:=fun s:(Int×(List Str)×Int)=>zaY sv way s.1 s.2.1 s.2.2) h
theorem zhZ {sv:(List zg)} {way:(List Int)} {root2:Int} {names:(List Str)} {i:Int} {oo_:((List Str)⊕Unit)} (h:zaY sv way root2 names i=some (.inr oo_)):zey sv way root2 names i=some oo_:=zE (body:=fun s:(Int×(List Str)×Int)=>zaY sv way s.1 s.2.1 s.2.2) h
def zhR (v:zb):Option Int:=
 some (IntKind.i64.wrap ((IntKind.i64.wrap ((v.Words.length:Int)+(v.Texts.length:Int)))+(v.Subs.length:Int)))
def zcD (xj:zb->Option zb) (x:zd) (i:Int) (f:(List zb)):Option ((Int×(List zb))⊕(List zb)):=
 if (decide (i<(x.Values.length:Int))) then (
  idx x.Values i>>=fun x2=>
  xj x2>>=fun rv=>
  app 80 f ([rv]:(List zb))>>=fun v2=>
  some (.inl ((IntKind.i64.wrap (i+1)),v2))
 ) else (
  some (.inr f)
 )
def zfJ (xj:zb->Option zb) (x:zd) (i:Int) (f:(List zb)):Option (List zb):=zad (fun s:(Int×(List zb))=>zcD xj x s.1 s.2) (i,f)
def zhy (xi:zd->Option zd) (xj:zb->Option zb) (x:zd):Option zd:=
 app 16 ([]:(List Str)) x.Unknown>>=fun v=>
 zfJ xj x 0 []>>=fun q=>
 some (⟨q,v⟩:zd)
def zbc (xi:zd->Option zd) (v:zb) (i:Int) (f:(List zd)):Option ((Int×(List zd))⊕(List zd)):=
 if (decide (i<(v.Subs.length:Int))) then (
  idx v.Subs i>>=fun x=>
  xi x>>=fun rv=>
  app 48 f ([rv]:(List zd))>>=fun v2=>
  some (.inl ((IntKind.i64.wrap (i+1)),v2))
 ) else (
  some (.inr f)
 )
def zdv (xi:zd->Option zd) (v:zb) (i:Int) (f:(List zd)):Option (List zd):=zad (fun s:(Int×(List zd))=>zbc xi v s.1 s.2) (i,f)
def zfb (xi:zd->Option zd) (xj:zb->Option zb) (v:zb):Option zb:=
 zdv xi v 0 []>>=fun q=>
 some (⟨v.Number,v.Words,v.Texts,q⟩:zb)
def zaH:Nat->(zd->Option zd)×(zb->Option zb)
  | 0=>(fun _=>none,fun _=>none)
  | fuel+1=>(fun x=>zhy (zaH fuel).1 (zaH fuel).2 x,fun v=>zfb (zaH fuel).1 (zaH fuel).2 v)
def zde (fuel:Nat):zd->Option zd:=(zaH fuel).1
def zbO (fuel:Nat):zb->Option zb:=(zaH fuel).2
theorem zqw (h:zcD xj x i f=some (.inl (i',f'))):zfJ xj x i f=zfJ xj x i' f':=zF (body:=fun s:(Int×(List zb))=>zcD xj x s.1 s.2) h
theorem zqx (h:zcD xj x i f=some (.inr oo_)):zfJ xj x i f=some oo_:=zE (body:=fun s:(Int×(List zb))=>zcD xj x s.1 s.2) h
theorem zne (h:zbc xi v i f=some (.inl (i',f'))):zdv xi v i f=zdv xi v i' f':=zF (body:=fun s:(Int×(List zd))=>zbc xi v s.1 s.2) h
theorem znf (h:zbc xi v i f=some (.inr oo_)):zdv xi v i f=some oo_:=zE (body:=fun s:(Int×(List zd))=>zbc xi v s.1 s.2) h
def zbP (x:zd) (n:Int) (i:Int):Option ((Int×Int)⊕Int):=
 if (decide (i<(x.Unknown.length:Int))) then (
  idx x.Unknown i>>=fun x2=>
  some (.inl ((IntKind.i64.wrap ((IntKind.i64.wrap (n+1))+(x2.length:Int))),(IntKind.i64.wrap (i+1))))
 ) else (
  some (.inr n)
 )
def zer (x:zd) (n:Int) (i:Int):Option Int:=zad (fun s:(Int×Int)=>zbP x s.1 s.2) (n,i)
def zbq (deep:Int) (xh:zb->Int->Option Int) (x:zd) (n3:Int) (i2:Int):Option ((Int×Int)⊕(Int⊕Unit)):=
 if (decide (i2<(x.Values.length:Int))) then (
  idx x.Values i2>>=fun x3=>
  xh x3 deep>>=fun rv=>
  if (decide ((IntKind.i64.wrap (n3+rv))>=5000)) then (
   some (.inr (.inr ()))
  ) else (
   some (.inl ((IntKind.i64.wrap (n3+rv)),(IntKind.i64.wrap (i2+1))))
  )
 ) else (
  some (.inr (.inl n3))
 )
def zes (deep:Int) (xh:zb->Int->Option Int) (x:zd) (n3:Int) (i2:Int):Option (Int⊕Unit):=zad (fun s:(Int×Int)=>zbq deep xh x s.1 s.2) (n3,i2)
def zgv (xg:zd->Int->Option Int) (xh:zb->Int->Option Int) (x:zd) (deep:Int):Option Int:=
 if (decide (deep<0)) then (
  some 5000
 ) else (
  zer x 1 0>>=fun q=>
  zes deep xh x q 0>>=fun q2=>
  match q2 with
  | .inl u=>(
   some u
  )
  | .inr u2=>(
   some 5000
  )
 )
def zaQ (v:zb) (n:Int) (k:Int):Option ((Int×Int)⊕Int):=
 if (decide (k<(v.Texts.length:Int))) then (
  idx v.Texts k>>=fun x=>
  some (.inl ((IntKind.i64.wrap ((IntKind.i64.wrap (n+1))+(x.length:Int))),(IntKind.i64.wrap (k+1))))
 ) else (
  some (.inr n)
 )
def zcT (v:zb) (n:Int) (k:Int):Option Int:=zad (fun s:(Int×Int)=>zaQ v s.1 s.2) (n,k)
def zaB (deep:Int) (xg:zd->Int->Option Int) (v:zb) (n3:Int) (k2:Int):Option ((Int×Int)⊕(Int⊕Unit)):=
 if (decide (k2<(v.Subs.length:Int))) then (
  idx v.Subs k2>>=fun x2=>
  xg x2 (IntKind.i64.wrap (deep - 1))>>=fun rv=>
  if (decide ((IntKind.i64.wrap (n3+rv))>=5000)) then (
   some (.inr (.inr ()))
  ) else (
   some (.inl ((IntKind.i64.wrap (n3+rv)),(IntKind.i64.wrap (k2+1))))
  )
 ) else (
  some (.inr (.inl n3))
 )
def zcU (deep:Int) (xg:zd->Int->Option Int) (v:zb) (n3:Int) (k2:Int):Option (Int⊕Unit):=zad (fun s:(Int×Int)=>zaB deep xg v s.1 s.2) (n3,k2)
def zef (xg:zd->Int->Option Int) (xh:zb->Int->Option Int) (v:zb) (deep:Int):Option Int:=
 zcT v (IntKind.i64.wrap (1+(v.Words.length:Int))) 0>>=fun q=>
 zcU deep xg v q 0>>=fun q2=>
 match q2 with
 | .inl u=>(
  some u
 )
 | .inr u2=>(
  some 5000
 )
def zaw:Nat->(zd->Int->Option Int)×(zb->Int->Option Int)
  | 0=>(fun _ _=>none,fun _ _=>none)
  | fuel+1=>(fun x deep=>zgv (zaw fuel).1 (zaw fuel).2 x deep,fun v deep=>zef (zaw fuel).1 (zaw fuel).2 v deep)
def zcr (fuel:Nat):zd->Int->Option Int:=(zaw fuel).1
def zbL (fuel:Nat):zb->Int->Option Int:=(zaw fuel).2
theorem zoT (h:zbP x n i=some (.inl (n',i'))):zer x n i=zer x n' i':=zF (body:=fun s:(Int×Int)=>zbP x s.1 s.2) h
theorem zoU (h:zbP x n i=some (.inr oo_)):zer x n i=some oo_:=zE (body:=fun s:(Int×Int)=>zbP x s.1 s.2) h
theorem zoV (h:zbq deep xh x n3 i2=some (.inl (n3',i2'))):zes deep xh x n3 i2=zes deep xh x n3' i2':=zF (body:=fun s:(Int×Int)=>zbq deep xh x s.1 s.2) h
theorem zks (h:zbq deep xh x n3 i2=some (.inr oo_)):zes deep xh x n3 i2=some oo_:=zE (body:=fun s:(Int×Int)=>zbq deep xh x s.1 s.2) h
theorem zmt (h:zaQ v n k=some (.inl (n',k'))):zcT v n k=zcT v n' k':=zF (body:=fun s:(Int×Int)=>zaQ v s.1 s.2) h
theorem zmu (h:zaQ v n k=some (.inr oo_)):zcT v n k=some oo_:=zE (body:=fun s:(Int×Int)=>zaQ v s.1 s.2) h
theorem zmv (h:zaB deep xg v n3 k2=some (.inl (n3',k2'))):zcU deep xg v n3 k2=zcU deep xg v n3' k2':=zF (body:=fun s:(Int×Int)=>zaB deep xg v s.1 s.2) h
theorem ziB (h:zaB deep xg v n3 k2=some (.inr oo_)):zcU deep xg v n3 k2=some oo_:=zE (body:=fun s:(Int×Int)=>zaB deep xg v s.1 s.2) h
def zeY (most:Int) (xa:zd->Int->Option Int) (x2:zb) (deep3:Int) (v3:Int):Option ((Int×Int)⊕(Int⊕Int)):=
 if (decide (v3<(x2.Subs.length:Int))) then (
  idx x2.Subs v3>>=fun x3=>
  if (decide (most<=0)) then (
   some (.inr (.inr 1))
  ) else (
   xa x3 (IntKind.i64.wrap (most - 1))>>=fun rv=>
   if (decide ((if deep3<(IntKind.i64.wrap (1+rv)) then (IntKind.i64.wrap (1+rv)) else deep3)>most)) then (
    some (.inr (.inr (if deep3<(IntKind.i64.wrap (1+rv)) then (IntKind.i64.wrap (1+rv)) else deep3)))
   ) else (
    some (.inl ((if deep3<(IntKind.i64.wrap (1+rv)) then (IntKind.i64.wrap (1+rv)) else deep3),(IntKind.i64.wrap (v3+1))))
   )
  )
 ) else (
  some (.inr (.inl deep3))
 )
def zjm (most:Int) (xa:zd->Int->Option Int) (x2:zb) (deep3:Int) (v3:Int):Option (Int⊕Int):=zad (fun s:(Int×Int)=>zeY most xa x2 s.1 s.2) (deep3,v3)
def zeX (most:Int) (xa:zd->Int->Option Int) (x:zd) (deep:Int) (v:Int):Option ((Int×Int)⊕(Int⊕Int)):=
 if (decide (v<(x.Values.length:Int))) then (
  idx x.Values v>>=fun x2=>
  zjm most xa x2 deep 0>>=fun q=>
  match q with
  | .inl u=>(
   some (.inl (u,(IntKind.i64.wrap (v+1))))
  )
  | .inr u2=>(
   some (.inr (.inr u2))
  )
 ) else (
  some (.inr (.inl deep))
 )
def zjl (most:Int) (xa:zd->Int->Option Int) (x:zd) (deep:Int) (v:Int):Option (Int⊕Int):=zad (fun s:(Int×Int)=>zeX most xa x s.1 s.2) (deep,v)
def zlD (xa:zd->Int->Option Int) (x:zd) (most:Int):Option Int:=
 zjl most xa x 0 0>>=fun q2=>
 match q2 with
 | .inl u3=>(
  some u3
 )
 | .inr u4=>(
  some u4
 )
def zid:Nat->zd->Int->Option Int
  | 0,_,_=>none
  | fuel+1,x,most=>zlD (zid fuel) x most
theorem zvu (h:zeY most xa x2 deep3 v3=some (.inl (deep3',v3'))):zjm most xa x2 deep3 v3=zjm most xa x2 deep3' v3':=zF (body:=fun s:(Int×Int)=>zeY most xa x2 s.1 s.2) h
theorem zvv (h:zeY most xa x2 deep3 v3=some (.inr oo_)):zjm most xa x2 deep3 v3=some oo_:=zE (body:=fun s:(Int×Int)=>zeY most xa x2 s.1 s.2) h
theorem zvs (h:zeX most xa x deep v=some (.inl (deep',v'))):zjl most xa x deep v=zjl most xa x deep' v':=zF (body:=fun s:(Int×Int)=>zeX most xa x s.1 s.2) h
theorem zvt (h:zeX most xa x deep v=some (.inr oo_)):zjl most xa x deep v=some oo_:=zE (body:=fun s:(Int×Int)=>zeX most xa x s.1 s.2) h
def zof (fuel:Nat) (x:zd):Option Int:=
 zid fuel x 131072>>=fun rv=>
 some rv
def zmh (fuel:Nat) (x:zd):Option Bool:=
 zof fuel x>>=fun rv=>
 some (decide (rv<=131072))
def zcP (l:(List Str)) (v:Int):Option (Int⊕(Unit⊕Unit)):=
 if (decide (v<(l.length:Int))) then (
  idx l v>>=fun x=>
  lenO x>>=fun v2=>
  zqk v2>>=fun rv=>
  if (!rv) then (
   some (.inr (.inr ()))
  ) else (
   some (.inl (IntKind.i64.wrap (v+1)))
  )
 ) else (
  some (.inr (.inl ()))
 )
def zgP (l:(List Str)) (v:Int):Option (Unit⊕Unit):=zad (fun s:Int=>zcP l s) v
def zkF (l:(List Str)):Option Bool:=
 zgP l 0>>=fun q=>
 match q with
 | .inl u=>(
  some true
 )
 | .inr u2=>(
  some false
 )
theorem zsI (h:zcP l v=some (.inl v')):zgP l v=zgP l v':=zF (body:=fun s:Int=>zcP l s) h
theorem zmL (h:zcP l v=some (.inr oo_)):zgP l v=some oo_:=zE (body:=fun s:Int=>zcP l s) h
def zjO (m:zg) (text:Str):Option Bool:=
 lenO text>>=fun v=>
 zmH v 0>>=fun rv=>
 if ((rv.2 !=0)|| (rv.1.To !=(text.length:Int))) then (
  some false
 ) else (
  zfu m rv.1.Number>>=fun rv2=>
  some (!rv2.2)
 )
def zaZ (k:Int) (l:(List Int)) (v:Int):Option (Int⊕(Unit⊕Unit)):=
 if (decide (v<(l.length:Int))) then (
  idx l v>>=fun x=>
  znM k x>>=fun rv=>
  if ((rv.2 !=0)|| (rv.1 !=x)) then (
   some (.inr (.inr ()))
  ) else (
   some (.inl (IntKind.i64.wrap (v+1)))
  )
 ) else (
  some (.inr (.inl ()))
 )
def zeM (k:Int) (l:(List Int)) (v:Int):Option (Unit⊕Unit):=zad (fun s:Int=>zaZ k l s) v
def zhS (k:Int) (l:(List Int)):Option Bool:=
 zeM k l 0>>=fun q=>
 match q with
 | .inl u=>(
  some true
 )
 | .inr u2=>(
  some false
 )
theorem zpv (h:zaZ k l v=some (.inl v')):zeM k l v=zeM k l v':=zF (body:=fun s:Int=>zaZ k l s) h
theorem zic (h:zaZ k l v=some (.inr oo_)):zeM k l v=some oo_:=zE (body:=fun s:Int=>zaZ k l s) h
def zbK (l:(List zd)) (message:Int) (xc:(List zg)->Int->zd->Option Bool) (sv:(List zg)) (v2:Int):Option (Int⊕(Unit⊕Unit)):=
 if (decide (v2<(l.length:Int))) then (
  idx l v2>>=fun x=>
  xc sv message x>>=fun rv=>
  if (!rv) then (
   some (.inr (.inr ()))
  ) else (
   some (.inl (IntKind.i64.wrap (v2+1)))
  )
 ) else (
  some (.inr (.inl ()))
 )
def zfq (l:(List zd)) (message:Int) (xc:(List zg)->Int->zd->Option Bool) (sv:(List zg)) (v2:Int):Option (Unit⊕Unit):=zad (fun s:Int=>zbK l message xc sv s) v2
def zhf (xp:(List zg)->Int->(List zd)->Option Bool) (xb:ze->(List zg)->zb->Option Bool) (xc:(List zg)->Int->zd->Option Bool) (sv:(List zg)) (message:Int) (l:(List zd)):Option Bool:=
 if ((decide (message<0))|| (decide (message>=(sv.length:Int)))) then (
  some false
 ) else (
  zfq l message xc sv 0>>=fun q=>
  match q with
  | .inl u=>(
   some true
  )
  | .inr u2=>(
   some false
  )
 )
def zmM (xp:(List zg)->Int->(List zd)->Option Bool) (xb:ze->(List zg)->zb->Option Bool) (xc:(List zg)->Int->zd->Option Bool) (f:ze) (sv:(List zg)) (v:zb):Option Bool:=
 zhR v>>=fun rv=>
 if ((rv==0)|| ((decide (rv>1))&&(!f.Repeated))) then (
  some false
 ) else (
  if (f.Kind==15) then (
   (
    if ((v.Texts.length:Int)==rv) then (
     zkF v.Texts>>=fun rv2=>
     some rv2
    ) else (
     some false
    )
   )>>=fun g=>
   some g
  ) else (
   if (f.Kind==16) then (
    some ((v.Texts.length:Int)==rv)
   ) else (
    if (f.Kind==17) then (
     (
      if ((v.Subs.length:Int)==rv) then (
       xp sv f.Of v.Subs>>=fun rv3=>
       some rv3
      ) else (
       some false
      )
     )>>=fun g2=>
     some g2
    ) else (
     (
      if ((v.Words.length:Int)==rv) then (
       zhS f.Kind v.Words>>=fun rv4=>
       some rv4
      ) else (
       some false
      )
     )>>=fun g3=>
     some g3
    )
   )
  )
 )
def zcz (xb:ze->(List zg)->zb->Option Bool) (sv:(List zg)) (x:zd) (x2:zg) (last:Int) (v:Int):Option ((Int×Int)⊕(Unit⊕Unit)):=
 if (decide (v<(x.Values.length:Int))) then (
  idx x.Values v>>=fun x3=>
  zfu x2 x3.Number>>=fun rv=>
  (
   if (!rv.2) then (
    some true
   ) else (
    if (decide (x3.Number<=last)) then (
     some true
    ) else (
     idx x2.Fields rv.1>>=fun x4=>
     xb x4 sv x3>>=fun rv2=>
     some (!rv2)
    )
   )
  )>>=fun g=>
  if g then (
   some (.inr (.inr ()))
  ) else (
   some (.inl (x3.Number,(IntKind.i64.wrap (v+1))))
  )
 ) else (
  some (.inr (.inl ()))
 )
def zgq (xb:ze->(List zg)->zb->Option Bool) (sv:(List zg)) (x:zd) (x2:zg) (last:Int) (v:Int):Option (Unit⊕Unit):=zad (fun s:(Int×Int)=>zcz xb sv x x2 s.1 s.2) (last,v)
def zcA (x:zd) (x2:zg) (v3:Int):Option (Int⊕(Unit⊕Unit)):=
 if (decide (v3<(x.Unknown.length:Int))) then (
  idx x.Unknown v3>>=fun x5=>
  zjO x2 x5>>=fun rv3=>
  if (!rv3) then (
   some (.inr (.inr ()))
  ) else (
   some (.inl (IntKind.i64.wrap (v3+1)))
  )
 ) else (
  some (.inr (.inl ()))
 )
def zgr (x:zd) (x2:zg) (v3:Int):Option (Unit⊕Unit):=zad (fun s:Int=>zcA x x2 s) v3
def ziy (xp:(List zg)->Int->(List zd)->Option Bool) (xb:ze->(List zg)->zb->Option Bool) (xc:(List zg)->Int->zd->Option Bool) (sv:(List zg)) (message:Int) (x:zd):Option Bool:=
 idx sv message>>=fun x2=>
 zgq xb sv x x2 0 0>>=fun q=>
 match q with
 | .inl u=>(
  zgr x x2 0>>=fun q2=>
  match q2 with
  | .inl u2=>(
   some true
  )
  | .inr u3=>(
   some false
  )
 )
 | .inr u4=>(
  some false
 )
def zai:Nat->((List zg)->Int->(List zd)->Option Bool)×(ze->(List zg)->zb->Option Bool)×((List zg)->Int->zd->Option Bool)
  | 0=>(fun _ _ _=>none,fun _ _ _=>none,fun _ _ _=>none)
  | fuel+1=>(fun sv message l=>zhf (zai fuel).1 (zai fuel).2.1 (zai fuel).2.2 sv message l,fun f sv v=>zmM (zai fuel).1 (zai fuel).2.1 (zai fuel).2.2 f sv v,fun sv message x=>ziy (zai fuel).1 (zai fuel).2.1 (zai fuel).2.2 sv message x)
def ziw (fuel:Nat):(List zg)->Int->(List zd)->Option Bool:=(zai fuel).1
def zjn (fuel:Nat):ze->(List zg)->zb->Option Bool:=(zai fuel).2.1
def zfi (fuel:Nat):(List zg)->Int->zd->Option Bool:=(zai fuel).2.2
theorem zqg (h:zbK l message xc sv v2=some (.inl v2')):zfq l message xc sv v2=zfq l message xc sv v2':=zF (body:=fun s:Int=>zbK l message xc sv s) h
theorem zlh (h:zbK l message xc sv v2=some (.inr oo_)):zfq l message xc sv v2=some oo_:=zE (body:=fun s:Int=>zbK l message xc sv s) h
theorem zru (h:zcz xb sv x x2 last v=some (.inl (last',v'))):zgq xb sv x x2 last v=zgq xb sv x x2 last' v':=zF (body:=fun s:(Int×Int)=>zcz xb sv x x2 s.1 s.2) h
theorem zlN (h:zcz xb sv x x2 last v=some (.inr oo_)):zgq xb sv x x2 last v=some oo_:=zE (body:=fun s:(Int×Int)=>zcz xb sv x x2 s.1 s.2) h
theorem zrv (h:zcA x x2 v3=some (.inl v3')):zgr x x2 v3=zgr x x2 v3':=zF (body:=fun s:Int=>zcA x x2 s) h
theorem zlO (h:zcA x x2 v3=some (.inr oo_)):zgr x x2 v3=some oo_:=zE (body:=fun s:Int=>zcA x x2 s) h
def znw (fuel:Nat) (f:ze) (sv:(List zg)) (v:zb):Option Bool:=
 (
  zgE sv>>=fun rv=>
  if rv then (
   zmh fuel (⟨([v]:(List zb)),[]⟩:zd)>>=fun rv2=>
   if rv2 then (
    zjn fuel f sv v>>=fun rv3=>
    some rv3
   ) else (
    some false
   )
  ) else (
   some false
  )
 )>>=fun g=>
 some g
def zcu (v:zb):Option Int:=
 some (IntKind.i64.wrap ((IntKind.i64.wrap ((v.Words.length:Int)+(v.Texts.length:Int)))+(v.Subs.length:Int)))
def zbU (f:ze) (v:zb) (ok:Bool) (i:Int):Option ((Bool×Int)⊕Bool):=
 if (decide (i<(v.Words.length:Int))) then (
  (
   if ok then (
    zdQ f.Kind>>=fun rv5=>
    if rv5 then (
     idx v.Words i>>=fun x=>
     zgW f.Kind x>>=fun rv6=>
     idx v.Words i>>=fun x2=>
     some (rv6==x2)
    ) else (
     some false
    )
   ) else (
    some false
   )
  )>>=fun g2=>
  some (.inl (g2,(IntKind.i64.wrap (i+1))))
 ) else (
  some (.inr ok)
 )
def zez (f:ze) (v:zb) (ok:Bool) (i:Int):Option Bool:=zad (fun s:(Bool×Int)=>zbU f v s.1 s.2) (ok,i)
def zbV (f:ze) (v:zb) (ok4:Bool) (i2:Int):Option ((Bool×Int)⊕Bool):=
 if (decide (i2<(v.Texts.length:Int))) then (
  (
   if ok4 then (
    if (f.Kind==16) then (
     some true
    ) else (
     if (f.Kind==15) then (
      idx v.Texts i2>>=fun x3=>
      lenO x3>>=fun v3=>
      zgV v3>>=fun rv7=>
      some rv7
     ) else (
      some false
     )
    )
   ) else (
    some false
   )
  )>>=fun g3=>
  some (.inl (g3,(IntKind.i64.wrap (i2+1))))
 ) else (
  some (.inr ok4)
 )
def zeA (f:ze) (v:zb) (ok4:Bool) (i2:Int):Option Bool:=zad (fun s:(Bool×Int)=>zbV f v s.1 s.2) (ok4,i2)
def zbW (f:ze) (xe:(List zg)->Int->zd->Option Bool) (sv:(List zg)) (v:zb) (ok7:Bool) (i3:Int):Option ((Bool×Int)⊕Bool):=
 if (decide (i3<(v.Subs.length:Int))) then (
  (
   if ok7 then (
    if (f.Kind==17) then (
     idx v.Subs i3>>=fun x4=>
     xe sv f.Of x4>>=fun rv8=>
     some rv8
    ) else (
     some false
    )
   ) else (
    some false
   )
  )>>=fun g4=>
  some (.inl (g4,(IntKind.i64.wrap (i3+1))))
 ) else (
  some (.inr ok7)
 )
def zeC (f:ze) (xe:(List zg)->Int->zd->Option Bool) (sv:(List zg)) (v:zb) (ok7:Bool) (i3:Int):Option Bool:=zad (fun s:(Bool×Int)=>zbW f xe sv v s.1 s.2) (ok7,i3)
def zgx (xd:(List zg)->ze->zb->Option Bool) (xe:(List zg)->Int->zd->Option Bool) (sv:(List zg)) (f:ze) (v:zb):Option Bool:=
 (
  zcu v>>=fun rv=>
  if (rv==0) then (
   some true
  ) else (
   zcu v>>=fun rv2=>
   if (decide (rv2>1)) then (
    if (!f.Repeated) then (
     some true
    ) else (
     zcZ f.Kind>>=fun rv3=>
     some (!rv3)
    )
   ) else (
    zcZ f.Kind>>=fun rv4=>
    some (!rv4)
   )
  )
 )>>=fun g=>
 if g then (
  some false
 ) else (
  zez f v true 0>>=fun q=>
  zeA f v q 0>>=fun q2=>
  zeC f xe sv v q2 0>>=fun q3=>
  some q3
 )
def zbi (xd:(List zg)->ze->zb->Option Bool) (root:Int) (sv:(List zg)) (x:zd) (i:Int):Option (Int⊕(Unit⊕Unit)):=
 if (decide (i<(x.Values.length:Int))) then (
  idx sv root>>=fun x2=>
  idx x.Values i>>=fun x3=>
  zdA x2 x3.Number>>=fun rv=>
  (
   if (decide (rv<0)) then (
    some true
   ) else (
    if (decide (i>0)) then (
     idx x.Values (IntKind.i64.wrap (i - 1))>>=fun x4=>
     idx x.Values i>>=fun x5=>
     if (decide (x4.Number>=x5.Number)) then (
      some true
     ) else (
      idx sv root>>=fun x6=>
      idx x6.Fields rv>>=fun x7=>
      idx x.Values i>>=fun x8=>
      xd sv x7 x8>>=fun rv2=>
      some (!rv2)
     )
    ) else (
     idx sv root>>=fun x9=>
     idx x9.Fields rv>>=fun x10=>
     idx x.Values i>>=fun x11=>
     xd sv x10 x11>>=fun rv3=>
     some (!rv3)
    )
   )
  )>>=fun g=>
  if g then (
   some (.inr (.inr ()))
  ) else (
   some (.inl (IntKind.i64.wrap (i+1)))
  )
 ) else (
  some (.inr (.inl ()))
 )
def zeb (xd:(List zg)->ze->zb->Option Bool) (root:Int) (sv:(List zg)) (x:zd) (i:Int):Option (Unit⊕Unit):=zad (fun s:Int=>zbi xd root sv x s) i
def zbj (root:Int) (sv:(List zg)) (x:zd) (i2:Int):Option (Int⊕(Unit⊕Unit)):=
 if (decide (i2<(x.Unknown.length:Int))) then (
  idx x.Unknown i2>>=fun x12=>
  lenO x12>>=fun v3=>
  zhD v3 0>>=fun rv4=>
  (
   if (rv4.2 !=0) then (
    some true
   ) else (
    idx x.Unknown i2>>=fun x13=>
    if (rv4.1.To !=(x13.length:Int)) then (
     some true
    ) else (
     idx sv root>>=fun x14=>
     zdA x14 rv4.1.Number>>=fun rv5=>
     some (decide (rv5>=0))
    )
   )
  )>>=fun g2=>
  if g2 then (
   some (.inr (.inr ()))
  ) else (
   some (.inl (IntKind.i64.wrap (i2+1)))
  )
 ) else (
  some (.inr (.inl ()))
 )
def zec (root:Int) (sv:(List zg)) (x:zd) (i2:Int):Option (Unit⊕Unit):=zad (fun s:Int=>zbj root sv x s) i2
def zgc (xd:(List zg)->ze->zb->Option Bool) (xe:(List zg)->Int->zd->Option Bool) (sv:(List zg)) (root:Int) (x:zd):Option Bool:=
 if ((decide (root<0))|| (decide (root>=(sv.length:Int)))) then (
  some false
 ) else (
  zeb xd root sv x 0>>=fun q=>
  match q with
  | .inl u=>(
   zec root sv x 0>>=fun q2=>
   match q2 with
   | .inl u2=>(
    some true
   )
   | .inr u3=>(
    some false
   )
  )
  | .inr u4=>(
   some false
  )
 )
def zaI:Nat->((List zg)->ze->zb->Option Bool)×((List zg)->Int->zd->Option Bool)
  | 0=>(fun _ _ _=>none,fun _ _ _=>none)
  | fuel+1=>(fun sv f v=>zgx (zaI fuel).1 (zaI fuel).2 sv f v,fun sv root x=>zgc (zaI fuel).1 (zaI fuel).2 sv root x)
def zct (fuel:Nat):(List zg)->ze->zb->Option Bool:=(zaI fuel).1
def zda (fuel:Nat):(List zg)->Int->zd->Option Bool:=(zaI fuel).2
theorem zpf (h:zbU f v ok i=some (.inl (ok',i'))):zez f v ok i=zez f v ok' i':=zF (body:=fun s:(Bool×Int)=>zbU f v s.1 s.2) h
theorem zpg (h:zbU f v ok i=some (.inr oo_)):zez f v ok i=some oo_:=zE (body:=fun s:(Bool×Int)=>zbU f v s.1 s.2) h
theorem zph (h:zbV f v ok4 i2=some (.inl (ok4',i2'))):zeA f v ok4 i2=zeA f v ok4' i2':=zF (body:=fun s:(Bool×Int)=>zbV f v s.1 s.2) h
theorem zpi (h:zbV f v ok4 i2=some (.inr oo_)):zeA f v ok4 i2=some oo_:=zE (body:=fun s:(Bool×Int)=>zbV f v s.1 s.2) h
theorem zpj (h:zbW f xe sv v ok7 i3=some (.inl (ok7',i3'))):zeC f xe sv v ok7 i3=zeC f xe sv v ok7' i3':=zF (body:=fun s:(Bool×Int)=>zbW f xe sv v s.1 s.2) h
theorem zpk (h:zbW f xe sv v ok7 i3=some (.inr oo_)):zeC f xe sv v ok7 i3=some oo_:=zE (body:=fun s:(Bool×Int)=>zbW f xe sv v s.1 s.2) h
theorem zos (h:zbi xd root sv x i=some (.inl i')):zeb xd root sv x i=zeb xd root sv x i':=zF (body:=fun s:Int=>zbi xd root sv x s) h
theorem zkc (h:zbi xd root sv x i=some (.inr oo_)):zeb xd root sv x i=some oo_:=zE (body:=fun s:Int=>zbi xd root sv x s) h
theorem zot (h:zbj root sv x i2=some (.inl i2')):zec root sv x i2=zec root sv x i2':=zF (body:=fun s:Int=>zbj root sv x s) h
theorem zkd (h:zbj root sv x i2=some (.inr oo_)):zec root sv x i2=some oo_:=zE (body:=fun s:Int=>zbj root sv x s) h
def zmg (fuel:Nat) (sv:(List zg)) (root:Int) (x:zd):Option Bool:=
 (
  zog sv root 0>>=fun rv=>
  if (rv==0) then (
   zmh fuel x>>=fun rv2=>
   if rv2 then (
    zfi fuel sv root x>>=fun rv3=>
    some rv3
   ) else (
    some false
   )
  ) else (
   some false
  )
 )>>=fun g=>
 some g
def zem (xn:zb->Option zb) (rv:(List zb)) (v:(List zb)) (v2:Int):Option (((List zb)×Int)⊕(List zb)):=
 if (decide (v2<(rv.length:Int))) then (
  idx v v2>>=fun x2=>
  xn x2>>=fun rv3=>
  idx v v2>>=fun x3=>
  some (.inl ((v.set (Int.toNat v2) rv3),(IntKind.i64.wrap (v2+1))))
 ) else (
  some (.inr v)
 )
def zix (xn:zb->Option zb) (rv:(List zb)) (v:(List zb)) (v2:Int):Option (List zb):=zad (fun s:((List zb)×Int)=>zem xn rv s.1 s.2) (v,v2)
def zkG (xm:zd->Option zd) (xn:zb->Option zb) (x:zd):Option zd:=
 zby x.Values>>=fun rv=>
 zcc x.Unknown>>=fun rv2=>
 zix xn rv rv 0>>=fun q=>
 some (⟨q,rv2⟩:zd)
def zcj (xm:zd->Option zd) (rv3:(List zd)) (v2:(List zd)) (v3:Int):Option (((List zd)×Int)⊕(List zd)):=
 if (decide (v3<(rv3.length:Int))) then (
  idx v2 v3>>=fun x=>
  xm x>>=fun rv4=>
  idx v2 v3>>=fun x2=>
  some (.inl ((v2.set (Int.toNat v3) rv4),(IntKind.i64.wrap (v3+1))))
 ) else (
  some (.inr v2)
 )
def zfr (xm:zd->Option zd) (rv3:(List zd)) (v2:(List zd)) (v3:Int):Option (List zd):=zad (fun s:((List zd)×Int)=>zcj xm rv3 s.1 s.2) (v2,v3)
def zhg (xm:zd->Option zd) (xn:zb->Option zb) (v:zb):Option zb:=
 zcS v.Words>>=fun rv=>
 zcc v.Texts>>=fun rv2=>
 zck v.Subs>>=fun rv3=>
 zfr xm rv3 rv3 0>>=fun q=>
 some (⟨v.Number,rv,rv2,q⟩:zb)
def zbB:Nat->(zd->Option zd)×(zb->Option zb)
  | 0=>(fun _=>none,fun _=>none)
  | fuel+1=>(fun x=>zkG (zbB fuel).1 (zbB fuel).2 x,fun v=>zhg (zbB fuel).1 (zbB fuel).2 v)
def ziJ (fuel:Nat):zd->Option zd:=(zbB fuel).1
def zgQ (fuel:Nat):zb->Option zb:=(zbB fuel).2
theorem zuq (h:zem xn rv v v2=some (.inl (v',v2'))):zix xn rv v v2=zix xn rv v' v2':=zF (body:=fun s:((List zb)×Int)=>zem xn rv s.1 s.2) h
theorem zur (h:zem xn rv v v2=some (.inr oo_)):zix xn rv v v2=some oo_:=zE (body:=fun s:((List zb)×Int)=>zem xn rv s.1 s.2) h
theorem zqh (h:zcj xm rv3 v2 v3=some (.inl (v2',v3'))):zfr xm rv3 v2 v3=zfr xm rv3 v2' v3':=zF (body:=fun s:((List zd)×Int)=>zcj xm rv3 s.1 s.2) h
theorem zqi (h:zcj xm rv3 v2 v3=some (.inr oo_)):zfr xm rv3 v2 v3=some oo_:=zE (body:=fun s:((List zd)×Int)=>zcj xm rv3 s.1 s.2) h
def zjZ (fuel:Nat) (x:zd):Option zd:=
 zmh fuel x>>=fun rv=>
 if (!rv) then (
  some (⟨[],[]⟩:zd)
 ) else (
  ziJ fuel x>>=fun rv2=>
  some rv2
 )
def zbs (av:zd) (b:zd) (xl:zb->zb->Option Bool) (i:Int):Option (Int⊕(Unit⊕Unit)):=
 if (decide (i<(av.Values.length:Int))) then (
  idx av.Values i>>=fun x=>
  idx b.Values i>>=fun x2=>
  xl x x2>>=fun rv=>
  if (!rv) then (
   some (.inr (.inr ()))
  ) else (
   some (.inl (IntKind.i64.wrap (i+1)))
  )
 ) else (
  some (.inr (.inl ()))
 )
def zeD (av:zd) (b:zd) (xl:zb->zb->Option Bool) (i:Int):Option (Unit⊕Unit):=zad (fun s:Int=>zbs av b xl s) i
def zbt (av:zd) (b:zd) (i2:Int):Option (Int⊕(Unit⊕Unit)):=
 if (decide (i2<(av.Unknown.length:Int))) then (
  idx av.Unknown i2>>=fun x3=>
  idx b.Unknown i2>>=fun x4=>
  if (!(x3==x4)) then (
   some (.inr (.inr ()))
  ) else (
   some (.inl (IntKind.i64.wrap (i2+1)))
  )
 ) else (
  some (.inr (.inl ()))
 )
def zeE (av:zd) (b:zd) (i2:Int):Option (Unit⊕Unit):=zad (fun s:Int=>zbt av b s) i2
def zgy (xk:zd->zd->Option Bool) (xl:zb->zb->Option Bool) (av:zd) (b:zd):Option Bool:=
 if (((av.Values.length:Int) !=(b.Values.length:Int))|| ((av.Unknown.length:Int) !=(b.Unknown.length:Int))) then (
  some false
 ) else (
  zeD av b xl 0>>=fun q=>
  match q with
  | .inl u=>(
   zeE av b 0>>=fun q2=>
   match q2 with
   | .inl u2=>(
    some true
   )
   | .inr u3=>(
    some false
   )
  )
  | .inr u4=>(
   some false
  )
 )
def zaC (av:zb) (b:zb) (i:Int):Option (Int⊕(Unit⊕Unit)):=
 if (decide (i<(av.Words.length:Int))) then (
  idx av.Words i>>=fun x=>
  idx b.Words i>>=fun x2=>
  if (x !=x2) then (
   some (.inr (.inr ()))
  ) else (
   some (.inl (IntKind.i64.wrap (i+1)))
  )
 ) else (
  some (.inr (.inl ()))
 )
def zcV (av:zb) (b:zb) (i:Int):Option (Unit⊕Unit):=zad (fun s:Int=>zaC av b s) i
def zaD (av:zb) (b:zb) (i2:Int):Option (Int⊕(Unit⊕Unit)):=
 if (decide (i2<(av.Texts.length:Int))) then (
  idx av.Texts i2>>=fun x3=>
  idx b.Texts i2>>=fun x4=>
  if (!(x3==x4)) then (
   some (.inr (.inr ()))
  ) else (
   some (.inl (IntKind.i64.wrap (i2+1)))
  )
 ) else (
  some (.inr (.inl ()))
 )
def zcW (av:zb) (b:zb) (i2:Int):Option (Unit⊕Unit):=zad (fun s:Int=>zaD av b s) i2
def zaE (av:zb) (b:zb) (xk:zd->zd->Option Bool) (i3:Int):Option (Int⊕(Unit⊕Unit)):=
 if (decide (i3<(av.Subs.length:Int))) then (
  idx av.Subs i3>>=fun x5=>
  idx b.Subs i3>>=fun x6=>
  xk x5 x6>>=fun rv=>
  if (!rv) then (
   some (.inr (.inr ()))
  ) else (
   some (.inl (IntKind.i64.wrap (i3+1)))
  )
 ) else (
  some (.inr (.inl ()))
 )
def zcX (av:zb) (b:zb) (xk:zd->zd->Option Bool) (i3:Int):Option (Unit⊕Unit):=zad (fun s:Int=>zaE av b xk s) i3
def zeh (xk:zd->zd->Option Bool) (xl:zb->zb->Option Bool) (av:zb) (b:zb):Option Bool:=
 if ((av.Number !=b.Number)|| (((av.Words.length:Int) !=(b.Words.length:Int))|| (((av.Texts.length:Int) !=(b.Texts.length:Int))|| ((av.Subs.length:Int) !=(b.Subs.length:Int))))) then (
  some false
 ) else (
  zcV av b 0>>=fun q=>
  match q with
  | .inl u=>(
   zcW av b 0>>=fun q2=>
   match q2 with
   | .inl u2=>(
    zcX av b xk 0>>=fun q3=>
    match q3 with
    | .inl u3=>(
     some true
    )
    | .inr u4=>(
     some false
    )
   )
   | .inr u5=>(
    some false
   )
  )
  | .inr u6=>(
   some false
  )
 )
def zax:Nat->(zd->zd->Option Bool)×(zb->zb->Option Bool)
  | 0=>(fun _ _=>none,fun _ _=>none)
  | fuel+1=>(fun av b=>zgy (zax fuel).1 (zax fuel).2 av b,fun av b=>zeh (zax fuel).1 (zax fuel).2 av b)
def zbY (fuel:Nat):zd->zd->Option Bool:=(zax fuel).1
def zaT (fuel:Nat):zb->zb->Option Bool:=(zax fuel).2
theorem zpl (h:zbs av b xl i=some (.inl i')):zeD av b xl i=zeD av b xl i':=zF (body:=fun s:Int=>zbs av b xl s) h
theorem zkv (h:zbs av b xl i=some (.inr oo_)):zeD av b xl i=some oo_:=zE (body:=fun s:Int=>zbs av b xl s) h
theorem zpm (h:zbt av b i2=some (.inl i2')):zeE av b i2=zeE av b i2':=zF (body:=fun s:Int=>zbt av b s) h
theorem zkw (h:zbt av b i2=some (.inr oo_)):zeE av b i2=some oo_:=zE (body:=fun s:Int=>zbt av b s) h
theorem zmx (h:zaC av b i=some (.inl i')):zcV av b i=zcV av b i':=zF (body:=fun s:Int=>zaC av b s) h
theorem ziC (h:zaC av b i=some (.inr oo_)):zcV av b i=some oo_:=zE (body:=fun s:Int=>zaC av b s) h
theorem zmy (h:zaD av b i2=some (.inl i2')):zcW av b i2=zcW av b i2':=zF (body:=fun s:Int=>zaD av b s) h
theorem ziD (h:zaD av b i2=some (.inr oo_)):zcW av b i2=some oo_:=zE (body:=fun s:Int=>zaD av b s) h
theorem zmz (h:zaE av b xk i3=some (.inl i3')):zcX av b xk i3=zcX av b xk i3':=zF (body:=fun s:Int=>zaE av b xk s) h
theorem ziE (h:zaE av b xk i3=some (.inr oo_)):zcX av b xk i3=some oo_:=zE (body:=fun s:Int=>zaE av b xk s) h
def zus (x:zd):Option (zb×Bool):=
 if ((x.Values.length:Int)==0) then (
  some ((⟨0,[],[],[]⟩:zb),false)
 ) else (
  idx x.Values 0>>=fun x2=>
  some (x2,true)
 )
def zgh (fuel:Nat) (number:Int) (x:zd) (v:Int):Option (Int⊕(Unit⊕(Bool×Int×(List Int)×(List Str)×(List zd)))):=
 if (decide (v<(x.Values.length:Int))) then (
  idx x.Values v>>=fun x2=>
  if (x2.Number==number) then (
   zjZ fuel (⟨([x2]:(List zb)),[]⟩:zd)>>=fun rv=>
   zus rv>>=fun rv2=>
   some (.inr (.inr (rv2.2,rv2.1.Number,rv2.1.Words,rv2.1.Texts,rv2.1.Subs)))
  ) else (
   some (.inl (IntKind.i64.wrap (v+1)))
  )
 ) else (
  some (.inr (.inl ()))
 )
def zlg (fuel:Nat) (number:Int) (x:zd) (v:Int):Option (Unit⊕(Bool×Int×(List Int)×(List Str)×(List zd))):=zad (fun s:Int=>zgh fuel number x s) v
def zsE (fuel:Nat) (x:zd) (number:Int):Option (zb×Bool):=
 zlg fuel number x 0>>=fun q=>
 match q with
 | .inl u=>(
  some ((⟨0,[],[],[]⟩:zb),false)
 )
 | .inr u2=>(
  some ((⟨u2.2.1,u2.2.2.1,u2.2.2.2.1,u2.2.2.2.2⟩:zb),u2.1)
 )
theorem zxg (h:zgh fuel number x v=some (.inl v')):zlg fuel number x v=zlg fuel number x v':=zF (body:=fun s:Int=>zgh fuel number x s) h
theorem zrc (h:zgh fuel number x v=some (.inr oo_)):zlg fuel number x v=some oo_:=zE (body:=fun s:Int=>zgh fuel number x s) h
def zbI (number:Int) (x:zd) (i:Int):Option (Int⊕(Unit⊕Int)):=
 if (decide (i<(x.Values.length:Int))) then (
  idx x.Values i>>=fun x2=>
  if (x2.Number==number) then (
   some (.inr (.inr i))
  ) else (
   some (.inl (IntKind.i64.wrap (i+1)))
  )
 ) else (
  some (.inr (.inl ()))
 )
def zfn (number:Int) (x:zd) (i:Int):Option (Unit⊕Int):=zad (fun s:Int=>zbI number x s) i
def zgK (x:zd) (number:Int):Option Int:=
 zfn number x 0>>=fun q=>
 match q with
 | .inl u=>(
  some (-1)
 )
 | .inr u2=>(
  some u2
 )
theorem zpH (h:zbI number x i=some (.inl i')):zfn number x i=zfn number x i':=zF (body:=fun s:Int=>zbI number x s) h
theorem zkV (h:zbI number x i=some (.inr oo_)):zfn number x i=some oo_:=zE (body:=fun s:Int=>zbI number x s) h
def zjA (fuel:Nat) (x:zd) (v:(List zg)) (v2:Int):Option Bool:=
 zmg fuel v v2 x>>=fun rv=>
 some (!rv)
def zG (fuel:Nat) (sv:(List zd)) (v:(List zg)) (v2:Int) (v3:Int):Option (Int⊕(Unit⊕Int)):=
 if (decide (v3<(sv.length:Int))) then (
  idx sv v3>>=fun x=>
  zjA fuel x v v2>>=fun rv=>
  if rv then (
   some (.inr (.inr v3))
  ) else (
   some (.inl (IntKind.i64.wrap (v3+1)))
  )
 ) else (
  some (.inr (.inl ()))
 )
def zJ (fuel:Nat) (sv:(List zd)) (v:(List zg)) (v2:Int) (v3:Int):Option (Unit⊕Int):=zad (fun s:Int=>zG fuel sv v v2 s) v3
def zaP (fuel:Nat) (sv:(List zd)) (v:(List zg)) (v2:Int):Option Int:=
 zJ fuel sv v v2 0>>=fun q=>
 match q with
 | .inl u=>(
  some (-1)
 )
 | .inr u2=>(
  some u2
 )
theorem zfz {fuel:Nat} {sv:(List zd)} {v:(List zg)} {v2:Int} {v3:Int} {v3':Int} (h:zG fuel sv v v2 v3=some (.inl v3')):zJ fuel sv v v2 v3=zJ fuel sv v v2 v3':=zF (body:=fun s:Int=>zG fuel sv v v2 s) h
theorem zcG {fuel:Nat} {sv:(List zd)} {v:(List zg)} {v2:Int} {v3:Int} {oo_:(Unit⊕Int)} (h:zG fuel sv v v2 v3=some (.inr oo_)):zJ fuel sv v v2 v3=some oo_:=zE (body:=fun s:Int=>zG fuel sv v v2 s) h
def zap (fuel:Nat) (sv:(List zd)) (v:(List zg)) (v2:Int):Option Bool:=
 zaP fuel sv v v2>>=fun rv=>
 some (decide (rv>=0))
def ziL (fuel:Nat) (sv:(List zg)) (root:Int) (l:(List zd)):Option Int:=
 zap fuel l sv root>>=fun rv=>
 if (!rv) then (
  some 0
 ) else (
  zgE sv>>=fun rv2=>
  if (!rv2) then (
   some 9
  ) else (
   if ((decide (root<0))|| (decide (root>=(sv.length:Int)))) then (
    some 2
   ) else (
    some 12
   )
  )
 )
def zih (fuel:Nat) (sv:(List zg)) (root:Int) (x:zd) (way:(List Int)):Option Int:=
 ziL fuel sv root ([x]:(List zd))>>=fun rv=>
 if (rv !=0) then (
  some rv
 ) else (
  znP sv root (⟨([way]:(List (List Int)))⟩:zig)>>=fun rv2=>
  some rv2.2
 )
def zcf (x:zd) (values:(List (Int×zb))) (v:Int):Option (((List (Int×zb))×Int)⊕(List (Int×zb))):=
 if (decide (v<(x.Values.length:Int))) then (
  idx x.Values v>>=fun x2=>
  some (.inl ((mput values x2.Number x2),(IntKind.i64.wrap (v+1))))
 ) else (
  some (.inr values)
 )
def zfj (x:zd) (values:(List (Int×zb))) (v:Int):Option (List (Int×zb)):=zad (fun s:((List (Int×zb))×Int)=>zcf x s.1 s.2) (values,v)
def zfG (x:zd):Option (List (Int×zb)):=
 zfj x ([]:(List (Int×zb))) 0>>=fun q=>
 some q
theorem zpy {x:zd} {values:(List (Int×zb))} {v:Int} {values':(List (Int×zb))} {v':Int} (h:zcf x values v=some (.inl (values',v'))):zfj x values v=zfj x values' v':=zF (body:=fun s:((List (Int×zb))×Int)=>zcf x s.1 s.2) h
theorem zpz {x:zd} {values:(List (Int×zb))} {v:Int} {oo_:(List (Int×zb))} (h:zcf x values v=some (.inr oo_)):zfj x values v=some oo_:=zE (body:=fun s:((List (Int×zb))×Int)=>zcf x s.1 s.2) h
def zfU (v:zb):Option zd:=
 if ((v.Subs.length:Int)==0) then (
  some (⟨[],[]⟩:zd)
 ) else (
  idx v.Subs 0>>=fun x=>
  some x
 )
def zeW (v:(List Int)) (v2:Int) (f:(List zb)) (f2:(List Str)):Option ((Int×(List zb)×(List Str))⊕((List zb)×(List Str))):=
 if (decide (v2<(v.length:Int))) then (
  idx v v2>>=fun x2=>
  zfG (⟨f,f2⟩:zd)>>=fun rv2=>
  zfU ((mget rv2 x2).getD (⟨0,[],[],[]⟩:zb))>>=fun rv3=>
  some (.inl ((IntKind.i64.wrap (v2+1)),rv3.Values,rv3.Unknown))
 ) else (
  some (.inr (f,f2))
 )
def zjd (v:(List Int)) (v2:Int) (f:(List zb)) (f2:(List Str)):Option ((List zb)×(List Str)):=zad (fun s:(Int×(List zb)×(List Str))=>zeW v s.1 s.2.1 s.2.2) (v2,f,f2)
def znB (fuel:Nat) (sv:(List zg)) (root:Int) (x:zd) (way:(List Int)):Option (zb×Int):=
 zih fuel sv root x way>>=fun rv=>
 if (rv !=0) then (
  some ((⟨0,[],[],[]⟩:zb),rv)
 ) else (
  cut way 0 (IntKind.i64.wrap ((way.length:Int) - 1))>>=fun v=>
  zjd v 0 x.Values x.Unknown>>=fun q=>
  idx way (IntKind.i64.wrap ((way.length:Int) - 1))>>=fun x3=>
  zsE fuel (⟨q.1,q.2⟩:zd) x3>>=fun rv4=>
  if (!rv4.2) then (
   some ((⟨0,[],[],[]⟩:zb),11)
  ) else (
   some (rv4.1,0)
  )
 )
theorem zuy {v:(List Int)} {v2:Int} {f:(List zb)} {f2:(List Str)} {v2':Int} {f':(List zb)} {f2':(List Str)} (h:zeW v v2 f f2=some (.inl (v2',f',f2'))):zjd v v2 f f2=zjd v v2' f' f2':=zF (body:=fun s:(Int×(List zb)×(List Str))=>zeW v s.1 s.2.1 s.2.2) h
theorem zuz {v:(List Int)} {v2:Int} {f:(List zb)} {f2:(List Str)} {oo_:((List zb)×(List Str))} (h:zeW v v2 f f2=some (.inr oo_)):zjd v v2 f f2=some oo_:=zE (body:=fun s:(Int×(List zb)×(List Str))=>zeW v s.1 s.2.1 s.2.2) h
def zhV (m:zg) (number:Int):Option ze:=
 zfu m number>>=fun rv=>
 idx m.Fields rv.1>>=fun x=>
 some x
def zje (number:Int) (x:zd):Option zb:=
 some (⟨number,[],[],([x]:(List zd))⟩:zb)
def zcC (v2:(List Int)) (values:(List (Int×zb))) (l:(List zb)) (v3:Int):Option (((List zb)×Int)⊕(List zb)):=
 if (decide (v3<(v2.length:Int))) then (
  idx v2 v3>>=fun x=>
  app 80 l ([((mget values x).getD (⟨0,[],[],[]⟩:zb))]:(List zb))>>=fun v4=>
  some (.inl (v4,(IntKind.i64.wrap (v3+1))))
 ) else (
  some (.inr l)
 )
def zfI (v2:(List Int)) (values:(List (Int×zb))) (l:(List zb)) (v3:Int):Option (List zb):=zad (fun s:((List zb)×Int)=>zcC v2 values s.1 s.2) (l,v3)
def zdd (values:(List (Int×zb))):Option (List zb):=
 mkO 80 ((⟨0,[],[],[]⟩:zb):zb) 0 (values.length:Int)>>=fun v=>
 zyu values>>=fun v2=>
 zfI v2 values v 0>>=fun q=>
 some q
theorem zqr {v2:(List Int)} {values:(List (Int×zb))} {l:(List zb)} {v3:Int} {l':(List zb)} {v3':Int} (h:zcC v2 values l v3=some (.inl (l',v3'))):zfI v2 values l v3=zfI v2 values l' v3':=zF (body:=fun s:((List zb)×Int)=>zcC v2 values s.1 s.2) h
theorem zqs {v2:(List Int)} {values:(List (Int×zb))} {l:(List zb)} {v3:Int} {oo_:(List zb)} (h:zcC v2 values l v3=some (.inr oo_)):zfI v2 values l v3=some oo_:=zE (body:=fun s:((List zb)×Int)=>zcC v2 values s.1 s.2) h
def zdG (b:zd) (message:Int) (xf:(List zg)->ze->zb->zb->Option zb) (sv:(List zg)) (values:(List (Int×zb))) (v:Int):Option (((List (Int×zb))×Int)⊕(List (Int×zb))):=
 if (decide (v<(b.Values.length:Int))) then (
  idx b.Values v>>=fun x=>
  if (mget values x.Number).isSome then (
   idx sv message>>=fun x2=>
   zhV x2 x.Number>>=fun rv2=>
   xf sv rv2 (⟨((mget values x.Number).getD (⟨0,[],[],[]⟩:zb)).Number,((mget values x.Number).getD (⟨0,[],[],[]⟩:zb)).Words,((mget values x.Number).getD (⟨0,[],[],[]⟩:zb)).Texts,((mget values x.Number).getD (⟨0,[],[],[]⟩:zb)).Subs⟩:zb) x>>=fun rv3=>
   some (.inl ((mput values rv3.Number rv3),(IntKind.i64.wrap (v+1))))
  ) else (
   some (.inl ((mput values x.Number x),(IntKind.i64.wrap (v+1))))
  )
 ) else (
  some (.inr values)
 )
def zhr (b:zd) (message:Int) (xf:(List zg)->ze->zb->zb->Option zb) (sv:(List zg)) (values:(List (Int×zb))) (v:Int):Option (List (Int×zb)):=zad (fun s:((List (Int×zb))×Int)=>zdG b message xf sv s.1 s.2) (values,v)
def zjE (xq:(List zg)->Int->zd->zd->Option zd) (xf:(List zg)->ze->zb->zb->Option zb) (sv:(List zg)) (message:Int) (av:zd) (b:zd):Option zd:=
 zfG av>>=fun rv=>
 zhr b message xf sv rv 0>>=fun q=>
 zdd q>>=fun rv4=>
 zbX ([av.Unknown,b.Unknown]:(List (List Str)))>>=fun rv5=>
 some (⟨rv4,rv5⟩:zd)
def zfZ (xq:(List zg)->Int->zd->zd->Option zd) (xf:(List zg)->ze->zb->zb->Option zb) (sv:(List zg)) (f:ze) (v:zb) (wv:zb):Option zb:=
 if f.Repeated then (
  zcL ([v.Words,wv.Words]:(List (List Int)))>>=fun rv=>
  zbX ([v.Texts,wv.Texts]:(List (List Str)))>>=fun rv2=>
  zca ([v.Subs,wv.Subs]:(List (List zd)))>>=fun rv3=>
  some (⟨f.Number,rv,rv2,rv3⟩:zb)
 ) else (
  if (f.Kind==17) then (
   zfU v>>=fun rv4=>
   zfU wv>>=fun rv5=>
   xq sv f.Of rv4 rv5>>=fun rv6=>
   zje f.Number rv6>>=fun rv7=>
   some (⟨rv7.Number,[],[],rv7.Subs⟩:zb)
  ) else (
   some wv
  )
 )
def zbb:Nat->((List zg)->Int->zd->zd->Option zd)×((List zg)->ze->zb->zb->Option zb)
  | 0=>(fun _ _ _ _=>none,fun _ _ _ _=>none)
  | fuel+1=>(fun sv message av b=>zjE (zbb fuel).1 (zbb fuel).2 sv message av b,fun sv f v wv=>zfZ (zbb fuel).1 (zbb fuel).2 sv f v wv)
def zjQ (fuel:Nat):(List zg)->Int->zd->zd->Option zd:=(zbb fuel).1
def zgR (fuel:Nat):(List zg)->ze->zb->zb->Option zb:=(zbb fuel).2
theorem ztl {b:zd} {message:Int} {xf:(List zg)->ze->zb->zb->Option zb} {sv:(List zg)} {values:(List (Int×zb))} {v:Int} {values':(List (Int×zb))} {v':Int} (h:zdG b message xf sv values v=some (.inl (values',v'))):zhr b message xf sv values v=zhr b message xf sv values' v':=zF (body:=fun s:((List (Int×zb))×Int)=>zdG b message xf sv s.1 s.2) h
theorem ztm {b:zd} {message:Int} {xf:(List zg)->ze->zb->zb->Option zb} {sv:(List zg)} {values:(List (Int×zb))} {v:Int} {oo_:(List (Int×zb))} (h:zdG b message xf sv values v=some (.inr oo_)):zhr b message xf sv values v=some oo_:=zE (body:=fun s:((List (Int×zb))×Int)=>zdG b message xf sv s.1 s.2) h
def zlm (fuel:Nat) (sv:(List zg)) (root:Int) (av:zd) (b:zd):Option (zd×Int):=
 ziL fuel sv root ([av,b]:(List zd))>>=fun rv=>
 if (rv !=0) then (
  some ((⟨[],[]⟩:zd),rv)
 ) else (
  zjQ fuel sv root av b>>=fun rv2=>
  zjZ fuel rv2>>=fun rv3=>
  some (rv3,0)
 )
def zcB (ways:(List (List Int))) (rests:(List (Int×(List (List Int))))) (v:Int):Option (((List (Int×(List (List Int))))×Int)⊕(List (Int×(List (List Int))))):=
 if (decide (v<(ways.length:Int))) then (
  idx ways v>>=fun x=>
  idx x 0>>=fun x2=>
  cut x 1 (x.length:Int)>>=fun v2=>
  app 24 ((mget rests x2).getD []) ([v2]:(List (List Int)))>>=fun v3=>
  some (.inl ((mput rests x2 v3),(IntKind.i64.wrap (v+1))))
 ) else (
  some (.inr rests)
 )
def zfF (ways:(List (List Int))) (rests:(List (Int×(List (List Int))))) (v:Int):Option (List (Int×(List (List Int)))):=zad (fun s:((List (Int×(List (List Int))))×Int)=>zcB ways s.1 s.2) (rests,v)
def ziV (ways:(List (List Int))):Option (List (Int×(List (List Int)))):=
 zfF ways ([]:(List (Int×(List (List Int))))) 0>>=fun q=>
 some q
theorem zqo {ways:(List (List Int))} {rests:(List (Int×(List (List Int))))} {v:Int} {rests':(List (Int×(List (List Int))))} {v':Int} (h:zcB ways rests v=some (.inl (rests',v'))):zfF ways rests v=zfF ways rests' v':=zF (body:=fun s:((List (Int×(List (List Int))))×Int)=>zcB ways s.1 s.2) h
theorem zqp {ways:(List (List Int))} {rests:(List (Int×(List (List Int))))} {v:Int} {oo_:(List (Int×(List (List Int))))} (h:zcB ways rests v=some (.inr oo_)):zfF ways rests v=some oo_:=zE (body:=fun s:((List (Int×(List (List Int))))×Int)=>zcB ways s.1 s.2) h
def zee (keep:Bool) (message:Int) (xo:(List zg)->Int->zd->(List (List Int))->Bool->Option zd) (rv:(List (Int×(List (List Int))))) (sv:(List zg)) (x:zd) (v:Int) (f2:(List zb)):Option ((Int×(List zb))⊕(List zb)):=
 if (decide (v<(x.Values.length:Int))) then (
  idx x.Values v>>=fun x2=>
  idx sv message>>=fun x3=>
  zhV x3 x2.Number>>=fun rv2=>
  (
   if ((((mget rv x2.Number).getD []).length:Int)==1) then (
    idx ((mget rv x2.Number).getD []) 0>>=fun x4=>
    some ((x4.length:Int)==0)
   ) else (
    some false
   )
  )>>=fun g=>
  if ((!g)&&((decide ((((mget rv x2.Number).getD []).length:Int)>0))&&((rv2.Kind==17)&&(!rv2.Repeated)))) then (
   zfU x2>>=fun rv3=>
   xo sv rv2.Of rv3 ((mget rv x2.Number).getD []) keep>>=fun rv4=>
   zje x2.Number rv4>>=fun rv5=>
   app 80 f2 ([(⟨rv5.Number,[],[],rv5.Subs⟩:zb)]:(List zb))>>=fun v3=>
   some (.inl ((IntKind.i64.wrap (v+1)),v3))
  ) else (
   if (g==keep) then (
    app 80 f2 ([x2]:(List zb))>>=fun v4=>
    some (.inl ((IntKind.i64.wrap (v+1)),v4))
   ) else (
    some (.inl ((IntKind.i64.wrap (v+1)),f2))
   )
  )
 ) else (
  some (.inr f2)
 )
def zii (keep:Bool) (message:Int) (xo:(List zg)->Int->zd->(List (List Int))->Bool->Option zd) (rv:(List (Int×(List (List Int))))) (sv:(List zg)) (x:zd) (v:Int) (f2:(List zb)):Option (List zb):=zad (fun s:(Int×(List zb))=>zee keep message xo rv sv x s.1 s.2) (v,f2)
def zkr (xo:(List zg)->Int->zd->(List (List Int))->Bool->Option zd) (sv:(List zg)) (message:Int) (x:zd) (ways:(List (List Int))) (keep:Bool):Option zd:=
 ((
  if (!keep) then (
   some x.Unknown
  ) else (
   some []
  )
  :Option (List Str)))>>=fun p=>
 ziV ways>>=fun rv=>
 zii keep message xo rv sv x 0 []>>=fun q=>
 some (⟨q,p⟩:zd)
def zjC:Nat->(List zg)->Int->zd->(List (List Int))->Bool->Option zd
  | 0,_,_,_,_,_=>none
  | fuel+1,sv,message,x,ways,keep=>zkr (zjC fuel) sv message x ways keep
theorem ztJ {keep:Bool} {message:Int} {xo:(List zg)->Int->zd->(List (List Int))->Bool->Option zd} {rv:(List (Int×(List (List Int))))} {sv:(List zg)} {x:zd} {v:Int} {f2:(List zb)} {v':Int} {f2':(List zb)} (h:zee keep message xo rv sv x v f2=some (.inl (v',f2'))):zii keep message xo rv sv x v f2=zii keep message xo rv sv x v' f2':=zF (body:=fun s:(Int×(List zb))=>zee keep message xo rv sv x s.1 s.2) h
theorem ztK {keep:Bool} {message:Int} {xo:(List zg)->Int->zd->(List (List Int))->Bool->Option zd} {rv:(List (Int×(List (List Int))))} {sv:(List zg)} {x:zd} {v:Int} {f2:(List zb)} {oo_:(List zb)} (h:zee keep message xo rv sv x v f2=some (.inr oo_)):zii keep message xo rv sv x v f2=some oo_:=zE (body:=fun s:(Int×(List zb))=>zee keep message xo rv sv x s.1 s.2) h
def zjB (fuel:Nat) (sv:(List zg)) (root:Int) (x:zd) (m:zig) (keep:Bool):Option (zd×Int):=
 ziL fuel sv root ([x]:(List zd))>>=fun rv=>
 if (rv !=0) then (
  some ((⟨[],[]⟩:zd),rv)
 ) else (
  ztc m.Ways>>=fun rv2=>
  zjC fuel sv root x rv2.Ways keep>>=fun rv3=>
  zjZ fuel rv3>>=fun rv4=>
  some (rv4,0)
 )
def zkq (fuel:Nat) (sv:(List zg)) (root:Int) (x:zd) (m:zig):Option (zd×Int):=
 zjB fuel sv root x m false>>=fun rv=>
 some (rv.1,rv.2)
def zdS (v:zb):Option Bool:=
 some (decide ((IntKind.i64.wrap ((IntKind.i64.wrap ((v.Words.length:Int)+(v.Texts.length:Int)))+(v.Subs.length:Int)))>0))
def zbF (sv:(List zg)) (way:(List Int)) (v:Int) (f:Str) (f2:Int) (f3:Int) (f4:Bool) (f5:Bool) (f6:Int):Option ((Int×Str×Int×Int×Bool×Bool×Int)⊕(Str×Int×Int×Bool×Bool×Int)):=
 if (decide (v<(way.length:Int))) then (
  idx way v>>=fun x=>
  idx sv f6>>=fun x2=>
  zhV x2 x>>=fun rv=>
  some (.inl ((IntKind.i64.wrap (v+1)),rv.Name,rv.Number,rv.Kind,rv.Repeated,rv.Packed,rv.Of))
 ) else (
  some (.inr (f,f2,f3,f4,f5,f6))
 )
def zfH (sv:(List zg)) (way:(List Int)) (v:Int) (f:Str) (f2:Int) (f3:Int) (f4:Bool) (f5:Bool) (f6:Int):Option (Str×Int×Int×Bool×Bool×Int):=zad (fun s:(Int×Str×Int×Int×Bool×Bool×Int)=>zbF sv way s.1 s.2.1 s.2.2.1 s.2.2.2.1 s.2.2.2.2.1 s.2.2.2.2.2.1 s.2.2.2.2.2.2) (v,f,f2,f3,f4,f5,f6)
def zhq (sv:(List zg)) (root:Int) (way:(List Int)):Option ze:=
 zfH sv way 0 [] 0 0 false false root>>=fun q=>
 some (⟨q.1,q.2.1,q.2.2.1,q.2.2.2.1,q.2.2.2.2.1,q.2.2.2.2.2⟩:ze)
theorem zqq {sv:(List zg)} {way:(List Int)} {v:Int} {f:Str} {f2:Int} {f3:Int} {f4:Bool} {f5:Bool} {f6:Int} {v':Int} {f':Str} {f2':Int} {f3':Int} {f4':Bool} {f5':Bool} {f6':Int} (h:zbF sv way v f f2 f3 f4 f5 f6=some (.inl (v',f',f2',f3',f4',f5',f6'))):zfH sv way v f f2 f3 f4 f5 f6=zfH sv way v' f' f2' f3' f4' f5' f6':=zF (body:=fun s:(Int×Str×Int×Int×Bool×Bool×Int)=>zbF sv way s.1 s.2.1 s.2.2.1 s.2.2.2.1 s.2.2.2.2.1 s.2.2.2.2.2.1 s.2.2.2.2.2.2) h
theorem zln {sv:(List zg)} {way:(List Int)} {v:Int} {f:Str} {f2:Int} {f3:Int} {f4:Bool} {f5:Bool} {f6:Int} {oo_:(Str×Int×Int×Bool×Bool×Int)} (h:zbF sv way v f f2 f3 f4 f5 f6=some (.inr oo_)):zfH sv way v f f2 f3 f4 f5 f6=some oo_:=zE (body:=fun s:(Int×Str×Int×Int×Bool×Bool×Int)=>zbF sv way s.1 s.2.1 s.2.2.1 s.2.2.2.1 s.2.2.2.2.1 s.2.2.2.2.2.1 s.2.2.2.2.2.2) h
def zhW (xr:zd->(List Int)->zb->Option zd) (x:zd) (way:(List Int)) (v:zb):Option zd:=
 zfG x>>=fun rv=>
 idx way 0>>=fun x2=>
 (
  if (!(mget rv x2).isSome) then (
   zdS v>>=fun rv2=>
   some (!rv2)
  ) else (
   some false
  )
 )>>=fun g=>
 if g then (
  some x
 ) else (
  if (decide ((way.length:Int)>1)) then (
   zfU (⟨((mget rv x2).getD (⟨0,[],[],[]⟩:zb)).Number,((mget rv x2).getD (⟨0,[],[],[]⟩:zb)).Words,((mget rv x2).getD (⟨0,[],[],[]⟩:zb)).Texts,((mget rv x2).getD (⟨0,[],[],[]⟩:zb)).Subs⟩:zb)>>=fun rv3=>
   cut way 1 (way.length:Int)>>=fun v3=>
   xr rv3 v3 v>>=fun rv4=>
   zje x2 rv4>>=fun rv5=>
   zdd (mput rv x2 (⟨rv5.Number,[],[],rv5.Subs⟩:zb))>>=fun rv6=>
   some (⟨rv6,x.Unknown⟩:zd)
  ) else (
   zdS v>>=fun rv7=>
   if (!rv7) then (
    zdd (mdel rv x2)>>=fun rv8=>
    some (⟨rv8,x.Unknown⟩:zd)
   ) else (
    zdd (mput rv x2 (⟨x2,v.Words,v.Texts,v.Subs⟩:zb))>>=fun rv9=>
    some (⟨rv9,x.Unknown⟩:zd)
   )
  )
 )
def zjF:Nat->zd->(List Int)->zb->Option zd
  | 0,_,_,_=>none
  | fuel+1,x,way,v=>zhW (zjF fuel) x way v
def zmq (fuel:Nat) (sv:(List zg)) (root:Int) (x:zd) (way:(List Int)) (v:zb):Option (zd×Int):=
 zih fuel sv root x way>>=fun rv=>
 if (rv !=0) then (
  some ((⟨[],[]⟩:zd),rv)
 ) else (
  (
   zdS v>>=fun rv2=>
   if rv2 then (
    zhq sv root way>>=fun rv3=>
    znw fuel rv3 sv v>>=fun rv4=>
    some (!rv4)
   ) else (
    some false
   )
  )>>=fun g=>
  if g then (
   some ((⟨[],[]⟩:zd),12)
  ) else (
   zjF fuel x way v>>=fun rv5=>
   zjZ fuel rv5>>=fun rv6=>
   some (rv6,0)
  )
 )
def zgS (fuel:Nat):Option Bool:=
 ztc ([([1]:(List Int))]:(List (List Int)))>>=fun rv=>
 zkq fuel ([(⟨[109],([(⟨[97],1,3,false,false,0⟩:ze)]:(List ze))⟩:zg)]:(List zg)) 0 (⟨([(⟨1,([5]:(List Int)),[],[]⟩:zb)]:(List zb)),([[16,1]]:(List Str))⟩:zd) rv>>=fun rv2=>
 zlm fuel ([(⟨[109],([(⟨[97],1,3,false,false,0⟩:ze)]:(List ze))⟩:zg)]:(List zg)) 0 rv2.1 (⟨([(⟨1,([5]:(List Int)),[],[]⟩:zb)]:(List zb)),([[16,1]]:(List Str))⟩:zd)>>=fun rv3=>
 some (((IntKind.i64.wrap ((IntKind.i64.wrap rv2.2)+(IntKind.i64.wrap rv3.2)))==0)&&(((rv2.1.Values.length:Int)==0)&&(((rv2.1.Unknown.length:Int)==1)&&(((rv3.1.Values.length:Int)==1)&&((rv3.1.Unknown.length:Int)==2)))))
def zbH (fuel:Nat) (l:(List zd)) (i:Int):Option (Int⊕(Unit⊕Unit)):=
 if (decide (i<(l.length:Int))) then (
  idx l i>>=fun x=>
  zcr fuel x 70>>=fun rv=>
  if (decide (rv>2000)) then (
   some (.inr (.inr ()))
  ) else (
   some (.inl (IntKind.i64.wrap (i+1)))
  )
 ) else (
  some (.inr (.inl ()))
 )
def zfm (fuel:Nat) (l:(List zd)) (i:Int):Option (Unit⊕Unit):=zad (fun s:Int=>zbH fuel l s) i
def zim (fuel:Nat) (l:(List zd)):Option Bool:=
 zfm fuel l 0>>=fun q=>
 match q with
 | .inl u=>(
  some false
 )
 | .inr u2=>(
  some true
 )
theorem zpG {fuel:Nat} {l:(List zd)} {i:Int} {i':Int} (h:zbH fuel l i=some (.inl i')):zfm fuel l i=zfm fuel l i':=zF (body:=fun s:Int=>zbH fuel l s) h
theorem zkU {fuel:Nat} {l:(List zd)} {i:Int} {oo_:(Unit⊕Unit)} (h:zbH fuel l i=some (.inr oo_)):zfm fuel l i=some oo_:=zE (body:=fun s:Int=>zbH fuel l s) h
def zbJ (fuel:Nat) (l:(List zd)) (root:Int) (sv:(List zg)) (i:Int):Option (Int⊕(Unit⊕Unit)):=
 if (decide (i<(l.length:Int))) then (
  idx l i>>=fun x=>
  zda fuel sv root x>>=fun rv2=>
  if (!rv2) then (
   some (.inr (.inr ()))
  ) else (
   some (.inl (IntKind.i64.wrap (i+1)))
  )
 ) else (
  some (.inr (.inl ()))
 )
def zfo (fuel:Nat) (l:(List zd)) (root:Int) (sv:(List zg)) (i:Int):Option (Unit⊕Unit):=zad (fun s:Int=>zbJ fuel l root sv s) i
def zio (fuel:Nat) (sv:(List zg)) (root:Int) (l:(List zd)):Option Int:=
 zhF sv root>>=fun rv=>
 if (rv !=0) then (
  some rv
 ) else (
  zfo fuel l root sv 0>>=fun q=>
  match q with
  | .inl u=>(
   some 0
  )
  | .inr u2=>(
   some 12
  )
 )
theorem zpI {fuel:Nat} {l:(List zd)} {root:Int} {sv:(List zg)} {i:Int} {i':Int} (h:zbJ fuel l root sv i=some (.inl i')):zfo fuel l root sv i=zfo fuel l root sv i':=zF (body:=fun s:Int=>zbJ fuel l root sv s) h
theorem zkW {fuel:Nat} {l:(List zd)} {root:Int} {sv:(List zg)} {i:Int} {oo_:(Unit⊕Unit)} (h:zbJ fuel l root sv i=some (.inr oo_)):zfo fuel l root sv i=some oo_:=zE (body:=fun s:Int=>zbJ fuel l root sv s) h
def zci (v:zb) (x:zd) (done:Bool) (i:Int) (f:(List zb)):Option ((Bool×Int×(List zb))⊕(Bool×(List zb))):=
 if (decide (i<(x.Values.length:Int))) then (
  (
   if (!done) then (
    idx x.Values i>>=fun x2=>
    some (decide (x2.Number>=v.Number))
   ) else (
    some false
   )
  )>>=fun g=>
  ((
   if g then (
    app 80 f ([v]:(List zb))>>=fun v3=>
    some (true,v3)
   ) else (
    some (done,f)
   )
   :Option (Bool×(List zb))))>>=fun p=>
  idx x.Values i>>=fun x3=>
  if (x3.Number !=v.Number) then (
   idx x.Values i>>=fun x4=>
   app 80 p.2 ([x4]:(List zb))>>=fun v4=>
   some (.inl (p.1,(IntKind.i64.wrap (i+1)),v4))
  ) else (
   some (.inl (p.1,(IntKind.i64.wrap (i+1)),p.2))
  )
 ) else (
  some (.inr (done,f))
 )
def zfp (v:zb) (x:zd) (done:Bool) (i:Int) (f:(List zb)):Option (Bool×(List zb)):=zad (fun s:(Bool×Int×(List zb))=>zci v x s.1 s.2.1 s.2.2) (done,i,f)
def zfK (x:zd) (v:zb):Option zd:=
 zcu v>>=fun rv=>
 zfp v x (rv==0) 0 []>>=fun q=>
 if (!q.1) then (
  app 80 q.2 ([v]:(List zb))>>=fun v5=>
  some (⟨v5,x.Unknown⟩:zd)
 ) else (
  some (⟨q.2,x.Unknown⟩:zd)
 )
theorem zpJ {v:zb} {x:zd} {done:Bool} {i:Int} {f:(List zb)} {done':Bool} {i':Int} {f':(List zb)} (h:zci v x done i f=some (.inl (done',i',f'))):zfp v x done i f=zfp v x done' i' f':=zF (body:=fun s:(Bool×Int×(List zb))=>zci v x s.1 s.2.1 s.2.2) h
theorem zpK {v:zb} {x:zd} {done:Bool} {i:Int} {f:(List zb)} {oo_:(Bool×(List zb))} (h:zci v x done i f=some (.inr oo_)):zfp v x done i f=some oo_:=zE (body:=fun s:(Bool×Int×(List zb))=>zci v x s.1 s.2.1 s.2.2) h
def zbu (sv:(List zg)) (way:(List Int)) (root2:Int) (i:Int) (f:Str) (f2:Int) (f3:Int) (f4:Bool) (f5:Bool) (f6:Int):Option ((Int×Int×Str×Int×Int×Bool×Bool×Int)⊕(Str×Int×Int×Bool×Bool×Int)):=
 if (decide (i<(way.length:Int))) then (
  idx sv root2>>=fun x=>
  idx sv root2>>=fun x2=>
  idx way i>>=fun x3=>
  zdA x2 x3>>=fun rv2=>
  idx x.Fields rv2>>=fun x4=>
  some (.inl (x4.Of,(IntKind.i64.wrap (i+1)),x4.Name,x4.Number,x4.Kind,x4.Repeated,x4.Packed,x4.Of))
 ) else (
  some (.inr (f,f2,f3,f4,f5,f6))
 )
def zeF (sv:(List zg)) (way:(List Int)) (root2:Int) (i:Int) (f:Str) (f2:Int) (f3:Int) (f4:Bool) (f5:Bool) (f6:Int):Option (Str×Int×Int×Bool×Bool×Int):=zad (fun s:(Int×Int×Str×Int×Int×Bool×Bool×Int)=>zbu sv way s.1 s.2.1 s.2.2.1 s.2.2.2.1 s.2.2.2.2.1 s.2.2.2.2.2.1 s.2.2.2.2.2.2.1 s.2.2.2.2.2.2.2) (root2,i,f,f2,f3,f4,f5,f6)
def zhH (sv:(List zg)) (root:Int) (way:(List Int)):Option (ze×Bool):=
 zhG sv root way>>=fun rv=>
 if (!rv.2) then (
  some ((⟨[],0,0,false,false,0⟩:ze),false)
 ) else (
  zeF sv way root 0 [] 0 0 false false 0>>=fun q=>
  some ((⟨q.1,q.2.1,q.2.2.1,q.2.2.2.1,q.2.2.2.2.1,q.2.2.2.2.2⟩:ze),true)
 )
theorem zkx {sv:(List zg)} {way:(List Int)} {root2:Int} {i:Int} {f:Str} {f2:Int} {f3:Int} {f4:Bool} {f5:Bool} {f6:Int} {root2':Int} {i':Int} {f':Str} {f2':Int} {f3':Int} {f4':Bool} {f5':Bool} {f6':Int} (h:zbu sv way root2 i f f2 f3 f4 f5 f6=some (.inl (root2',i',f',f2',f3',f4',f5',f6'))):zeF sv way root2 i f f2 f3 f4 f5 f6=zeF sv way root2' i' f' f2' f3' f4' f5' f6':=zF (body:=fun s:(Int×Int×Str×Int×Int×Bool×Bool×Int)=>zbu sv way s.1 s.2.1 s.2.2.1 s.2.2.2.1 s.2.2.2.2.1 s.2.2.2.2.2.1 s.2.2.2.2.2.2.1 s.2.2.2.2.2.2.2) h
theorem zpn {sv:(List zg)} {way:(List Int)} {root2:Int} {i:Int} {f:Str} {f2:Int} {f3:Int} {f4:Bool} {f5:Bool} {f6:Int} {oo_:(Str×Int×Int×Bool×Bool×Int)} (h:zbu sv way root2 i f f2 f3 f4 f5 f6=some (.inr oo_)):zeF sv way root2 i f f2 f3 f4 f5 f6=some oo_:=zE (body:=fun s:(Int×Int×Str×Int×Int×Bool×Bool×Int)=>zbu sv way s.1 s.2.1 s.2.2.1 s.2.2.2.1 s.2.2.2.2.1 s.2.2.2.2.2.1 s.2.2.2.2.2.2.1 s.2.2.2.2.2.2.2) h
def zfd (xt:zd->(List Int)->Option (zb×Bool)) (x:zd) (way:(List Int)):Option (zb×Bool):=
 idx way 0>>=fun x2=>
 zgK x x2>>=fun rv=>
 if (decide (rv<0)) then (
  some ((⟨0,[],[],[]⟩:zb),false)
 ) else (
  if ((way.length:Int)==1) then (
   idx x.Values rv>>=fun x3=>
   some (x3,true)
  ) else (
   idx x.Values rv>>=fun x4=>
   idx x4.Subs 0>>=fun x5=>
   cut way 1 (way.length:Int)>>=fun v=>
   xt x5 v>>=fun rv2=>
   some (rv2.1,rv2.2)
  )
 )
def zhs:Nat->zd->(List Int)->Option (zb×Bool)
  | 0,_,_=>none
  | fuel+1,x,way=>zfd (zhs fuel) x way
def zeo (xu:zd->(List Int)->zb->Option zd) (x:zd) (way:(List Int)) (v:zb):Option zd:=
 if ((way.length:Int)==1) then (
  idx way 0>>=fun x2=>
  zfK x (⟨x2,v.Words,v.Texts,v.Subs⟩:zb)>>=fun rv=>
  some rv
 ) else (
  idx way 0>>=fun x3=>
  zgK x x3>>=fun rv2=>
  ((
   if (decide (rv2>=0)) then (
    idx x.Values rv2>>=fun x4=>
    idx x4.Subs 0>>=fun x5=>
    some (.inl (x5.Values,x5.Unknown))
   ) else (
    zcu v>>=fun rv3=>
    if (rv3==0) then (
     some (.inr ())
    ) else (
     some (.inl ([],[]))
    )
   )
   :Option (((List zb)×(List Str))⊕Unit)))>>=fun p=>
  match p with
  | .inl u=>(
   idx way 0>>=fun x6=>
   cut way 1 (way.length:Int)>>=fun v2=>
   xu (⟨u.1,u.2⟩:zd) v2 v>>=fun rv4=>
   zfK x (⟨x6,[],[],([rv4]:(List zd))⟩:zb)>>=fun rv5=>
   some rv5
  )
  | .inr u2=>(
   some x
  )
 )
def zgL:Nat->zd->(List Int)->zb->Option zd
  | 0,_,_,_=>none
  | fuel+1,x,way,v=>zeo (zgL fuel) x way v
def zeg (fuel:Nat) (sv:(List zg)) (root:Int) (x:zd) (way:(List Int)) (v:zb):Option Bool:=
 zgS fuel>>=fun rv=>
 if (!rv) then (
  some false
 ) else (
  (
   zil sv>>=fun rv2=>
   if (!rv2) then (
    some true
   ) else (
    zim fuel ([x,(⟨([v]:(List zb)),[]⟩:zd)]:(List zd))>>=fun rv3=>
    if rv3 then (
     some true
    ) else (
     some (decide ((way.length:Int)>80))
    )
   )
  )>>=fun g=>
  if g then (
   some true
  ) else (
   zde fuel x>>=fun rv4=>
   zbO fuel v>>=fun rv5=>
   zmq fuel sv root x way v>>=fun rv6=>
   znB fuel sv root x way>>=fun rv7=>
   zio fuel sv root ([rv4]:(List zd))>>=fun rv8=>
   ((
    if (rv8==0) then (
     zhH sv root way>>=fun rv9=>
     some (rv9.2,rv9.1.Name,rv9.1.Number,rv9.1.Kind,rv9.1.Repeated,rv9.1.Packed,rv9.1.Of)
    ) else (
     some (false,[],0,0,false,false,0)
    )
    :Option (Bool×Str×Int×Int×Bool×Bool×Int)))>>=fun p=>
   ((
    if ((rv8==0)&&(!p.1)) then (
     some 10
    ) else (
     some rv8
    )
    :Option Int))>>=fun p2=>
   (
    if (p2==0) then (
     zcu rv5>>=fun rv10=>
     if (decide (rv10>0)) then (
      zct fuel sv (⟨p.2.1,p.2.2.1,p.2.2.2.1,p.2.2.2.2.1,p.2.2.2.2.2.1,p.2.2.2.2.2.2⟩:ze) rv5>>=fun rv11=>
      some (!rv11)
     ) else (
      some false
     )
    ) else (
     some false
    )
   )>>=fun g2=>
   ((
    if g2 then (
     some 12
    ) else (
     some p2
    )
    :Option Int))>>=fun p3=>
   ((
    if (p2==0) then (
     zhs fuel rv4 way>>=fun rv12=>
     some (rv12.2,rv12.1.Number,rv12.1.Words,rv12.1.Texts,rv12.1.Subs)
    ) else (
     some (false,0,[],[],[])
    )
    :Option (Bool×Int×(List Int)×(List Str)×(List zd))))>>=fun p4=>
   ((
    if ((p2==0)&&(!p4.1)) then (
     some 11
    ) else (
     some p2
    )
    :Option Int))>>=fun p5=>
   (
    if ((IntKind.i64.wrap rv6.2) !=p3) then (
     some true
    ) else (
     if ((IntKind.i64.wrap rv7.2) !=p5) then (
      some true
     ) else (
      zbO fuel rv7.1>>=fun rv13=>
      zaT fuel rv13 (⟨p4.2.1,p4.2.2.1,p4.2.2.2.1,p4.2.2.2.2⟩:zb)>>=fun rv14=>
      some (!rv14)
     )
    )
   )>>=fun g3=>
   if g3 then (
    some false
   ) else (
    if (p3 !=0) then (
     zde fuel rv6.1>>=fun rv15=>
     zbY fuel rv15 (⟨[],[]⟩:zd)>>=fun rv16=>
     some rv16
    ) else (
     zde fuel rv6.1>>=fun rv17=>
     zgL fuel rv4 way rv5>>=fun rv18=>
     zbY fuel rv17 rv18>>=fun rv19=>
     some rv19
    )
   )
  )
 )
end
end Go.Proofs.YtekgmimingolbaaGreat
