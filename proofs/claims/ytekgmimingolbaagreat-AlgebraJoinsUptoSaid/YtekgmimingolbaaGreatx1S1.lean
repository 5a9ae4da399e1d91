/-
  What the Go functions do, as plain functions. No condition.
-/
import Derived.Test.YtekgmimingolbaaGreatx1K2
set_option autoImplicit true
set_option relaxedAutoImplicit true
namespace Go.Proofs.YtekgmimingolbaaGreat
open Go
set_option linter.unusedVariables false
abbrev Str:=List UInt8
structure zLo where
  a0:Str
  a1:Str
  a2:Str
  a3:Str
  a4:Str
  a5:Str
  a6:Str
  a7:Str
  a8:Str
  a9:Str
  a10:Str
  a11:Str
  a12:Str
  a13:Str
  a14:Str deriving DecidableEq
structure zD where
  Number:Int
  Wire:Int
  From:Int
  At:Int
  To:Int deriving DecidableEq
def zam:Rp zD:=⟨5,true,fun x=>[.int .i64 x.Number,.int .i64 x.Wire,.int .i64 x.From,.int .i64 x.At,.int .i64 x.To],fun _=>rfl,by decide⟩
structure zmz where
  Record:zD
  Field:Int
  Run:Bool deriving DecidableEq
structure zz where
  name:Str
  wire:Int deriving DecidableEq
def zF:Rp zz:=⟨2,true,fun x=>[.str x.name,.int .i64 x.wire],fun _=>rfl,by decide⟩
mutual
structure zc where
  Values:(List za)
  Unknown:(List Str)
structure za where
  Number:Int
  Words:(List Int)
  Texts:(List Str)
  Subs:(List zc)
end
mutual
def ziM:zc->List LV
  | ⟨x0,x1⟩=>[.sl x0.length 4 (zeI x0),.sl x1.length Rp.str.size (x1.flatMap Rp.str.lv)]
def zin:List zc->List LV
  | []=>[]
  | x::l=>ziM x++zin l
def zeT:za->List LV
  | ⟨x0,x1,x2,x3⟩=>[.int .i64 x0,.sl x1.length (Rp.int .u64).size (x1.flatMap (Rp.int .u64).lv),.sl x2.length Rp.str.size (x2.flatMap Rp.str.lv),.sl x3.length 2 (zin x3)]
def zeI:List za->List LV
  | []=>[]
  | x::l=>zeT x++zeI l
end
theorem zsP (l:List zc):zin l=l.flatMap ziM:=by
  induction l with
  | nil=>rfl
  | cons x l ih=>rw [zin,ih,xN]
def zd:Rp zc:=⟨2,true,ziM,fun x=>by cases x;rfl,by decide⟩
theorem zmm (l:List za):zeI l=l.flatMap zeT:=by
  induction l with
  | nil=>rfl
  | cons x l ih=>rw [zeI,ih,xN]
def zb:Rp za:=⟨4,true,zeT,fun x=>by cases x;rfl,by decide⟩
theorem zk (x:zc):zd.lv x=[.sl x.Values.length zb.size (x.Values.flatMap zb.lv),.sl x.Unknown.length Rp.str.size (x.Unknown.flatMap Rp.str.lv)]:=by
  cases x;simp only [zd,ziM,zmm,zb]<;>rfl
theorem zn (x:za):zb.lv x=[.int .i64 x.Number,.sl x.Words.length (Rp.int .u64).size (x.Words.flatMap (Rp.int .u64).lv),.sl x.Texts.length Rp.str.size (x.Texts.flatMap Rp.str.lv),.sl x.Subs.length zd.size (x.Subs.flatMap zd.lv)]:=by
  cases x;simp only [zb,zeT,zsP,zd]<;>rfl
structure ze where
  Name:Str
  Number:Int
  Kind:Int
  Repeated:Bool
  Packed:Bool
  Of:Int deriving DecidableEq
def zg:Rp ze:=⟨6,true,fun x=>[.str x.Name,.int .i64 x.Number,.int .i64 x.Kind,.bool x.Repeated,.bool x.Packed,.int .i64 x.Of],fun _=>rfl,by decide⟩
structure zf where
  Name:Str
  Fields:(List ze) deriving DecidableEq
def zj:Rp zf:=⟨2,true,fun x=>[.str x.Name,.sl x.Fields.length zg.size (x.Fields.flatMap zg.lv)],fun _=>rfl,by decide⟩
structure zbM where
  Number:Int
  Wire:Int deriving DecidableEq
def zho:Rp zbM:=⟨2,true,fun x=>[.int .i64 x.Number,.int .i64 x.Wire],fun _=>rfl,by decide⟩
structure zp where
  message:Int
  name:Str deriving DecidableEq
def zu:Rp zp:=⟨2,true,fun x=>[.int .i64 x.message,.str x.name],fun _=>rfl,by decide⟩
structure zq where
  message:Int
  number:Int deriving DecidableEq
def zt:Rp zq:=⟨2,true,fun x=>[.int .i64 x.message,.int .i64 x.number],fun _=>rfl,by decide⟩
structure zbm where
  size:Int
  kinds:(List Int)
  names:(List (zp×Bool))
  numbers:(List (zq×Bool))
structure zbl where
  Message:Int
  Field:Int
  What:Int deriving DecidableEq
def zfH:Rp zbl:=⟨3,true,fun x=>[.int .i64 x.Message,.int .i64 x.Field,.int .i64 x.What],fun _=>rfl,by decide⟩
structure zxY where
  number:Int
  wire:Int deriving DecidableEq
structure zxX where
  field:Int
  run:Bool
  e:Int deriving DecidableEq
structure zIw where
  R:zD
  Field:Int
  Run:Bool deriving DecidableEq
structure zkM where
  message:Int
  number:Int
  wire:Int deriving DecidableEq
structure zKI where
  s:(List zf)
  b:(List UInt8)
  met:(List (zkM×zmz))
structure zGd where
  depth:Int
  place:Int
  e:Int deriving DecidableEq
structure zkS where
  Ways:(List (List Int)) deriving DecidableEq
def zqy:Rp zkS:=⟨1,true,fun x=>[.sl x.Ways.length (Rp.list (Rp.int .i64)).size (x.Ways.flatMap (Rp.list (Rp.int .i64)).lv)],fun _=>rfl,by decide⟩
structure zal where
  a0:Int
  a1:Int deriving DecidableEq
def zaW:Rp zal:=⟨2,true,fun x=>[.int .i64 x.a0,.int .i64 x.a1],fun _=>rfl,by decide⟩
noncomputable section
def zcg (sv:(List zc)):Option (List zc):=
 nilO sv (
  some []
 ) (
  app 48 ([]:(List zc)) sv>>=fun v=>
  some v
 )
def zbv (sv:(List za)):Option (List za):=
 nilO sv (
  some []
 ) (
  app 80 ([]:(List za)) sv>>=fun v=>
  some v
 )
def zct (n:Int):Option (List zc):=
 if (decide (n<0)) then (
  none
 ) else (
  if (decide ((IntKind.i64.wrap (n - (IntKind.i64.wrap (0 - 0))))>0)) then (
   mkO 48 ((⟨[],[]⟩:zc):zc) (IntKind.i64.wrap (n - (IntKind.i64.wrap (0 - 0)))) (IntKind.i64.wrap (n - (IntKind.i64.wrap (0 - 0))))>>=fun v=>
   cut v 0 0>>=fun v2=>
   some v2
  ) else (
   some []
  )
 )
def zN (slices:(List (List zc))) (size:Int) (v:Int):Option ((Int×Int)⊕Int):=
 if (decide (v<(slices.length:Int))) then (
  idx slices v>>=fun x=>
  if (decide ((IntKind.i64.wrap (size+(x.length:Int)))<0)) then (
   none
  ) else (
   some (.inl ((IntKind.i64.wrap (size+(x.length:Int))),(IntKind.i64.wrap (v+1))))
  )
 ) else (
  some (.inr size)
 )
def zbw (slices:(List (List zc))) (size:Int) (v:Int):Option Int:=zaj (fun s:(Int×Int)=>zN slices s.1 s.2) (size,v)
def zY (slices:(List (List zc))) (newslice:(List zc)) (v2:Int):Option (((List zc)×Int)⊕(List zc)):=
 if (decide (v2<(slices.length:Int))) then (
  idx slices v2>>=fun x2=>
  app 48 newslice x2>>=fun v3=>
  some (.inl (v3,(IntKind.i64.wrap (v2+1))))
 ) else (
  some (.inr newslice)
 )
def zbx (slices:(List (List zc))) (newslice:(List zc)) (v2:Int):Option (List zc):=zaj (fun s:((List zc)×Int)=>zY slices s.1 s.2) (newslice,v2)
def zbY (slices:(List (List zc))):Option (List zc):=
 zbw slices 0 0>>=fun q=>
 zct q>>=fun rv=>
 zbx slices rv 0>>=fun q2=>
 some q2
theorem zfn {slices:(List (List zc))} {size:Int} {v:Int} {size':Int} {v':Int} (h:zN slices size v=some (.inl (size',v'))):zbw slices size v=zbw slices size' v':=zL (body:=fun s:(Int×Int)=>zN slices s.1 s.2) h
theorem ziy {slices:(List (List zc))} {size:Int} {v:Int} {oo_:Int} (h:zN slices size v=some (.inr oo_)):zbw slices size v=some oo_:=zJ (body:=fun s:(Int×Int)=>zN slices s.1 s.2) h
theorem zfo {slices:(List (List zc))} {newslice:(List zc)} {v2:Int} {newslice':(List zc)} {v2':Int} (h:zY slices newslice v2=some (.inl (newslice',v2'))):zbx slices newslice v2=zbx slices newslice' v2':=zL (body:=fun s:((List zc)×Int)=>zY slices s.1 s.2) h
theorem ziz {slices:(List (List zc))} {newslice:(List zc)} {v2:Int} {oo_:(List zc)} (h:zY slices newslice v2=some (.inr oo_)):zbx slices newslice v2=some oo_:=zJ (body:=fun s:((List zc)×Int)=>zY slices s.1 s.2) h
def zax (sv:(List Int)) (v:Int) (v2:Int):Option (Int⊕(Unit⊕Int)):=
 if (decide (v2<(sv.length:Int))) then (
  idx sv v2>>=fun x=>
  if (v==x) then (
   some (.inr (.inr v2))
  ) else (
   some (.inl (IntKind.i64.wrap (v2+1)))
  )
 ) else (
  some (.inr (.inl ()))
 )
def zcI (sv:(List Int)) (v:Int) (v2:Int):Option (Unit⊕Int):=zaj (fun s:Int=>zax sv v s) v2
def zeF (sv:(List Int)) (v:Int):Option Int:=
 zcI sv v 0>>=fun q=>
 match q with
 | .inl u=>(
  some (-1)
 )
 | .inr u2=>(
  some u2
 )
theorem zlf (h:zax sv v v2=some (.inl v2')):zcI sv v v2=zcI sv v v2':=zL (body:=fun s:Int=>zax sv v s) h
theorem zhP (h:zax sv v v2=some (.inr oo_)):zcI sv v v2=some oo_:=zJ (body:=fun s:Int=>zax sv v s) h
def zdt (sv:(List Int)) (v:Int):Option Bool:=
 zeF sv v>>=fun rv=>
 some (decide (rv>=0))
def ziS (x:Int):Option Bool:=
 some (x !=x)
def zhE (x:Int) (y:Int):Option Int:=
 ziS x>>=fun rv=>
 ziS y>>=fun rv2=>
 if rv then (
  if rv2 then (
   some 0
  ) else (
   some (-1)
  )
 ) else (
  if rv2 then (
   some 1
  ) else (
   if (decide (x<y)) then (
    some (-1)
   ) else (
    if (decide (x>y)) then (
     some 1
    ) else (
     some 0
    )
   )
  )
 )
def zak (s1:(List Int)) (s2:(List Int)) (v:Int):Option (Int⊕(Unit⊕Int)):=
 if (decide (v<(s1.length:Int))) then (
  idx s1 v>>=fun x=>
  if (decide (v>=(s2.length:Int))) then (
   some (.inr (.inr 1))
  ) else (
   idx s2 v>>=fun x2=>
   zhE x x2>>=fun rv=>
   if (rv !=0) then (
    some (.inr (.inr rv))
   ) else (
    some (.inl (IntKind.i64.wrap (v+1)))
   )
  )
 ) else (
  some (.inr (.inl ()))
 )
def zcn (s1:(List Int)) (s2:(List Int)) (v:Int):Option (Unit⊕Int):=zaj (fun s:Int=>zak s1 s2 s) v
def zdG (s1:(List Int)) (s2:(List Int)):Option Int:=
 zcn s1 s2 0>>=fun q=>
 match q with
 | .inl u=>(
  if (decide ((s1.length:Int)<(s2.length:Int))) then (
   some (-1)
  ) else (
   some 0
  )
 )
 | .inr u2=>(
  some u2
 )
theorem zkH {s1:(List Int)} {s2:(List Int)} {v:Int} {v':Int} (h:zak s1 s2 v=some (.inl v')):zcn s1 s2 v=zcn s1 s2 v':=zL (body:=fun s:Int=>zak s1 s2 s) h
theorem zdi {s1:(List Int)} {s2:(List Int)} {v:Int} {oo_:(Unit⊕Int)} (h:zak s1 s2 v=some (.inr oo_)):zcn s1 s2 v=some oo_:=zJ (body:=fun s:Int=>zak s1 s2 s) h
def zap (s1:(List Int)) (s2:(List Int)) (v:Int):Option (Int⊕(Unit⊕Unit)):=
 if (decide (v<(s1.length:Int))) then (
  idx s1 v>>=fun x=>
  idx s2 v>>=fun x2=>
  if (x !=x2) then (
   some (.inr (.inr ()))
  ) else (
   some (.inl (IntKind.i64.wrap (v+1)))
  )
 ) else (
  some (.inr (.inl ()))
 )
def zcH (s1:(List Int)) (s2:(List Int)) (v:Int):Option (Unit⊕Unit):=zaj (fun s:Int=>zap s1 s2 s) v
def zeD (s1:(List Int)) (s2:(List Int)):Option Bool:=
 if ((s1.length:Int) !=(s2.length:Int)) then (
  some false
 ) else (
  zcH s1 s2 0>>=fun q=>
  match q with
  | .inl u=>(
   some true
  )
  | .inr u2=>(
   some false
  )
 )
theorem zle {s1:(List Int)} {s2:(List Int)} {v:Int} {v':Int} (h:zap s1 s2 v=some (.inl v')):zcH s1 s2 v=zcH s1 s2 v':=zL (body:=fun s:Int=>zap s1 s2 s) h
theorem zhO {s1:(List Int)} {s2:(List Int)} {v:Int} {oo_:(Unit⊕Unit)} (h:zap s1 s2 v=some (.inr oo_)):zcH s1 s2 v=some oo_:=zJ (body:=fun s:Int=>zap s1 s2 s) h
def zeC (sv:(List Int)):Option (List Int):=
 nilO sv (
  some []
 ) (
  app 8 ([]:(List Int)) sv>>=fun v=>
  some v
 )
def zag {σ:Type} (kf:(Rnd σ (List Int))) (v:(List (List Int))) (v2:Int) (sg2:σ):Option ((Int×σ)⊕(σ⊕σ)):=
 if (decide (v2<(v.length:Int))) then (
  idx v v2>>=fun x=>
  kf sg2 x>>=fun y=>
  if (!y.1) then (
   some (.inr (.inr y.2))
  ) else (
   some (.inl ((IntKind.i64.wrap (v2+1)),y.2))
  )
 ) else (
  some (.inr (.inl sg2))
 )
def zbj {σ:Type} (kf:(Rnd σ (List Int))) (v:(List (List Int))) (v2:Int) (sg2:σ):Option (σ⊕σ):=zaj (fun s:(Int×σ)=>zag kf v s.1 s.2) (v2,sg2)
def zbe {σ:Type} (v:(List (List Int))) (kf:Rnd σ (List Int)) (sg:σ):Option σ:=
 zbj kf v 0 sg>>=fun q=>
 match q with
 | .inl u=>(
  some u
 )
 | .inr u2=>(
  some u2
 )
theorem zjs {σ:Type} {kf:(Rnd σ (List Int))} {v:(List (List Int))} {v2:Int} {sg2:σ} {v2':Int} {sg2':σ} (h:zag kf v v2 sg2=some (.inl (v2',sg2'))):zbj kf v v2 sg2=zbj kf v v2' sg2':=zL (body:=fun s:(Int×σ)=>zag kf v s.1 s.2) h
theorem zga {σ:Type} {kf:(Rnd σ (List Int))} {v:(List (List Int))} {v2:Int} {sg2:σ} {oo_:(σ⊕σ)} (h:zag kf v v2 sg2=some (.inr oo_)):zbj kf v v2 sg2=some oo_:=zJ (body:=fun s:(Int×σ)=>zag kf v s.1 s.2) h
def zeh (sv:(List (List Int))):Option (List (List Int)):=
 some sv
def zO (f:(List (List Int))) (x:(List Int)):Option ((List (List Int))⊕Empty):=
 app 24 f ([x]:(List (List Int)))>>=fun v2=>
 some (.inl v2)
def zar (v:(List (List Int))):Option (List (List Int)):=
 zbe v (rnd (fun (s:(List (List Int))) (x:(List Int))=>zO s x)) (.inl [])>>=fun q=>
 match q with
 | .inl u=>(
  some u
 )
 | .inr j=>(
  nomatch j
 )
def zaH (v:(List (List Int))):Option (List (List Int)):=
 zar v>>=fun rv=>
 some rv
def zbg (x:(List (List Int))):Option (List (List Int)):=zAo x
def zR (v:(List (List Int))):Option (List (List Int)):=
 zaH v>>=fun rv=>
 zbg rv>>=fun rv3=>
 some rv3
def zca (sv:(List Str)):Option (List Str):=
 nilO sv (
  some []
 ) (
  app 16 ([]:(List Str)) sv>>=fun v=>
  some v
 )
def zcO (sv:(List Int)):Option (List Int):=
 nilO sv (
  some []
 ) (
  app 8 ([]:(List Int)) sv>>=fun v=>
  some v
 )
def zcZ (n:Int):Option (List Int):=
 if (decide (n<0)) then (
  none
 ) else (
  if (decide ((IntKind.i64.wrap (n - (IntKind.i64.wrap (0 - 0))))>0)) then (
   mkO 8 (0:Int) (IntKind.i64.wrap (n - (IntKind.i64.wrap (0 - 0)))) (IntKind.i64.wrap (n - (IntKind.i64.wrap (0 - 0))))>>=fun v=>
   cut v 0 0>>=fun v2=>
   some v2
  ) else (
   some []
  )
 )
def zU (slices:(List (List Int))) (size:Int) (v:Int):Option ((Int×Int)⊕Int):=
 if (decide (v<(slices.length:Int))) then (
  idx slices v>>=fun x=>
  if (decide ((IntKind.i64.wrap (size+(x.length:Int)))<0)) then (
   none
  ) else (
   some (.inl ((IntKind.i64.wrap (size+(x.length:Int))),(IntKind.i64.wrap (v+1))))
  )
 ) else (
  some (.inr size)
 )
def zcj (slices:(List (List Int))) (size:Int) (v:Int):Option Int:=zaj (fun s:(Int×Int)=>zU slices s.1 s.2) (size,v)
def zaf (slices:(List (List Int))) (newslice:(List Int)) (v2:Int):Option (((List Int)×Int)⊕(List Int)):=
 if (decide (v2<(slices.length:Int))) then (
  idx slices v2>>=fun x2=>
  app 8 newslice x2>>=fun v3=>
  some (.inl (v3,(IntKind.i64.wrap (v2+1))))
 ) else (
  some (.inr newslice)
 )
def zck (slices:(List (List Int))) (newslice:(List Int)) (v2:Int):Option (List Int):=zaj (fun s:((List Int)×Int)=>zaf slices s.1 s.2) (newslice,v2)
def zcG (slices:(List (List Int))):Option (List Int):=
 zcj slices 0 0>>=fun q=>
 zcZ q>>=fun rv=>
 zck slices rv 0>>=fun q2=>
 some q2
theorem zfY {slices:(List (List Int))} {size:Int} {v:Int} {size':Int} {v':Int} (h:zU slices size v=some (.inl (size',v'))):zcj slices size v=zcj slices size' v':=zL (body:=fun s:(Int×Int)=>zU slices s.1 s.2) h
theorem zjq {slices:(List (List Int))} {size:Int} {v:Int} {oo_:Int} (h:zU slices size v=some (.inr oo_)):zcj slices size v=some oo_:=zJ (body:=fun s:(Int×Int)=>zU slices s.1 s.2) h
theorem zfZ {slices:(List (List Int))} {newslice:(List Int)} {v2:Int} {newslice':(List Int)} {v2':Int} (h:zaf slices newslice v2=some (.inl (newslice',v2'))):zck slices newslice v2=zck slices newslice' v2':=zL (body:=fun s:((List Int)×Int)=>zaf slices s.1 s.2) h
theorem zjr {slices:(List (List Int))} {newslice:(List Int)} {v2:Int} {oo_:(List Int)} (h:zaf slices newslice v2=some (.inr oo_)):zck slices newslice v2=some oo_:=zJ (body:=fun s:((List Int)×Int)=>zaf slices s.1 s.2) h
def zcY (n:Int):Option (List Str):=
 if (decide (n<0)) then (
  none
 ) else (
  if (decide ((IntKind.i64.wrap (n - (IntKind.i64.wrap (0 - 0))))>0)) then (
   mkO 16 ([]:Str) (IntKind.i64.wrap (n - (IntKind.i64.wrap (0 - 0)))) (IntKind.i64.wrap (n - (IntKind.i64.wrap (0 - 0))))>>=fun v=>
   cut v 0 0>>=fun v2=>
   some v2
  ) else (
   some []
  )
 )
def zT (slices:(List (List Str))) (size:Int) (v:Int):Option ((Int×Int)⊕Int):=
 if (decide (v<(slices.length:Int))) then (
  idx slices v>>=fun x=>
  if (decide ((IntKind.i64.wrap (size+(x.length:Int)))<0)) then (
   none
  ) else (
   some (.inl ((IntKind.i64.wrap (size+(x.length:Int))),(IntKind.i64.wrap (v+1))))
  )
 ) else (
  some (.inr size)
 )
def zch (slices:(List (List Str))) (size:Int) (v:Int):Option Int:=zaj (fun s:(Int×Int)=>zT slices s.1 s.2) (size,v)
def zae (slices:(List (List Str))) (newslice:(List Str)) (v2:Int):Option (((List Str)×Int)⊕(List Str)):=
 if (decide (v2<(slices.length:Int))) then (
  idx slices v2>>=fun x2=>
  app 16 newslice x2>>=fun v3=>
  some (.inl (v3,(IntKind.i64.wrap (v2+1))))
 ) else (
  some (.inr newslice)
 )
def zci (slices:(List (List Str))) (newslice:(List Str)) (v2:Int):Option (List Str):=zaj (fun s:((List Str)×Int)=>zae slices s.1 s.2) (newslice,v2)
def zbV (slices:(List (List Str))):Option (List Str):=
 zch slices 0 0>>=fun q=>
 zcY q>>=fun rv=>
 zci slices rv 0>>=fun q2=>
 some q2
theorem zfW {slices:(List (List Str))} {size:Int} {v:Int} {size':Int} {v':Int} (h:zT slices size v=some (.inl (size',v'))):zch slices size v=zch slices size' v':=zL (body:=fun s:(Int×Int)=>zT slices s.1 s.2) h
theorem zjn {slices:(List (List Str))} {size:Int} {v:Int} {oo_:Int} (h:zT slices size v=some (.inr oo_)):zch slices size v=some oo_:=zJ (body:=fun s:(Int×Int)=>zT slices s.1 s.2) h
theorem zfX {slices:(List (List Str))} {newslice:(List Str)} {v2:Int} {newslice':(List Str)} {v2':Int} (h:zae slices newslice v2=some (.inl (newslice',v2'))):zci slices newslice v2=zci slices newslice' v2':=zL (body:=fun s:((List Str)×Int)=>zae slices s.1 s.2) h
theorem zjo {slices:(List (List Str))} {newslice:(List Str)} {v2:Int} {oo_:(List Str)} (h:zae slices newslice v2=some (.inr oo_)):zci slices newslice v2=some oo_:=zJ (body:=fun s:((List Str)×Int)=>zae slices s.1 s.2) h
def zkU (wv:Int):Option Int:=
 some (IntKind.u32.wrap wv)
def zlp (wv:Int):Option Int:=
 zkU wv>>=fun rv=>
 some (IntKind.i32.wrap rv)
def zlq (n:Int):Option Int:=
 some (IntKind.u64.wrap (IntKind.i64.wrap n))
def zgi (wv:Int):Option Int:=
 if (decide ((IntKind.i64.wrap (Int.tmod wv 4294967296))>=2147483648)) then (
  some (IntKind.i64.wrap ((IntKind.i64.wrap (Int.tmod wv 4294967296)) - 4294967296))
 ) else (
  some (IntKind.i64.wrap (Int.tmod wv 4294967296))
 )
def zhd (n:Int):Option Int:=
 if (decide (n>=0)) then (
  some (IntKind.u64.wrap n)
 ) else (
  some (IntKind.u64.wrap (18446744073709551615 - (IntKind.u64.wrap (IntKind.i64.wrap (0 - (IntKind.i64.wrap (n+1)))))))
 )
def zdu (v:(List UInt8)) (wv:Int) (v2:Int):Option ((Int×Int)⊕(Unit⊕(Int×Int×Int))):=
 if (decide (v2<(v.length:Int))) then (
  idx v v2>>=fun x=>
  if ((v2==9)&&(decide ((x.toNat:Int)>1))) then (
   some (.inr (.inr (0,0,4)))
  ) else (
   shlO .u64 (IntKind.u64.wrap (andI .u8 (x.toNat:Int) 127)) (IntKind.i64.wrap (7*v2))>>=fun v4=>
   if (decide ((x.toNat:Int)<128)) then (
    some (.inr (.inr ((orI .u64 wv v4),(IntKind.i64.wrap (v2+1)),0)))
   ) else (
    some (.inl ((orI .u64 wv v4),(IntKind.i64.wrap (v2+1))))
   )
  )
 ) else (
  some (.inr (.inl ()))
 )
def zhV (v:(List UInt8)) (wv:Int) (v2:Int):Option (Unit⊕(Int×Int×Int)):=zaj (fun s:(Int×Int)=>zdu v s.1 s.2) (wv,v2)
def zig (b:(List UInt8)):Option (Int×Int×Int):=
 cut b 0 (if (10:Int)<(b.length:Int) then 10 else (b.length:Int))>>=fun v=>
 zhV v 0 0>>=fun q=>
 match q with
 | .inl u=>(
  some (0,0,3)
 )
 | .inr u2=>(
  some (u2.1,u2.2.1,u2.2.2)
 )
theorem ztm (h:zdu v wv v2=some (.inl (wv',v2'))):zhV v wv v2=zhV v wv' v2':=zL (body:=fun s:(Int×Int)=>zdu v s.1 s.2) h
theorem zkj (h:zdu v wv v2=some (.inr oo_)):zhV v wv v2=some oo_:=zJ (body:=fun s:(Int×Int)=>zdu v s.1 s.2) h
def zlm (b2:(List UInt8)) (l:(List Int)):Option (((List UInt8)×(List Int))⊕((List Int)⊕Int)):=
 if (decide ((b2.length:Int)>0)) then (
  zig b2>>=fun rv=>
  if (rv.2.2 !=0) then (
   some (.inr (.inr rv.2.2))
  ) else (
   app 8 l ([rv.1]:(List Int))>>=fun v2=>
   cut b2 rv.2.1 (b2.length:Int)>>=fun v3=>
   some (.inl (v3,v2))
  )
 ) else (
  some (.inr (.inl l))
 )
def zsA (b2:(List UInt8)) (l:(List Int)):Option ((List Int)⊕Int):=zaj (fun s:((List UInt8)×(List Int))=>zlm s.1 s.2) (b2,l)
theorem zul (h:zlm b2 l=some (.inr oo_)):zsA b2 l=some oo_:=zJ (body:=fun s:((List UInt8)×(List Int))=>zlm s.1 s.2) h
def zaR (atv:Int) (b:(List UInt8)) (n:Int):Option (Int⊕Int):=
 (
  if (decide ((IntKind.i64.wrap (atv+n))<(b.length:Int))) then (
   if (decide (n<10)) then (
    idx b (IntKind.i64.wrap (atv+n))>>=fun x=>
    some (decide ((x.toNat:Int)>=128))
   ) else (
    some false
   )
  ) else (
   some false
  )
 )>>=fun g=>
 if g then (
  some (.inl (IntKind.i64.wrap (n+1)))
 ) else (
  some (.inr n)
 )
def zer (atv:Int) (b:(List UInt8)) (n:Int):Option Int:=zaj (fun s:Int=>zaR atv b s) n
def zbO (atv:Int) (b:(List UInt8)) (wv:Int) (i:Int):Option ((Int×Int)⊕Int):=
 if (decide (i>=0)) then (
  idx b (IntKind.i64.wrap (atv+i))>>=fun x3=>
  some (.inl ((IntKind.u64.wrap ((IntKind.u64.wrap (128*wv))+(IntKind.u64.wrap (Int.tmod (x3.toNat:Int) 128)))),(IntKind.i64.wrap (i - 1))))
 ) else (
  some (.inr wv)
 )
def zes (atv:Int) (b:(List UInt8)) (wv:Int) (i:Int):Option Int:=zaj (fun s:(Int×Int)=>zbO atv b s.1 s.2) (wv,i)
def zeN (b:(List UInt8)) (atv:Int):Option (Int×Int×Int):=
 zer atv b 0>>=fun q=>
 if (q==10) then (
  some (0,0,4)
 ) else (
  if ((IntKind.i64.wrap (atv+q))==(b.length:Int)) then (
   some (0,0,3)
  ) else (
   (
    if (q==9) then (
     idx b (IntKind.i64.wrap (atv+q))>>=fun x2=>
     some (decide ((x2.toNat:Int)>1))
    ) else (
     some false
    )
   )>>=fun g2=>
   if g2 then (
    some (0,0,4)
   ) else (
    zes atv b 0 q>>=fun q2=>
    some (q2,(IntKind.i64.wrap (q+1)),0)
   )
  )
 )
theorem znU (h:zaR atv b n=some (.inl n')):zer atv b n=zer atv b n':=zL (body:=fun s:Int=>zaR atv b s) h
theorem zhs (h:zaR atv b n=some (.inr oo_)):zer atv b n=some oo_:=zJ (body:=fun s:Int=>zaR atv b s) h
theorem znV (h:zbO atv b wv i=some (.inl (wv',i'))):zes atv b wv i=zes atv b wv' i':=zL (body:=fun s:(Int×Int)=>zbO atv b s.1 s.2) h
theorem znW (h:zbO atv b wv i=some (.inr oo_)):zes atv b wv i=some oo_:=zJ (body:=fun s:(Int×Int)=>zbO atv b s.1 s.2) h
def zlN (b:(List UInt8)):Option (Int×Int):=
 zig b>>=fun rv=>
 some (rv.2.1,rv.2.2)
def zjU (wire:Int):Option Bool:=
 if (wire==0) then (
  if (wire==0) then (
   some true
  ) else (
   some false
  )
 ) else (
  if (wire==1) then (
   if (wire==1) then (
    some true
   ) else (
    some false
   )
  ) else (
   if (wire==2) then (
    if (wire==2) then (
     some true
    ) else (
     some false
    )
   ) else (
    if (wire==5) then (
     some true
    ) else (
     some false
    )
   )
  )
 )
def zoZ (t:zbM):Option Bool:=
 (
  if (decide (t.Number>=1)) then (
   if (decide (t.Number<=536870911)) then (
    zjU t.Wire>>=fun rv=>
    some rv
   ) else (
    some false
   )
  ) else (
   some false
  )
 )>>=fun g=>
 some g
def zrx (b:(List UInt8)):Option (zbM×Int×Int):=
 zig b>>=fun rv=>
 if (rv.2.2 !=0) then (
  some ((⟨0,0⟩:zbM),0,rv.2.2)
 ) else (
  zoZ (⟨(IntKind.i64.wrap (if (536870912:Int)<(shrI .u64 rv.1 3) then 536870912 else (shrI .u64 rv.1 3))),(IntKind.i64.wrap (andI .u64 rv.1 7))⟩:zbM)>>=fun rv2=>
  if (!rv2) then (
   some ((⟨0,0⟩:zbM),0,5)
  ) else (
   some ((⟨(IntKind.i64.wrap (if (536870912:Int)<(shrI .u64 rv.1 3) then 536870912 else (shrI .u64 rv.1 3))),(IntKind.i64.wrap (andI .u64 rv.1 7))⟩:zbM),rv.2.1,0)
  )
 )
def zgA (number:Int) (wire:Int):Option Bool:=
 some ((decide (number>=1))&&((decide (number<=536870911))&&((wire==0)|| ((wire==1)|| ((wire==2)|| (wire==5))))))
def zhe (b:(List UInt8)) (atv:Int):Option (Int×Int×Int×Int):=
 zeN b atv>>=fun rv=>
 if (rv.2.2 !=0) then (
  some (0,0,0,rv.2.2)
 ) else (
  (
   if (decide (rv.1>4294967295)) then (
    some true
   ) else (
    zgA (IntKind.i64.wrap (IntKind.u64.wrap (Int.tdiv rv.1 8))) (IntKind.i64.wrap (Int.tmod rv.1 8))>>=fun rv2=>
    some (!rv2)
   )
  )>>=fun g=>
  if g then (
   some (0,0,0,5)
  ) else (
   some ((IntKind.i64.wrap (IntKind.u64.wrap (Int.tdiv rv.1 8))),(IntKind.i64.wrap (Int.tmod rv.1 8)),rv.2.1,0)
  )
 )
def zuk (c:Int):Option (Int×Int):=
 if ((shrI .u8 c 7)==0) then (
  some (1,(IntKind.u32.wrap c))
 ) else (
  if ((shrI .u8 c 5)==6) then (
   some (2,(IntKind.u32.wrap (andI .u8 c 31)))
  ) else (
   if ((shrI .u8 c 4)==14) then (
    some (3,(IntKind.u32.wrap (andI .u8 c 15)))
   ) else (
    if ((shrI .u8 c 3)==30) then (
     some (4,(IntKind.u32.wrap (andI .u8 c 7)))
    ) else (
     some (0,0)
    )
   )
  )
 )
def zph (wv:Int):Option Int:=
 if ((shrI .u32 wv 7)==0) then (
  some 1
 ) else (
  if ((shrI .u32 wv 11)==0) then (
   some 2
  ) else (
   if ((shrI .u32 wv 11)==27) then (
    some 0
   ) else (
    if ((shrI .u32 wv 16)==0) then (
     some 3
    ) else (
     if (decide (wv<=1114111)) then (
      some 4
     ) else (
      some 0
     )
    )
   )
  )
 )
def zfQ (v2:(List UInt8)) (wv:Int) (v3:Int):Option ((Int×Int)⊕(Int⊕Unit)):=
 if (decide (v3<(v2.length:Int))) then (
  idx v2 v3>>=fun x2=>
  if ((shrI .u8 (x2.toNat:Int) 6) !=2) then (
   some (.inr (.inr ()))
  ) else (
   some (.inl ((orI .u32 (shlI .u32 wv 6) (IntKind.u32.wrap (andI .u8 (x2.toNat:Int) 63))),(IntKind.i64.wrap (v3+1))))
  )
 ) else (
  some (.inr (.inl wv))
 )
def zdM (v2:(List UInt8)) (wv:Int) (v3:Int):Option (Int⊕Unit):=zaj (fun s:(Int×Int)=>zfQ v2 s.1 s.2) (wv,v3)
def zpg (b:(List UInt8)):Option Int:=
 if ((b.length:Int)==0) then (
  some 0
 ) else (
  idx b 0>>=fun x=>
  zuk (x.toNat:Int)>>=fun rv=>
  if ((rv.1==0)|| (decide (rv.1>(b.length:Int)))) then (
   some 0
  ) else (
   cut b 1 rv.1>>=fun v2=>
   zdM v2 rv.2 0>>=fun q=>
   match q with
   | .inl u=>(
    zph u>>=fun rv2=>
    if (rv.1 !=rv2) then (
     some 0
    ) else (
     some rv.1
    )
   )
   | .inr u2=>(
    some 0
   )
  )
 )
theorem zvH (h:zfQ v2 wv v3=some (.inl (wv',v3'))):zdM v2 wv v3=zdM v2 wv' v3':=zL (body:=fun s:(Int×Int)=>zfQ v2 s.1 s.2) h
theorem zpX (h:zfQ v2 wv v3=some (.inr oo_)):zdM v2 wv v3=some oo_:=zJ (body:=fun s:(Int×Int)=>zfQ v2 s.1 s.2) h
def zgt (b:(List UInt8)) (atv:Int) (points:Int) (size:Int):Option ((Int×Int×Int)⊕(Int×Int)):=
 if (decide (size>0)) then (
  cut b (IntKind.i64.wrap (atv+size)) (b.length:Int)>>=fun v=>
  zpg v>>=fun rv2=>
  some (.inl ((IntKind.i64.wrap (atv+size)),(IntKind.i64.wrap (points+1)),rv2))
 ) else (
  some (.inr (atv,points))
 )
def zje (b:(List UInt8)) (atv:Int) (points:Int) (size:Int):Option (Int×Int):=zaj (fun s:(Int×Int×Int)=>zgt b s.1 s.2.1 s.2.2) (atv,points,size)
def zrE (b:(List UInt8)):Option (Int×Int):=
 zpg b>>=fun rv=>
 zje b 0 0 rv>>=fun q=>
 some (q.1,q.2)
theorem zvI (h:zgt b atv points size=some (.inl (atv',points',size'))):zje b atv points size=zje b atv' points' size':=zL (body:=fun s:(Int×Int×Int)=>zgt b s.1 s.2.1 s.2.2) h
theorem zvJ (h:zgt b atv points size=some (.inr oo_)):zje b atv points size=some oo_:=zJ (body:=fun s:(Int×Int×Int)=>zgt b s.1 s.2.1 s.2.2) h
def zpe (b:(List UInt8)):Option Int:=
 zrE b>>=fun rv=>
 some rv.1
def zpf (b:(List UInt8)):Option Bool:=
 zpe b>>=fun rv=>
 some (rv==(b.length:Int))
def zhH (rv:Int):Option (List UInt8):=
 if ((decide (rv<0))|| ((decide (rv>1114111))|| ((decide (rv>=55296))&&(decide (rv<=57343))))) then (
  some []
 ) else (
  if (decide (rv<128)) then (
   zma (IntKind.u8.wrap rv)>>=fun y=>
   some ([y]:List UInt8)
  ) else (
   if (decide (rv<2048)) then (
    zma (IntKind.u8.wrap (IntKind.i64.wrap (192+(IntKind.i64.wrap (Int.tdiv rv 64)))))>>=fun y2=>
    zma (IntKind.u8.wrap (IntKind.i64.wrap (128+(Int.tmod rv 64))))>>=fun y3=>
    some ([y2,y3]:List UInt8)
   ) else (
    if (decide (rv<65536)) then (
     zma (IntKind.u8.wrap (IntKind.i64.wrap (224+(IntKind.i64.wrap (Int.tdiv rv 4096)))))>>=fun y4=>
     zma (IntKind.u8.wrap (IntKind.i64.wrap (128+(Int.tmod (IntKind.i64.wrap (Int.tdiv rv 64)) 64))))>>=fun y5=>
     zma (IntKind.u8.wrap (IntKind.i64.wrap (128+(Int.tmod rv 64))))>>=fun y6=>
     some ([y4,y5,y6]:List UInt8)
    ) else (
     zma (IntKind.u8.wrap (IntKind.i64.wrap (240+(IntKind.i64.wrap (Int.tdiv rv 262144)))))>>=fun y7=>
     zma (IntKind.u8.wrap (IntKind.i64.wrap (128+(Int.tmod (IntKind.i64.wrap (Int.tdiv rv 4096)) 64))))>>=fun y8=>
     zma (IntKind.u8.wrap (IntKind.i64.wrap (128+(Int.tmod (IntKind.i64.wrap (Int.tdiv rv 64)) 64))))>>=fun y9=>
     zma (IntKind.u8.wrap (IntKind.i64.wrap (128+(Int.tmod rv 64))))>>=fun y10=>
     some ([y7,y8,y9,y10]:List UInt8)
    )
   )
  )
 )
def zbQ (atv:Int) (b:(List UInt8)) (n:Int) (rv2:Int) (i:Int):Option ((Int×Int)⊕Int):=
 if (decide (i<n)) then (
  idx b (IntKind.i64.wrap (atv+i))>>=fun x3=>
  some (.inl ((IntKind.i64.wrap ((IntKind.i64.wrap (64*rv2))+(Int.tmod (IntKind.i64.wrap (x3.toNat:Int)) 64))),(IntKind.i64.wrap (i+1))))
 ) else (
  some (.inr rv2)
 )
def zcq (atv:Int) (b:(List UInt8)) (n:Int) (rv2:Int) (i:Int):Option Int:=zaj (fun s:(Int×Int)=>zbQ atv b n s.1 s.2) (rv2,i)
def zbP (atv:Int) (b:(List UInt8)) (n:Int):Option (Int⊕(Unit⊕Int)):=
 if ((decide (n<=4))&&(decide ((IntKind.i64.wrap (atv+n))<=(b.length:Int)))) then (
  idx b atv>>=fun x=>
  ((
   if (decide (n>1)) then (
    idx ([0,0,32,16,8]:(List Int)) n>>=fun x2=>
    remI (IntKind.i64.wrap (x.toNat:Int)) x2>>=fun v3=>
    some v3
   ) else (
    some (IntKind.i64.wrap (x.toNat:Int))
   )
   :Option Int))>>=fun p=>
  zcq atv b n p 1>>=fun q=>
  zhH q>>=fun rv4=>
  cut b atv (IntKind.i64.wrap (atv+n))>>=fun v4=>
  if (rv4==v4) then (
   some (.inr (.inr n))
  ) else (
   some (.inl (IntKind.i64.wrap (n+1)))
  )
 ) else (
  some (.inr (.inl ()))
 )
def zet (atv:Int) (b:(List UInt8)) (n:Int):Option (Unit⊕Int):=zaj (fun s:Int=>zbP atv b s) n
def zhf (b:(List UInt8)) (atv:Int):Option Int:=
 zet atv b 1>>=fun q2=>
 match q2 with
 | .inl u=>(
  some 0
 )
 | .inr u2=>(
  some u2
 )
theorem znY (h:zbQ atv b n rv2 i=some (.inl (rv2',i'))):zcq atv b n rv2 i=zcq atv b n rv2' i':=zL (body:=fun s:(Int×Int)=>zbQ atv b n s.1 s.2) h
theorem znZ (h:zbQ atv b n rv2 i=some (.inr oo_)):zcq atv b n rv2 i=some oo_:=zJ (body:=fun s:(Int×Int)=>zbQ atv b n s.1 s.2) h
theorem znX (h:zbP atv b n=some (.inl n')):zet atv b n=zet atv b n':=zL (body:=fun s:Int=>zbP atv b s) h
theorem zht (h:zbP atv b n=some (.inr oo_)):zet atv b n=some oo_:=zJ (body:=fun s:Int=>zbP atv b s) h
def zbz (b:(List UInt8)) (most:Int) (atv:Int) (count:Int):Option ((Int×Int)⊕(Int×Int)):=
 zhf b atv>>=fun rv=>
 if ((rv==0)|| (decide ((IntKind.i64.wrap (atv+rv))>most))) then (
  some (.inr (atv,count))
 ) else (
  some (.inl ((IntKind.i64.wrap (atv+rv)),(IntKind.i64.wrap (count+1))))
 )
def zdd (b:(List UInt8)) (most:Int) (atv:Int) (count:Int):Option (Int×Int):=zaj (fun s:(Int×Int)=>zbz b most s.1 s.2) (atv,count)
def zgB (b:(List UInt8)) (most:Int):Option (Int×Int):=
 zdd b most 0 0>>=fun q=>
 some (q.1,q.2)
theorem zng (h:zbz b most atv count=some (.inl (atv',count'))):zdd b most atv count=zdd b most atv' count':=zL (body:=fun s:(Int×Int)=>zbz b most s.1 s.2) h
theorem znh (h:zbz b most atv count=some (.inr oo_)):zdd b most atv count=some oo_:=zJ (body:=fun s:(Int×Int)=>zbz b most s.1 s.2) h
def zgC (b:(List UInt8)):Option Bool:=
 zgB b (b.length:Int)>>=fun rv=>
 some (rv.1==(b.length:Int))
def zlG (wire:Int) (b:(List UInt8)):Option (Int×Int×Int):=
 if (wire==0) then (
  zlN b>>=fun rv=>
  some (0,rv.1,rv.2)
 ) else (
  ((
   if (wire==1) then (
    some (0,0,8)
   ) else (
    if (wire==5) then (
     some (0,0,4)
    ) else (
     if (wire==2) then (
      zig b>>=fun rv2=>
      some (rv2.2.1,rv2.2.2,rv2.1)
     ) else (
      some (0,0,0)
     )
    )
   )
   :Option (Int×Int×Int)))>>=fun p=>
  if (p.2.1 !=0) then (
   some (0,0,p.2.1)
  ) else (
   if (decide (p.2.2>(IntKind.u64.wrap (IntKind.i64.wrap ((b.length:Int) - p.1))))) then (
    some (0,0,3)
   ) else (
    some (p.1,(IntKind.i64.wrap (p.1+(IntKind.i64.wrap p.2.2))),0)
   )
  )
 )
def zlF (b:(List UInt8)) (fromv:Int):Option (zD×Int):=
 if ((decide (fromv<0))|| (decide (fromv>=(b.length:Int)))) then (
  some ((⟨0,0,0,0,0⟩:zD),2)
 ) else (
  cut b fromv (b.length:Int)>>=fun v2=>
  zrx v2>>=fun rv=>
  if (rv.2.2 !=0) then (
   some ((⟨0,0,0,0,0⟩:zD),rv.2.2)
  ) else (
   cut b (IntKind.i64.wrap (fromv+rv.2.1)) (b.length:Int)>>=fun v3=>
   zlG rv.1.Wire v3>>=fun rv2=>
   if (rv2.2.2 !=0) then (
    some ((⟨0,0,0,0,0⟩:zD),rv2.2.2)
   ) else (
    some ((⟨rv.1.Number,rv.1.Wire,fromv,(IntKind.i64.wrap ((IntKind.i64.wrap (fromv+rv.2.1))+rv2.1)),(IntKind.i64.wrap ((IntKind.i64.wrap (fromv+rv.2.1))+rv2.2.1))⟩:zD),0)
   )
  )
 )
def zhg (b:(List UInt8)) (fromv:Int):Option (zD×Int):=
 if ((decide (fromv<0))|| (decide (fromv>=(b.length:Int)))) then (
  some ((⟨0,0,0,0,0⟩:zD),2)
 ) else (
  zhe b fromv>>=fun rv=>
  if (rv.2.2.2 !=0) then (
   some ((⟨0,0,0,0,0⟩:zD),rv.2.2.2)
  ) else (
   ((
    if (rv.2.1==5) then (
     some 4
    ) else (
     some 8
    )
    :Option Int))>>=fun p=>
   ((
    if (rv.2.1==0) then (
     zeN b (IntKind.i64.wrap (fromv+rv.2.2.1))>>=fun rv2=>
     if (rv2.2.2 !=0) then (
      some (.inr rv2.2.2)
     ) else (
      some (.inl rv2.2.1)
     )
    ) else (
     some (.inl p)
    )
    :Option (Int⊕Int)))>>=fun p2=>
   match p2 with
   | .inl u=>(
    ((
     if (rv.2.1==2) then (
      zeN b (IntKind.i64.wrap (fromv+rv.2.2.1))>>=fun rv3=>
      if (rv3.2.2 !=0) then (
       some (.inr rv3.2.2)
      ) else (
       if (decide (rv3.1>(IntKind.u64.wrap (IntKind.i64.wrap ((IntKind.i64.wrap ((b.length:Int) - (IntKind.i64.wrap (fromv+rv.2.2.1)))) - rv3.2.1))))) then (
        some (.inr 3)
       ) else (
        some (.inl ((IntKind.i64.wrap ((IntKind.i64.wrap ((b.length:Int) - (IntKind.i64.wrap (fromv+rv.2.2.1)))) - rv3.2.1)),(IntKind.i64.wrap rv3.1),(IntKind.i64.wrap ((IntKind.i64.wrap (fromv+rv.2.2.1))+rv3.2.1))))
       )
      )
     ) else (
      some (.inl ((IntKind.i64.wrap ((b.length:Int) - (IntKind.i64.wrap (fromv+rv.2.2.1)))),u,(IntKind.i64.wrap (fromv+rv.2.2.1))))
     )
     :Option ((Int×Int×Int)⊕Int)))>>=fun p3=>
    match p3 with
    | .inl u2=>(
     if (decide (u2.2.1>u2.1)) then (
      some ((⟨0,0,0,0,0⟩:zD),3)
     ) else (
      some ((⟨rv.1,rv.2.1,fromv,u2.2.2,(IntKind.i64.wrap (u2.2.2+u2.2.1))⟩:zD),0)
     )
    )
    | .inr u3=>(
     some ((⟨0,0,0,0,0⟩:zD),u3)
    )
   )
   | .inr u4=>(
    some ((⟨0,0,0,0,0⟩:zD),u4)
   )
  )
 )
def zpz (wv:Int):Option Int:=
 some (if (1:Int)<wv then 1 else wv)
def zmJ (k:Int) (wv:Int):Option (Int×Int):=
 ((
  if (k==1) then (
   some (k==1)
  ) else (
   some (k==8)
  )
  :Option Bool))>>=fun p=>
 if p then (
  zlp wv>>=fun rv=>
  zlq rv>>=fun rv2=>
  some (rv2,0)
 ) else (
  ((
   if (k==3) then (
    some (k==3)
   ) else (
    if (k==5) then (
     some (k==5)
    ) else (
     if (k==9) then (
      some (k==9)
     ) else (
      if (k==10) then (
       some (k==10)
      ) else (
       some (k==11)
      )
     )
    )
   )
   :Option Bool))>>=fun p2=>
  if p2 then (
   zkU wv>>=fun rv3=>
   some ((IntKind.u64.wrap rv3),0)
  ) else (
   if (k==7) then (
    zpz wv>>=fun rv4=>
    some (rv4,0)
   ) else (
    ((
     if (k==2) then (
      some (k==2)
     ) else (
      if (k==4) then (
       some (k==4)
      ) else (
       if (k==6) then (
        some (k==6)
       ) else (
        if (k==12) then (
         some (k==12)
        ) else (
         if (k==13) then (
          some (k==13)
         ) else (
          some (k==14)
         )
        )
       )
      )
     )
     :Option Bool))>>=fun p3=>
    if p3 then (
     some (wv,0)
    ) else (
     some (0,2)
    )
   )
  )
 )
def zmK:Option (List (Int×zz)):=
 some (mput (mput (mput (mput (mput (mput (mput (mput (mput (mput (mput (mput (mput (mput (mput (mput (mput ([]:(List (Int×zz))) 1 (⟨[105,110,116,51,50],0⟩:zz)) 2 (⟨[105,110,116,54,52],0⟩:zz)) 3 (⟨[117,105,110,116,51,50],0⟩:zz)) 4 (⟨[117,105,110,116,54,52],0⟩:zz)) 5 (⟨[115,105,110,116,51,50],0⟩:zz)) 6 (⟨[115,105,110,116,54,52],0⟩:zz)) 7 (⟨[98,111,111,108],0⟩:zz)) 8 (⟨[101,110,117,109],0⟩:zz)) 9 (⟨[102,105,120,101,100,51,50],5⟩:zz)) 10 (⟨[115,102,105,120,101,100,51,50],5⟩:zz)) 11 (⟨[102,108,111,97,116],5⟩:zz)) 12 (⟨[102,105,120,101,100,54,52],1⟩:zz)) 13 (⟨[115,102,105,120,101,100,54,52],1⟩:zz)) 14 (⟨[100,111,117,98,108,101],1⟩:zz)) 15 (⟨[115,116,114,105,110,103],2⟩:zz)) 16 (⟨[98,121,116,101,115],2⟩:zz)) 17 (⟨[109,101,115,115,97,103,101],2⟩:zz))
def zqT:Option (List Int):=
 zmK>>=fun rv=>
 zwR rv>>=fun v=>
 some v
def zoN (k:Int):Option (Int×Int):=
 zmK>>=fun rv=>
 if (!(mget rv k).isSome) then (
  some (0,2)
 ) else (
  some (((mget rv k).getD (⟨[],0⟩:zz)).wire,0)
 )
def zcV (k:Int):Option Bool:=
 some ((decide (k>=1))&&(decide (k<=17)))
def zlD (k:Int):Option Bool:=
 zoN k>>=fun rv=>
 some ((rv.2==0)&&(rv.1 !=2))
def zdJ (k:Int):Option Bool:=
 some ((decide (k>=1))&&(decide (k<=14)))
def zgD (k:Int) (wv:Int):Option Int:=
 ((
  if (k==1) then (
   some (k==1)
  ) else (
   some (k==8)
  )
  :Option Bool))>>=fun p=>
 if p then (
  zgi wv>>=fun rv=>
  zhd rv>>=fun rv2=>
  some rv2
 ) else (
  ((
   if (k==3) then (
    some (k==3)
   ) else (
    if (k==5) then (
     some (k==5)
    ) else (
     if (k==9) then (
      some (k==9)
     ) else (
      if (k==10) then (
       some (k==10)
      ) else (
       some (k==11)
      )
     )
    )
   )
   :Option Bool))>>=fun p2=>
  if p2 then (
   some (Int.tmod wv 4294967296)
  ) else (
   if (k==7) then (
    if (decide (wv>0)) then (
     some 1
    ) else (
     some 0
    )
   ) else (
    some wv
   )
  )
 )
def zhN (c:Int):Option Bool:=
 some ((decide (c>=48))&&(decide (c<=57)))
def ziw (c:Int):Option Bool:=
 some (if (decide (c>=97)) then ((decide (c<=122))|| (if (decide (c>=65)) then ((decide (c<=90))|| (c==95)) else (c==95))) else (if (decide (c>=65)) then ((decide (c<=90))|| (c==95)) else (c==95)))
def zcF (name:Str) (v2:Int):Option (Int⊕(Unit⊕Unit)):=
 if (decide (v2<(name.length:Int))) then (
  (
   idx name v2>>=fun c2=>
   ziw (c2.toNat:Int)>>=fun rv2=>
   if (!rv2) then (
    idx name v2>>=fun c3=>
    zhN (c3.toNat:Int)>>=fun rv3=>
    some (!rv3)
   ) else (
    some false
   )
  )>>=fun g2=>
  if g2 then (
   some (.inr (.inr ()))
  ) else (
   some (.inl (IntKind.i64.wrap (v2+1)))
  )
 ) else (
  some (.inr (.inl ()))
 )
def zgw (name:Str) (v2:Int):Option (Unit⊕Unit):=zaj (fun s:Int=>zcF name s) v2
def ziE (name:Str):Option Bool:=
 (
  if (name==[]) then (
   some true
  ) else (
   if (decide ((name.length:Int)>60)) then (
    some true
   ) else (
    idx name 0>>=fun c=>
    zhN (c.toNat:Int)>>=fun rv=>
    some rv
   )
  )
 )>>=fun g=>
 if g then (
  some false
 ) else (
  zgw name 0>>=fun q=>
  match q with
  | .inl u=>(
   some true
  )
  | .inr u2=>(
   some false
  )
 )
theorem zrv (h:zcF name v2=some (.inl v2')):zgw name v2=zgw name v2':=zL (body:=fun s:Int=>zcF name s) h
theorem zlJ (h:zcF name v2=some (.inr oo_)):zgw name v2=some oo_:=zJ (body:=fun s:Int=>zcF name s) h
def zix (n:Int):Option Bool:=
 some ((decide (n>=1))&&((decide (n<=536870911))&&((decide (n<19000))|| (decide (n>19999)))))
def ziZ (f:ze):Option Bool:=
 (
  if f.Repeated then (
   zlD f.Kind>>=fun rv=>
   some rv
  ) else (
   some false
  )
 )>>=fun g=>
 some g
def zgK (c:zbm) (f:ze):Option Bool:=
 if (f.Kind==17) then (
  some ((decide (f.Of>=0))&&(decide (f.Of<c.size)))
 ) else (
  some (f.Of==0)
 )
def zgJ (c:zbm) (message:Int) (f:ze):Option (Int×(List (zp×Bool))×(List (zq×Bool))):=
 ziE f.Name>>=fun rv=>
 if (!rv) then (
  some (5,c.names,c.numbers)
 ) else (
  if ((mget c.names (⟨message,f.Name⟩:zp)).getD false) then (
   some (6,c.names,c.numbers)
  ) else (
   zix f.Number>>=fun rv2=>
   if (!rv2) then (
    some (7,c.names,c.numbers)
   ) else (
    if ((mget c.numbers (⟨message,f.Number⟩:zq)).getD false) then (
     some (8,c.names,c.numbers)
    ) else (
     zdt c.kinds f.Kind>>=fun rv3=>
     if (!rv3) then (
      some (9,c.names,c.numbers)
     ) else (
      (
       if f.Packed then (
        ziZ f>>=fun rv4=>
        some (!rv4)
       ) else (
        some false
       )
      )>>=fun g=>
      if g then (
       some (10,c.names,c.numbers)
      ) else (
       zgK c f>>=fun rv5=>
       if (!rv5) then (
        some (11,c.names,c.numbers)
       ) else (
        some (0,(mput c.names (⟨message,f.Name⟩:zp) true),(mput c.numbers (⟨message,f.Number⟩:zq) true))
       )
      )
     )
    )
   )
  )
 )
def zfN (c:zbm) (m:zf):Option (Int×(List (zp×Bool))×(List (zq×Bool))):=
 ziE m.Name>>=fun rv=>
 if (!rv) then (
  some (2,c.names,c.numbers)
 ) else (
  if ((mget c.names (⟨(-1),m.Name⟩:zp)).getD false) then (
   some (3,c.names,c.numbers)
  ) else (
   if (decide ((m.Fields.length:Int)>200)) then (
    some (4,c.names,c.numbers)
   ) else (
    some (0,(mput c.names (⟨(-1),m.Name⟩:zp) true),c.numbers)
   )
  )
 )
def zce (i:Int) (sv:(List zf)) (n3:Int) (k:Int):Option ((Int×Int)⊕Int):=
 idx sv i>>=fun x3=>
 if (decide (k<(x3.Fields.length:Int))) then (
  idx sv i>>=fun x4=>
  idx x4.Fields k>>=fun x5=>
  some (.inl ((IntKind.i64.wrap (n3+(IntKind.i64.wrap (Int.tdiv (x5.Name.length:Int) 100)))),(IntKind.i64.wrap (k+1))))
 ) else (
  some (.inr n3)
 )
def zeZ (i:Int) (sv:(List zf)) (n3:Int) (k:Int):Option Int:=zaj (fun s:(Int×Int)=>zce i sv s.1 s.2) (n3,k)
def zcd (sv:(List zf)) (n:Int) (i:Int):Option ((Int×Int)⊕Int):=
 if (decide (i<(sv.length:Int))) then (
  idx sv i>>=fun x=>
  idx sv i>>=fun x2=>
  zeZ i sv (IntKind.i64.wrap ((IntKind.i64.wrap ((IntKind.i64.wrap (n+1))+(IntKind.i64.wrap (Int.tdiv (x.Name.length:Int) 100))))+(x2.Fields.length:Int))) 0>>=fun q=>
  some (.inl (q,(IntKind.i64.wrap (i+1))))
 ) else (
  some (.inr n)
 )
def zeY (sv:(List zf)) (n:Int) (i:Int):Option Int:=zaj (fun s:(Int×Int)=>zcd sv s.1 s.2) (n,i)
def zhF (sv:(List zf)):Option Bool:=
 zeY sv 0 0>>=fun q2=>
 some (decide (q2<=500))
theorem zoE (h:zce i sv n3 k=some (.inl (n3',k'))):zeZ i sv n3 k=zeZ i sv n3' k':=zL (body:=fun s:(Int×Int)=>zce i sv s.1 s.2) h
theorem zoF (h:zce i sv n3 k=some (.inr oo_)):zeZ i sv n3 k=some oo_:=zJ (body:=fun s:(Int×Int)=>zce i sv s.1 s.2) h
theorem zoC (h:zcd sv n i=some (.inl (n',i'))):zeY sv n i=zeY sv n' i':=zL (body:=fun s:(Int×Int)=>zcd sv s.1 s.2) h
theorem zoD (h:zcd sv n i=some (.inr oo_)):zeY sv n i=some oo_:=zJ (body:=fun s:(Int×Int)=>zcd sv s.1 s.2) h
def zcD (rv:(List Int)) (sv:(List zf)) (v2:Int) (x:zf) (v3:Int) (f6:(List (zp×Bool))) (f7:(List (zq×Bool))):Option ((Int×(List (zp×Bool))×(List (zq×Bool)))⊕(((List (zp×Bool))×(List (zq×Bool)))⊕(Int×Int))):=
 if (decide (v3<(x.Fields.length:Int))) then (
  idx x.Fields v3>>=fun x2=>
  zgJ (⟨(sv.length:Int),rv,f6,f7⟩:zbm) v2 x2>>=fun rv5=>
  if (rv5.1 !=0) then (
   some (.inr (.inr (v3,rv5.1)))
  ) else (
   some (.inl ((IntKind.i64.wrap (v3+1)),rv5.2.1,rv5.2.2))
  )
 ) else (
  some (.inr (.inl (f6,f7)))
 )
def zfm (rv:(List Int)) (sv:(List zf)) (v2:Int) (x:zf) (v3:Int) (f6:(List (zp×Bool))) (f7:(List (zq×Bool))):Option (((List (zp×Bool))×(List (zq×Bool)))⊕(Int×Int)):=zaj (fun s:(Int×(List (zp×Bool))×(List (zq×Bool)))=>zcD rv sv v2 x s.1 s.2.1 s.2.2) (v3,f6,f7)
def zbF (rv:(List Int)) (sv:(List zf)) (v2:Int) (f:(List (zp×Bool))) (f2:(List (zq×Bool))):Option ((Int×(List (zp×Bool))×(List (zq×Bool)))⊕(Unit⊕(Int×Int×Int))):=
 if (decide (v2<(sv.length:Int))) then (
  idx sv v2>>=fun x=>
  zfN (⟨(sv.length:Int),rv,f,f2⟩:zbm) x>>=fun rv3=>
  if (rv3.1 !=0) then (
   some (.inr (.inr (v2,(-1),rv3.1)))
  ) else (
   zfm rv sv v2 x 0 rv3.2.1 rv3.2.2>>=fun q=>
   match q with
   | .inl u=>(
    some (.inl ((IntKind.i64.wrap (v2+1)),u.1,u.2))
   )
   | .inr u2=>(
    some (.inr (.inr (v2,u2.1,u2.2)))
   )
  )
 ) else (
  some (.inr (.inl ()))
 )
def zgZ (rv:(List Int)) (sv:(List zf)) (v2:Int) (f:(List (zp×Bool))) (f2:(List (zq×Bool))):Option (Unit⊕(Int×Int×Int)):=zaj (fun s:(Int×(List (zp×Bool))×(List (zq×Bool)))=>zbF rv sv s.1 s.2.1 s.2.2) (v2,f,f2)
def zkG (sv:(List zf)):Option (zbl×Int):=
 if ((decide ((sv.length:Int)<1))|| (decide ((sv.length:Int)>100))) then (
  some ((⟨(-1),(-1),1⟩:zbl),9)
 ) else (
  zqT>>=fun rv=>
  zgZ rv sv 0 ([]:(List (zp×Bool))) ([]:(List (zq×Bool)))>>=fun q2=>
  match q2 with
  | .inl u3=>(
   some ((⟨0,0,0⟩:zbl),0)
  )
  | .inr u4=>(
   some ((⟨u4.1,u4.2.1,u4.2.2⟩:zbl),9)
  )
 )
theorem zst (h:zcD rv sv v2 x v3 f6 f7=some (.inl (v3',f6',f7'))):zfm rv sv v2 x v3 f6 f7=zfm rv sv v2 x v3' f6' f7':=zL (body:=fun s:(Int×(List (zp×Bool))×(List (zq×Bool)))=>zcD rv sv v2 x s.1 s.2.1 s.2.2) h
theorem zmh (h:zcD rv sv v2 x v3 f6 f7=some (.inr oo_)):zfm rv sv v2 x v3 f6 f7=some oo_:=zJ (body:=fun s:(Int×(List (zp×Bool))×(List (zq×Bool)))=>zcD rv sv v2 x s.1 s.2.1 s.2.2) h
theorem zss (h:zbF rv sv v2 f f2=some (.inl (v2',f',f2'))):zgZ rv sv v2 f f2=zgZ rv sv v2' f' f2':=zL (body:=fun s:(Int×(List (zp×Bool))×(List (zq×Bool)))=>zbF rv sv s.1 s.2.1 s.2.2) h
theorem zgn (h:zbF rv sv v2 f f2=some (.inr oo_)):zgZ rv sv v2 f f2=some oo_:=zJ (body:=fun s:(Int×(List (zp×Bool))×(List (zq×Bool)))=>zbF rv sv s.1 s.2.1 s.2.2) h
def zjm (sv:(List zf)):Option Bool:=
 zkG sv>>=fun rv=>
 some (rv.2==0)
def zbq (sv:Str) (i:Int):Option (Int⊕(Unit⊕Unit)):=
 if (decide (i<(sv.length:Int))) then (
  idx sv i>>=fun c=>
  if (!(if (decide ((c.toNat:Int)>=65)) then ((decide ((c.toNat:Int)<=90))|| (if (decide ((c.toNat:Int)>=97)) then ((decide ((c.toNat:Int)<=122))|| (((c.toNat:Int)==95)|| ((decide (i>0))&&((decide ((c.toNat:Int)>=48))&&(decide ((c.toNat:Int)<=57)))))) else (((c.toNat:Int)==95)|| ((decide (i>0))&&((decide ((c.toNat:Int)>=48))&&(decide ((c.toNat:Int)<=57))))))) else (if (decide ((c.toNat:Int)>=97)) then ((decide ((c.toNat:Int)<=122))|| (((c.toNat:Int)==95)|| ((decide (i>0))&&((decide ((c.toNat:Int)>=48))&&(decide ((c.toNat:Int)<=57)))))) else (((c.toNat:Int)==95)|| ((decide (i>0))&&((decide ((c.toNat:Int)>=48))&&(decide ((c.toNat:Int)<=57)))))))) then (
   some (.inr (.inr ()))
  ) else (
   some (.inl (IntKind.i64.wrap (i+1)))
  )
 ) else (
  some (.inr (.inl ()))
 )
def zeu (sv:Str) (i:Int):Option (Unit⊕Unit):=zaj (fun s:Int=>zbq sv s) i
def zfR (sv:Str):Option Bool:=
 zeu sv 0>>=fun q=>
 match q with
 | .inl u=>(
  some ((decide ((sv.length:Int)>=1))&&(decide ((sv.length:Int)<=60)))
 )
 | .inr u2=>(
  some false
 )
theorem zoa (h:zbq sv i=some (.inl i')):zeu sv i=zeu sv i':=zL (body:=fun s:Int=>zbq sv s) h
theorem zjN (h:zbq sv i=some (.inr oo_)):zeu sv i=some oo_:=zJ (body:=fun s:Int=>zbq sv s) h
def zbB (i:Int) (k:Int) (sv:(List zf)) (x2:ze) (name:Bool) (number:Bool) (j:Int):Option ((Bool×Bool×Int)⊕(Bool×Bool)):=
 if (decide (j<k)) then (
  (
   if name then (
    some true
   ) else (
    idx sv i>>=fun x3=>
    idx x3.Fields j>>=fun x4=>
    some (x4.Name==x2.Name)
   )
  )>>=fun g=>
  (
   if number then (
    some true
   ) else (
    idx sv i>>=fun x5=>
    idx x5.Fields j>>=fun x6=>
    some (x6.Number==x2.Number)
   )
  )>>=fun g2=>
  some (.inl (g,g2,(IntKind.i64.wrap (j+1))))
 ) else (
  some (.inr (name,number))
 )
def zdQ (i:Int) (k:Int) (sv:(List zf)) (x2:ze) (name:Bool) (number:Bool) (j:Int):Option (Bool×Bool):=zaj (fun s:(Bool×Bool×Int)=>zbB i k sv x2 s.1 s.2.1 s.2.2) (name,number,j)
def zgF (sv:(List zf)) (i:Int) (k:Int):Option Int:=
 idx sv i>>=fun x=>
 idx x.Fields k>>=fun x2=>
 zdQ i k sv x2 false false 0>>=fun q=>
 zfR x2.Name>>=fun rv=>
 if (!rv) then (
  some 5
 ) else (
  if q.1 then (
   some 6
  ) else (
   if ((decide (x2.Number<1))|| ((decide (x2.Number>536870911))|| ((decide (x2.Number>=19000))&&(decide (x2.Number<20000))))) then (
    some 7
   ) else (
    if q.2 then (
     some 8
    ) else (
     zcV x2.Kind>>=fun rv2=>
     if (!rv2) then (
      some 9
     ) else (
      (
       if x2.Packed then (
        if x2.Repeated then (
         zdJ x2.Kind>>=fun rv3=>
         some (!rv3)
        ) else (
         some (!false)
        )
       ) else (
        some false
       )
      )>>=fun g3=>
      if g3 then (
       some 10
      ) else (
       if (if (x2.Kind==17) then ((decide (x2.Of<0))|| ((decide (x2.Of>=(sv.length:Int)))|| ((x2.Kind !=17)&&(x2.Of !=0)))) else ((x2.Kind !=17)&&(x2.Of !=0))) then (
        some 11
       ) else (
        some 0
       )
      )
     )
    )
   )
  )
 )
theorem znm (h:zbB i k sv x2 name number j=some (.inl (name',number',j'))):zdQ i k sv x2 name number j=zdQ i k sv x2 name' number' j':=zL (body:=fun s:(Bool×Bool×Int)=>zbB i k sv x2 s.1 s.2.1 s.2.2) h
theorem znn (h:zbB i k sv x2 name number j=some (.inr oo_)):zdQ i k sv x2 name number j=some oo_:=zJ (body:=fun s:(Bool×Bool×Int)=>zbB i k sv x2 s.1 s.2.1 s.2.2) h
def zbA (i:Int) (sv:(List zf)) (twice:Bool) (k:Int):Option ((Bool×Int)⊕Bool):=
 if (decide (k<i)) then (
  (
   if twice then (
    some true
   ) else (
    idx sv k>>=fun x=>
    idx sv i>>=fun x2=>
    some (x.Name==x2.Name)
   )
  )>>=fun g=>
  some (.inl (g,(IntKind.i64.wrap (k+1))))
 ) else (
  some (.inr twice)
 )
def zdO (i:Int) (sv:(List zf)) (twice:Bool) (k:Int):Option Bool:=zaj (fun s:(Bool×Int)=>zbA i sv s.1 s.2) (twice,k)
def zaY (i:Int) (sv:(List zf)) (k2:Int):Option (Int⊕(Unit⊕(Int×Int))):=
 idx sv i>>=fun x5=>
 if (decide (k2<(x5.Fields.length:Int))) then (
  zgF sv i k2>>=fun rv2=>
  if (decide (rv2>0)) then (
   some (.inr (.inr (k2,rv2)))
  ) else (
   some (.inl (IntKind.i64.wrap (k2+1)))
  )
 ) else (
  some (.inr (.inl ()))
 )
def zdP (i:Int) (sv:(List zf)) (k2:Int):Option (Unit⊕(Int×Int)):=zaj (fun s:Int=>zaY i sv s) k2
def zaX (sv:(List zf)) (i:Int):Option (Int⊕(Unit⊕(Int×Int×Int))):=
 if (decide (i<(sv.length:Int))) then (
  zdO i sv false 0>>=fun q=>
  idx sv i>>=fun x3=>
  zfR x3.Name>>=fun rv=>
  if (!rv) then (
   some (.inr (.inr (i,(-1),2)))
  ) else (
   if q then (
    some (.inr (.inr (i,(-1),3)))
   ) else (
    idx sv i>>=fun x4=>
    if (decide ((x4.Fields.length:Int)>200)) then (
     some (.inr (.inr (i,(-1),4)))
    ) else (
     zdP i sv 0>>=fun q2=>
     match q2 with
     | .inl u=>(
      some (.inl (IntKind.i64.wrap (i+1)))
     )
     | .inr u2=>(
      some (.inr (.inr (i,u2.1,u2.2)))
     )
    )
   )
  )
 ) else (
  some (.inr (.inl ()))
 )
def zdN (sv:(List zf)) (i:Int):Option (Unit⊕(Int×Int×Int)):=zaj (fun s:Int=>zaX sv s) i
def zgE (sv:(List zf)):Option (Int×Int×Int):=
 if (((sv.length:Int)==0)|| (decide ((sv.length:Int)>100))) then (
  some ((-1),(-1),1)
 ) else (
  zdN sv 0>>=fun q3=>
  match q3 with
  | .inl u3=>(
   some (0,0,0)
  )
  | .inr u4=>(
   some (u4.1,u4.2.1,u4.2.2)
  )
 )
theorem znj (h:zbA i sv twice k=some (.inl (twice',k'))):zdO i sv twice k=zdO i sv twice' k':=zL (body:=fun s:(Bool×Int)=>zbA i sv s.1 s.2) h
theorem znk (h:zbA i sv twice k=some (.inr oo_)):zdO i sv twice k=some oo_:=zJ (body:=fun s:(Bool×Int)=>zbA i sv s.1 s.2) h
theorem znl (h:zaY i sv k2=some (.inl k2')):zdP i sv k2=zdP i sv k2':=zL (body:=fun s:Int=>zaY i sv s) h
theorem zju (h:zaY i sv k2=some (.inr oo_)):zdP i sv k2=some oo_:=zJ (body:=fun s:Int=>zaY i sv s) h
theorem zni (h:zaX sv i=some (.inl i')):zdN sv i=zdN sv i':=zL (body:=fun s:Int=>zaX sv s) h
theorem zdD (h:zaX sv i=some (.inr oo_)):zdN sv i=some oo_:=zJ (body:=fun s:Int=>zaX sv s) h
def zhk (f:ze) (v:Int):Option Bool:=
 some (f.Number==v)
def zE (sv:(List ze)) (v:Int) (v2:Int):Option (Int⊕(Unit⊕Int)):=
 if (decide (v2<(sv.length:Int))) then (
  idx sv v2>>=fun x=>
  zhk x v>>=fun rv=>
  if rv then (
   some (.inr (.inr v2))
  ) else (
   some (.inl (IntKind.i64.wrap (v2+1)))
  )
 ) else (
  some (.inr (.inl ()))
 )
def zZ (sv:(List ze)) (v:Int) (v2:Int):Option (Unit⊕Int):=zaj (fun s:Int=>zE sv v s) v2
def zaz (sv:(List ze)) (v:Int):Option Int:=
 zZ sv v 0>>=fun q=>
 match q with
 | .inl u=>(
  some (-1)
 )
 | .inr u2=>(
  some u2
 )
theorem zeE (h:zE sv v v2=some (.inl v2')):zZ sv v v2=zZ sv v v2':=zL (body:=fun s:Int=>zE sv v s) h
theorem zcb (h:zE sv v v2=some (.inr oo_)):zZ sv v v2=some oo_:=zJ (body:=fun s:Int=>zE sv v s) h
def zdp (m:zf) (v:Int):Option (Int×Bool):=
 zaz m.Fields v>>=fun rv=>
 some ((if rv<0 then 0 else rv),(decide (rv>=0)))
def zgg (m:zf) (number:Int):Option (Int×Bool):=
 zdp m number>>=fun rv=>
 some (rv.1,rv.2)
def zaZ (m:zf) (number:Int) (i:Int):Option (Int⊕(Unit⊕Int)):=
 if (decide (i<(m.Fields.length:Int))) then (
  idx m.Fields i>>=fun x=>
  if (x.Number==number) then (
   some (.inr (.inr i))
  ) else (
   some (.inl (IntKind.i64.wrap (i+1)))
  )
 ) else (
  some (.inr (.inl ()))
 )
def zdR (m:zf) (number:Int) (i:Int):Option (Unit⊕Int):=zaj (fun s:Int=>zaZ m number s) i
def zej (m:zf) (number:Int):Option Int:=
 zdR m number 0>>=fun q=>
 match q with
 | .inl u=>(
  some (-1)
 )
 | .inr u2=>(
  some u2
 )
theorem zno (h:zaZ m number i=some (.inl i')):zdR m number i=zdR m number i':=zL (body:=fun s:Int=>zaZ m number s) h
theorem zjv (h:zaZ m number i=some (.inr oo_)):zdR m number i=some oo_:=zJ (body:=fun s:Int=>zaZ m number s) h
def zgG (sv:(List zf)):Option Bool:=
 zgE sv>>=fun rv=>
 some (rv.2.2==0)
def znc (sv:(List zf)) (root:Int) (d:Int):Option Int:=
 zjm sv>>=fun rv=>
 if (!rv) then (
  some 9
 ) else (
  if ((decide (root<0))|| ((decide (root>=(sv.length:Int)))|| ((decide (d<0))|| (decide (d>64))))) then (
   some 2
  ) else (
   some 0
  )
 )
def zoO (way:(List Int)) (other:(List Int)):Option Bool:=
 (
  if (decide ((other.length:Int)>0)) then (
   if (decide ((other.length:Int)<=(way.length:Int))) then (
    cut way 0 (other.length:Int)>>=fun v=>
    zeD v other>>=fun rv=>
    some rv
   ) else (
    some false
   )
  ) else (
   some false
  )
 )>>=fun g=>
 some g
def zdr (ways:(List (List Int))) (last:(List Int)) (v:Int):Option (((List Int)×Int)⊕(Unit⊕Unit)):=
 if (decide (v<(ways.length:Int))) then (
  idx ways v>>=fun x=>
  (
   zdG last x>>=fun rv=>
   if (decide (rv>=0)) then (
    some true
   ) else (
    zoO x last>>=fun rv2=>
    some rv2
   )
  )>>=fun g=>
  if g then (
   some (.inr (.inr ()))
  ) else (
   some (.inl (x,(IntKind.i64.wrap (v+1))))
  )
 ) else (
  some (.inr (.inl ()))
 )
def zhL (ways:(List (List Int))) (last:(List Int)) (v:Int):Option (Unit⊕Unit):=zaj (fun s:((List Int)×Int)=>zdr ways s.1 s.2) (last,v)
def zlE (ways:(List (List Int))):Option Bool:=
 zhL ways [] 0>>=fun q=>
 match q with
 | .inl u=>(
  some true
 )
 | .inr u2=>(
  some false
 )
theorem zsS {ways:(List (List Int))} {last:(List Int)} {v:Int} {last':(List Int)} {v':Int} (h:zdr ways last v=some (.inl (last',v'))):zhL ways last v=zhL ways last' v':=zL (body:=fun s:((List Int)×Int)=>zdr ways s.1 s.2) h
theorem zmM {ways:(List (List Int))} {last:(List Int)} {v:Int} {oo_:(Unit⊕Unit)} (h:zdr ways last v=some (.inr oo_)):zhL ways last v=some oo_:=zJ (body:=fun s:((List Int)×Int)=>zdr ways s.1 s.2) h
def zef (ways:(List (List Int))) (l:(List (List Int))) (v2:Int):Option (((List (List Int))×Int)⊕(List (List Int))):=
 if (decide (v2<(ways.length:Int))) then (
  idx ways v2>>=fun x=>
  zeC x>>=fun rv=>
  idx l v2>>=fun x2=>
  some (.inl ((l.set (Int.toNat v2) rv),(IntKind.i64.wrap (v2+1))))
 ) else (
  some (.inr l)
 )
def zhK (ways:(List (List Int))) (l:(List (List Int))) (v2:Int):Option (List (List Int)):=zaj (fun s:((List (List Int))×Int)=>zef ways s.1 s.2) (l,v2)
def zku (ways:(List (List Int))):Option (List (List Int)):=
 mkO 24 ([]:(List Int)) (ways.length:Int) (ways.length:Int)>>=fun v=>
 zhK ways v 0>>=fun q=>
 some q
theorem zsQ {ways:(List (List Int))} {l:(List (List Int))} {v2:Int} {l':(List (List Int))} {v2':Int} (h:zef ways l v2=some (.inl (l',v2'))):zhK ways l v2=zhK ways l' v2':=zL (body:=fun s:((List (List Int))×Int)=>zef ways s.1 s.2) h
theorem zsR {ways:(List (List Int))} {l:(List (List Int))} {v2:Int} {oo_:(List (List Int))} (h:zef ways l v2=some (.inr oo_)):zhK ways l v2=some oo_:=zJ (body:=fun s:((List (List Int))×Int)=>zef ways s.1 s.2) h
def zbd (t:(List (zal×Int))) (way:(List Int)) (place:Int) (v:Int):Option ((Int×Int)⊕(Unit⊕Bool)):=
 if (decide (v<(way.length:Int))) then (
  idx way v>>=fun x=>
  if (!(mget t (⟨place,x⟩:zal)).isSome) then (
   some (.inr (.inr false))
  ) else (
   if (((mget t (⟨place,x⟩:zal)).getD 0)==(-1)) then (
    some (.inr (.inr true))
   ) else (
    some (.inl (((mget t (⟨place,x⟩:zal)).getD 0),(IntKind.i64.wrap (v+1))))
   )
  )
 ) else (
  some (.inr (.inl ()))
 )
def zfB (t:(List (zal×Int))) (way:(List Int)) (place:Int) (v:Int):Option (Unit⊕Bool):=zaj (fun s:(Int×Int)=>zbd t way s.1 s.2) (place,v)
def zgY (t:(List (zal×Int))) (way:(List Int)):Option Bool:=
 zfB t way 0 0>>=fun q=>
 match q with
 | .inl u=>(
  some false
 )
 | .inr u2=>(
  some u2
 )
theorem zpD {t:(List (zal×Int))} {way:(List Int)} {place:Int} {v:Int} {place':Int} {v':Int} (h:zbd t way place v=some (.inl (place',v'))):zfB t way place v=zfB t way place' v':=zL (body:=fun s:(Int×Int)=>zbd t way s.1 s.2) h
theorem zio {t:(List (zal×Int))} {way:(List Int)} {place:Int} {v:Int} {oo_:(Unit⊕Bool)} (h:zbd t way place v=some (.inr oo_)):zfB t way place v=some oo_:=zJ (body:=fun s:(Int×Int)=>zbd t way s.1 s.2) h
def zcm (way:(List Int)) (t2:(List (zal×Int))) (place:Int) (v:Int) (f:Int) (f2:Int):Option (((List (zal×Int))×Int×Int×Int×Int)⊕((List (zal×Int))×Int×Int)):=
 if (decide (v<(way.length:Int))) then (
  idx way v>>=fun x=>
  if (!(mget t2 (⟨place,x⟩:zal)).isSome) then (
   some (.inl ((mput t2 (⟨place,x⟩:zal) (IntKind.i64.wrap ((t2.length:Int)+1))),((mget (mput t2 (⟨place,x⟩:zal) (IntKind.i64.wrap ((t2.length:Int)+1))) (⟨place,x⟩:zal)).getD 0),(IntKind.i64.wrap (v+1)),place,x))
  ) else (
   some (.inl (t2,((mget t2 (⟨place,x⟩:zal)).getD 0),(IntKind.i64.wrap (v+1)),place,x))
  )
 ) else (
  some (.inr (t2,f,f2))
 )
def zgX (way:(List Int)) (t2:(List (zal×Int))) (place:Int) (v:Int) (f:Int) (f2:Int):Option ((List (zal×Int))×Int×Int):=zaj (fun s:((List (zal×Int))×Int×Int×Int×Int)=>zcm way s.1 s.2.1 s.2.2.1 s.2.2.2.1 s.2.2.2.2) (t2,place,v,f,f2)
def zkE (t:(List (zal×Int))) (way:(List Int)):Option (List (zal×Int)):=
 zgX way t 0 0 0 0>>=fun q=>
 some (mput q.1 (⟨q.2.1,q.2.2⟩:zal) (-1))
theorem zmf {way:(List Int)} {t2:(List (zal×Int))} {place:Int} {v:Int} {f:Int} {f2:Int} {t2':(List (zal×Int))} {place':Int} {v':Int} {f':Int} {f2':Int} (h:zcm way t2 place v f f2=some (.inl (t2',place',v',f',f2'))):zgX way t2 place v f f2=zgX way t2' place' v' f' f2':=zL (body:=fun s:((List (zal×Int))×Int×Int×Int×Int)=>zcm way s.1 s.2.1 s.2.2.1 s.2.2.2.1 s.2.2.2.2) h
theorem zsq {way:(List Int)} {t2:(List (zal×Int))} {place:Int} {v:Int} {f:Int} {f2:Int} {oo_:((List (zal×Int))×Int×Int)} (h:zcm way t2 place v f f2=some (.inr oo_)):zgX way t2 place v f f2=some oo_:=zJ (body:=fun s:((List (zal×Int))×Int×Int×Int×Int)=>zcm way s.1 s.2.1 s.2.2.1 s.2.2.2.1 s.2.2.2.2) h
def zgH (rv4:(List (List Int))) (l:(List (List Int))) (t:(List (zal×Int))) (v:Int):Option (((List (List Int))×(List (zal×Int))×Int)⊕(List (List Int))):=
 if (decide (v<(rv4.length:Int))) then (
  idx rv4 v>>=fun x=>
  (
   if (decide ((x.length:Int)>0)) then (
    zgY t x>>=fun rv5=>
    some (!rv5)
   ) else (
    some false
   )
  )>>=fun g=>
  if g then (
   zkE t x>>=fun rv7=>
   app 24 l ([x]:(List (List Int)))>>=fun v3=>
   some (.inl (v3,rv7,(IntKind.i64.wrap (v+1))))
  ) else (
   some (.inl (l,t,(IntKind.i64.wrap (v+1))))
  )
 ) else (
  some (.inr l)
 )
def zla (rv4:(List (List Int))) (l:(List (List Int))) (t:(List (zal×Int))) (v:Int):Option (List (List Int)):=zaj (fun s:((List (List Int))×(List (zal×Int))×Int)=>zgH rv4 s.1 s.2.1 s.2.2) (l,t,v)
def zrX (ways:(List (List Int))):Option zkS:=
 zlE ways>>=fun rv=>
 if rv then (
  zku ways>>=fun rv2=>
  some (⟨rv2⟩:zkS)
 ) else (
  zeh ways>>=fun rv3=>
  zR rv3>>=fun rv4=>
  zla rv4 [] ([]:(List (zal×Int))) 0>>=fun q=>
  zku q>>=fun rv8=>
  some (⟨rv8⟩:zkS)
 )
theorem zra {rv4:(List (List Int))} {l:(List (List Int))} {t:(List (zal×Int))} {v:Int} {l':(List (List Int))} {t':(List (zal×Int))} {v':Int} (h:zgH rv4 l t v=some (.inl (l',t',v'))):zla rv4 l t v=zla rv4 l' t' v':=zL (body:=fun s:((List (List Int))×(List (zal×Int))×Int)=>zgH rv4 s.1 s.2.1 s.2.2) h
theorem zwY {rv4:(List (List Int))} {l:(List (List Int))} {t:(List (zal×Int))} {v:Int} {oo_:(List (List Int))} (h:zgH rv4 l t v=some (.inr oo_)):zla rv4 l t v=some oo_:=zJ (body:=fun s:((List (List Int))×(List (zal×Int))×Int)=>zgH rv4 s.1 s.2.1 s.2.2) h
def zhh (sv:(List zf)) (root:Int):Option Int:=
 zgG sv>>=fun rv=>
 if (!rv) then (
  some 9
 ) else (
  if ((decide (root<0))|| (decide (root>=(sv.length:Int)))) then (
   some 2
  ) else (
   some 0
  )
 )
def zhm (v:za):Option Int:=
 some (IntKind.i64.wrap ((IntKind.i64.wrap ((v.Words.length:Int)+(v.Texts.length:Int)))+(v.Subs.length:Int)))
def zcy (xm:za->Option za) (x:zc) (i:Int) (f:(List za)):Option ((Int×(List za))⊕(List za)):=
 if (decide (i<(x.Values.length:Int))) then (
  idx x.Values i>>=fun x2=>
  xm x2>>=fun rv=>
  app 80 f ([rv]:(List za))>>=fun v2=>
  some (.inl ((IntKind.i64.wrap (i+1)),v2))
 ) else (
  some (.inr f)
 )
def zfx (xm:za->Option za) (x:zc) (i:Int) (f:(List za)):Option (List za):=zaj (fun s:(Int×(List za))=>zcy xm x s.1 s.2) (i,f)
def zhb (xl:zc->Option zc) (xm:za->Option za) (x:zc):Option zc:=
 app 16 ([]:(List Str)) x.Unknown>>=fun v=>
 zfx xm x 0 []>>=fun q=>
 some (⟨q,v⟩:zc)
def zaV (xl:zc->Option zc) (v:za) (i:Int) (f:(List zc)):Option ((Int×(List zc))⊕(List zc)):=
 if (decide (i<(v.Subs.length:Int))) then (
  idx v.Subs i>>=fun x=>
  xl x>>=fun rv=>
  app 48 f ([rv]:(List zc))>>=fun v2=>
  some (.inl ((IntKind.i64.wrap (i+1)),v2))
 ) else (
  some (.inr f)
 )
def zdm (xl:zc->Option zc) (v:za) (i:Int) (f:(List zc)):Option (List zc):=zaj (fun s:(Int×(List zc))=>zaV xl v s.1 s.2) (i,f)
def zeM (xl:zc->Option zc) (xm:za->Option za) (v:za):Option za:=
 zdm xl v 0 []>>=fun q=>
 some (⟨v.Number,v.Words,v.Texts,q⟩:za)
def zaF:Nat->(zc->Option zc)×(za->Option za)
  | 0=>(fun _=>none,fun _=>none)
  | fuel+1=>(fun x=>zhb (zaF fuel).1 (zaF fuel).2 x,fun v=>zeM (zaF fuel).1 (zaF fuel).2 v)
def zcl (fuel:Nat):zc->Option zc:=(zaF fuel).1
def zeo (fuel:Nat):za->Option za:=(zaF fuel).2
theorem zpq (h:zcy xm x i f=some (.inl (i',f'))):zfx xm x i f=zfx xm x i' f':=zL (body:=fun s:(Int×(List za))=>zcy xm x s.1 s.2) h
theorem zpr (h:zcy xm x i f=some (.inr oo_)):zfx xm x i f=some oo_:=zJ (body:=fun s:(Int×(List za))=>zcy xm x s.1 s.2) h
theorem zmi (h:zaV xl v i f=some (.inl (i',f'))):zdm xl v i f=zdm xl v i' f':=zL (body:=fun s:(Int×(List zc))=>zaV xl v s.1 s.2) h
theorem zmj (h:zaV xl v i f=some (.inr oo_)):zdm xl v i f=some oo_:=zJ (body:=fun s:(Int×(List zc))=>zaV xl v s.1 s.2) h
def zbN (x:zc) (n:Int) (i:Int):Option ((Int×Int)⊕Int):=
 if (decide (i<(x.Unknown.length:Int))) then (
  idx x.Unknown i>>=fun x2=>
  some (.inl ((IntKind.i64.wrap ((IntKind.i64.wrap (n+1))+(x2.length:Int))),(IntKind.i64.wrap (i+1))))
 ) else (
  some (.inr n)
 )
def zep (x:zc) (n:Int) (i:Int):Option Int:=zaj (fun s:(Int×Int)=>zbN x s.1 s.2) (n,i)
def zbp (deep:Int) (xk:za->Int->Option Int) (x:zc) (n3:Int) (i2:Int):Option ((Int×Int)⊕(Int⊕Unit)):=
 if (decide (i2<(x.Values.length:Int))) then (
  idx x.Values i2>>=fun x3=>
  xk x3 deep>>=fun rv=>
  if (decide ((IntKind.i64.wrap (n3+rv))>=5000)) then (
   some (.inr (.inr ()))
  ) else (
   some (.inl ((IntKind.i64.wrap (n3+rv)),(IntKind.i64.wrap (i2+1))))
  )
 ) else (
  some (.inr (.inl n3))
 )
def zeq (deep:Int) (xk:za->Int->Option Int) (x:zc) (n3:Int) (i2:Int):Option (Int⊕Unit):=zaj (fun s:(Int×Int)=>zbp deep xk x s.1 s.2) (n3,i2)
def zgh (xj:zc->Int->Option Int) (xk:za->Int->Option Int) (x:zc) (deep:Int):Option Int:=
 if (decide (deep<0)) then (
  some 5000
 ) else (
  zep x 1 0>>=fun q=>
  zeq deep xk x q 0>>=fun q2=>
  match q2 with
  | .inl u=>(
   some u
  )
  | .inr u2=>(
   some 5000
  )
 )
def zaJ (v:za) (n:Int) (k:Int):Option ((Int×Int)⊕Int):=
 if (decide (k<(v.Texts.length:Int))) then (
  idx v.Texts k>>=fun x=>
  some (.inl ((IntKind.i64.wrap ((IntKind.i64.wrap (n+1))+(x.length:Int))),(IntKind.i64.wrap (k+1))))
 ) else (
  some (.inr n)
 )
def zcP (v:za) (n:Int) (k:Int):Option Int:=zaj (fun s:(Int×Int)=>zaJ v s.1 s.2) (n,k)
def zaA (deep:Int) (xj:zc->Int->Option Int) (v:za) (n3:Int) (k2:Int):Option ((Int×Int)⊕(Int⊕Unit)):=
 if (decide (k2<(v.Subs.length:Int))) then (
  idx v.Subs k2>>=fun x2=>
  xj x2 (IntKind.i64.wrap (deep - 1))>>=fun rv=>
  if (decide ((IntKind.i64.wrap (n3+rv))>=5000)) then (
   some (.inr (.inr ()))
  ) else (
   some (.inl ((IntKind.i64.wrap (n3+rv)),(IntKind.i64.wrap (k2+1))))
  )
 ) else (
  some (.inr (.inl n3))
 )
def zcQ (deep:Int) (xj:zc->Int->Option Int) (v:za) (n3:Int) (k2:Int):Option (Int⊕Unit):=zaj (fun s:(Int×Int)=>zaA deep xj v s.1 s.2) (n3,k2)
def zec (xj:zc->Int->Option Int) (xk:za->Int->Option Int) (v:za) (deep:Int):Option Int:=
 zcP v (IntKind.i64.wrap (1+(v.Words.length:Int))) 0>>=fun q=>
 zcQ deep xj v q 0>>=fun q2=>
 match q2 with
 | .inl u=>(
  some u
 )
 | .inr u2=>(
  some 5000
 )
def zau:Nat->(zc->Int->Option Int)×(za->Int->Option Int)
  | 0=>(fun _ _=>none,fun _ _=>none)
  | fuel+1=>(fun x deep=>zgh (zau fuel).1 (zau fuel).2 x deep,fun v deep=>zec (zau fuel).1 (zau fuel).2 v deep)
def zcp (fuel:Nat):zc->Int->Option Int:=(zau fuel).1
def zbL (fuel:Nat):za->Int->Option Int:=(zau fuel).2
theorem znR (h:zbN x n i=some (.inl (n',i'))):zep x n i=zep x n' i':=zL (body:=fun s:(Int×Int)=>zbN x s.1 s.2) h
theorem znS (h:zbN x n i=some (.inr oo_)):zep x n i=some oo_:=zJ (body:=fun s:(Int×Int)=>zbN x s.1 s.2) h
theorem znT (h:zbp deep xk x n3 i2=some (.inl (n3',i2'))):zeq deep xk x n3 i2=zeq deep xk x n3' i2':=zL (body:=fun s:(Int×Int)=>zbp deep xk x s.1 s.2) h
theorem zjM (h:zbp deep xk x n3 i2=some (.inr oo_)):zeq deep xk x n3 i2=some oo_:=zJ (body:=fun s:(Int×Int)=>zbp deep xk x s.1 s.2) h
theorem zlr (h:zaJ v n k=some (.inl (n',k'))):zcP v n k=zcP v n' k':=zL (body:=fun s:(Int×Int)=>zaJ v s.1 s.2) h
theorem zls (h:zaJ v n k=some (.inr oo_)):zcP v n k=some oo_:=zJ (body:=fun s:(Int×Int)=>zaJ v s.1 s.2) h
theorem zlt (h:zaA deep xj v n3 k2=some (.inl (n3',k2'))):zcQ deep xj v n3 k2=zcQ deep xj v n3' k2':=zL (body:=fun s:(Int×Int)=>zaA deep xj v s.1 s.2) h
theorem zia (h:zaA deep xj v n3 k2=some (.inr oo_)):zcQ deep xj v n3 k2=some oo_:=zJ (body:=fun s:(Int×Int)=>zaA deep xj v s.1 s.2) h
def zeL (most:Int) (xa:zc->Int->Option Int) (x2:za) (deep3:Int) (v3:Int):Option ((Int×Int)⊕(Int⊕Int)):=
 if (decide (v3<(x2.Subs.length:Int))) then (
  idx x2.Subs v3>>=fun x3=>
  if (decide (most<=0)) then (
   some (.inr (.inr 1))
  ) else (
   xa x3 (IntKind.i64.wrap (most - 1))>>=fun rv=>
   if (decide ((if deep3<(IntKind.i64.wrap (1+rv)) then (IntKind.i64.wrap (1+rv)) else deep3)>most)) then (
    some (.inr (.inr (if deep3<(IntKind.i64.wrap (1+rv)) then (IntKind.i64.wrap (1+rv)) else deep3)))
   ) else (
    some (.inl ((if deep3<(IntKind.i64.wrap (1+rv)) then (IntKind.i64.wrap (1+rv)) else deep3),(IntKind.i64.wrap (v3+1))))
   )
  )
 ) else (
  some (.inr (.inl deep3))
 )
def ziG (most:Int) (xa:zc->Int->Option Int) (x2:za) (deep3:Int) (v3:Int):Option (Int⊕Int):=zaj (fun s:(Int×Int)=>zeL most xa x2 s.1 s.2) (deep3,v3)
def zeK (most:Int) (xa:zc->Int->Option Int) (x:zc) (deep:Int) (v:Int):Option ((Int×Int)⊕(Int⊕Int)):=
 if (decide (v<(x.Values.length:Int))) then (
  idx x.Values v>>=fun x2=>
  ziG most xa x2 deep 0>>=fun q=>
  match q with
  | .inl u=>(
   some (.inl (u,(IntKind.i64.wrap (v+1))))
  )
  | .inr u2=>(
   some (.inr (.inr u2))
  )
 ) else (
  some (.inr (.inl deep))
 )
def ziF (most:Int) (xa:zc->Int->Option Int) (x:zc) (deep:Int) (v:Int):Option (Int⊕Int):=zaj (fun s:(Int×Int)=>zeK most xa x s.1 s.2) (deep,v)
def zkI (xa:zc->Int->Option Int) (x:zc) (most:Int):Option Int:=
 ziF most xa x 0 0>>=fun q2=>
 match q2 with
 | .inl u3=>(
  some u3
 )
 | .inr u4=>(
  some u4
 )
def zhx:Nat->zc->Int->Option Int
  | 0,_,_=>none
  | fuel+1,x,most=>zkI (zhx fuel) x most
theorem zug (h:zeL most xa x2 deep3 v3=some (.inl (deep3',v3'))):ziG most xa x2 deep3 v3=ziG most xa x2 deep3' v3':=zL (body:=fun s:(Int×Int)=>zeL most xa x2 s.1 s.2) h
theorem zuh (h:zeL most xa x2 deep3 v3=some (.inr oo_)):ziG most xa x2 deep3 v3=some oo_:=zJ (body:=fun s:(Int×Int)=>zeL most xa x2 s.1 s.2) h
theorem zue (h:zeK most xa x deep v=some (.inl (deep',v'))):ziF most xa x deep v=ziF most xa x deep' v':=zL (body:=fun s:(Int×Int)=>zeK most xa x s.1 s.2) h
theorem zuf (h:zeK most xa x deep v=some (.inr oo_)):ziF most xa x deep v=some oo_:=zJ (body:=fun s:(Int×Int)=>zeK most xa x s.1 s.2) h
def znb (fuel:Nat) (x:zc):Option Int:=
 zhx fuel x 131072>>=fun rv=>
 some rv
def zmw (fuel:Nat) (x:zc):Option Bool:=
 znb fuel x>>=fun rv=>
 some (decide (rv<=131072))
def zcK (l:(List Str)) (v:Int):Option (Int⊕(Unit⊕Unit)):=
 if (decide (v<(l.length:Int))) then (
  idx l v>>=fun x=>
  lenO x>>=fun v2=>
  zpf v2>>=fun rv=>
  if (!rv) then (
   some (.inr (.inr ()))
  ) else (
   some (.inl (IntKind.i64.wrap (v+1)))
  )
 ) else (
  some (.inr (.inl ()))
 )
def zgx (l:(List Str)) (v:Int):Option (Unit⊕Unit):=zaj (fun s:Int=>zcK l s) v
def zjV (l:(List Str)):Option Bool:=
 zgx l 0>>=fun q=>
 match q with
 | .inl u=>(
  some true
 )
 | .inr u2=>(
  some false
 )
theorem zrC (h:zcK l v=some (.inl v')):zgx l v=zgx l v':=zL (body:=fun s:Int=>zcK l s) h
theorem zlL (h:zcK l v=some (.inr oo_)):zgx l v=some oo_:=zJ (body:=fun s:Int=>zcK l s) h
def zjd (m:zf) (text:Str):Option Bool:=
 lenO text>>=fun v=>
 zlF v 0>>=fun rv=>
 if ((rv.2 !=0)|| (rv.1.To !=(text.length:Int))) then (
  some false
 ) else (
  zgg m rv.1.Number>>=fun rv2=>
  some (!rv2.2)
 )
def zaS (k:Int) (l:(List Int)) (v:Int):Option (Int⊕(Unit⊕Unit)):=
 if (decide (v<(l.length:Int))) then (
  idx l v>>=fun x=>
  zmJ k x>>=fun rv=>
  if ((rv.2 !=0)|| (rv.1 !=x)) then (
   some (.inr (.inr ()))
  ) else (
   some (.inl (IntKind.i64.wrap (v+1)))
  )
 ) else (
  some (.inr (.inl ()))
 )
def zeH (k:Int) (l:(List Int)) (v:Int):Option (Unit⊕Unit):=zaj (fun s:Int=>zaS k l s) v
def zhn (k:Int) (l:(List Int)):Option Bool:=
 zeH k l 0>>=fun q=>
 match q with
 | .inl u=>(
  some true
 )
 | .inr u2=>(
  some false
 )
theorem zou (h:zaS k l v=some (.inl v')):zeH k l v=zeH k l v':=zL (body:=fun s:Int=>zaS k l s) h
theorem zhv (h:zaS k l v=some (.inr oo_)):zeH k l v=some oo_:=zJ (body:=fun s:Int=>zaS k l s) h
def zbJ (l:(List zc)) (message:Int) (xf:(List zf)->Int->zc->Option Bool) (sv:(List zf)) (v2:Int):Option (Int⊕(Unit⊕Unit)):=
 if (decide (v2<(l.length:Int))) then (
  idx l v2>>=fun x=>
  xf sv message x>>=fun rv=>
  if (!rv) then (
   some (.inr (.inr ()))
  ) else (
   some (.inl (IntKind.i64.wrap (v2+1)))
  )
 ) else (
  some (.inr (.inl ()))
 )
def zff (l:(List zc)) (message:Int) (xf:(List zf)->Int->zc->Option Bool) (sv:(List zf)) (v2:Int):Option (Unit⊕Unit):=zaj (fun s:Int=>zbJ l message xf sv s) v2
def zgM (xr:(List zf)->Int->(List zc)->Option Bool) (xe:ze->(List zf)->za->Option Bool) (xf:(List zf)->Int->zc->Option Bool) (sv:(List zf)) (message:Int) (l:(List zc)):Option Bool:=
 if ((decide (message<0))|| (decide (message>=(sv.length:Int)))) then (
  some false
 ) else (
  zff l message xf sv 0>>=fun q=>
  match q with
  | .inl u=>(
   some true
  )
  | .inr u2=>(
   some false
  )
 )
def zlM (xr:(List zf)->Int->(List zc)->Option Bool) (xe:ze->(List zf)->za->Option Bool) (xf:(List zf)->Int->zc->Option Bool) (f:ze) (sv:(List zf)) (v:za):Option Bool:=
 zhm v>>=fun rv=>
 if ((rv==0)|| ((decide (rv>1))&&(!f.Repeated))) then (
  some false
 ) else (
  if (f.Kind==15) then (
   (
    if ((v.Texts.length:Int)==rv) then (
     zjV v.Texts>>=fun rv2=>
     some rv2
    ) else (
     some false
    )
   )>>=fun g=>
   some g
  ) else (
   if (f.Kind==16) then (
    some ((v.Texts.length:Int)==rv)
   ) else (
    if (f.Kind==17) then (
     (
      if ((v.Subs.length:Int)==rv) then (
       xr sv f.Of v.Subs>>=fun rv3=>
       some rv3
      ) else (
       some false
      )
     )>>=fun g2=>
     some g2
    ) else (
     (
      if ((v.Words.length:Int)==rv) then (
       zhn f.Kind v.Words>>=fun rv4=>
       some rv4
      ) else (
       some false
      )
     )>>=fun g3=>
     some g3
    )
   )
  )
 )
def zcu (xe:ze->(List zf)->za->Option Bool) (sv:(List zf)) (x:zc) (x2:zf) (last:Int) (v:Int):Option ((Int×Int)⊕(Unit⊕Unit)):=
 if (decide (v<(x.Values.length:Int))) then (
  idx x.Values v>>=fun x3=>
  zgg x2 x3.Number>>=fun rv=>
  (
   if (!rv.2) then (
    some true
   ) else (
    if (decide (x3.Number<=last)) then (
     some true
    ) else (
     idx x2.Fields rv.1>>=fun x4=>
     xe x4 sv x3>>=fun rv2=>
     some (!rv2)
    )
   )
  )>>=fun g=>
  if g then (
   some (.inr (.inr ()))
  ) else (
   some (.inl (x3.Number,(IntKind.i64.wrap (v+1))))
  )
 ) else (
  some (.inr (.inl ()))
 )
def zgb (xe:ze->(List zf)->za->Option Bool) (sv:(List zf)) (x:zc) (x2:zf) (last:Int) (v:Int):Option (Unit⊕Unit):=zaj (fun s:(Int×Int)=>zcu xe sv x x2 s.1 s.2) (last,v)
def zcv (x:zc) (x2:zf) (v3:Int):Option (Int⊕(Unit⊕Unit)):=
 if (decide (v3<(x.Unknown.length:Int))) then (
  idx x.Unknown v3>>=fun x5=>
  zjd x2 x5>>=fun rv3=>
  if (!rv3) then (
   some (.inr (.inr ()))
  ) else (
   some (.inl (IntKind.i64.wrap (v3+1)))
  )
 ) else (
  some (.inr (.inl ()))
 )
def zgc (x:zc) (x2:zf) (v3:Int):Option (Unit⊕Unit):=zaj (fun s:Int=>zcv x x2 s) v3
def zhU (xr:(List zf)->Int->(List zc)->Option Bool) (xe:ze->(List zf)->za->Option Bool) (xf:(List zf)->Int->zc->Option Bool) (sv:(List zf)) (message:Int) (x:zc):Option Bool:=
 idx sv message>>=fun x2=>
 zgb xe sv x x2 0 0>>=fun q=>
 match q with
 | .inl u=>(
  zgc x x2 0>>=fun q2=>
  match q2 with
  | .inl u2=>(
   some true
  )
  | .inr u3=>(
   some false
  )
 )
 | .inr u4=>(
  some false
 )
def zah:Nat->((List zf)->Int->(List zc)->Option Bool)×(ze->(List zf)->za->Option Bool)×((List zf)->Int->zc->Option Bool)
  | 0=>(fun _ _ _=>none,fun _ _ _=>none,fun _ _ _=>none)
  | fuel+1=>(fun sv message l=>zgM (zah fuel).1 (zah fuel).2.1 (zah fuel).2.2 sv message l,fun f sv v=>zlM (zah fuel).1 (zah fuel).2.1 (zah fuel).2.2 f sv v,fun sv message x=>zhU (zah fuel).1 (zah fuel).2.1 (zah fuel).2.2 sv message x)
def zhS (fuel:Nat):(List zf)->Int->(List zc)->Option Bool:=(zah fuel).1
def zkz (fuel:Nat):ze->(List zf)->za->Option Bool:=(zah fuel).2.1
def zeW (fuel:Nat):(List zf)->Int->zc->Option Bool:=(zah fuel).2.2
theorem zpb (h:zbJ l message xf sv v2=some (.inl v2')):zff l message xf sv v2=zff l message xf sv v2':=zL (body:=fun s:Int=>zbJ l message xf sv s) h
theorem zky (h:zbJ l message xf sv v2=some (.inr oo_)):zff l message xf sv v2=some oo_:=zJ (body:=fun s:Int=>zbJ l message xf sv s) h
theorem zqs (h:zcu xe sv x x2 last v=some (.inl (last',v'))):zgb xe sv x x2 last v=zgb xe sv x x2 last' v':=zL (body:=fun s:(Int×Int)=>zcu xe sv x x2 s.1 s.2) h
theorem zkP (h:zcu xe sv x x2 last v=some (.inr oo_)):zgb xe sv x x2 last v=some oo_:=zJ (body:=fun s:(Int×Int)=>zcu xe sv x x2 s.1 s.2) h
theorem zqt (h:zcv x x2 v3=some (.inl v3')):zgc x x2 v3=zgc x x2 v3':=zL (body:=fun s:Int=>zcv x x2 s) h
theorem zkQ (h:zcv x x2 v3=some (.inr oo_)):zgc x x2 v3=some oo_:=zJ (body:=fun s:Int=>zcv x x2 s) h
def zdf (v:za):Option Int:=
 some (IntKind.i64.wrap ((IntKind.i64.wrap ((v.Words.length:Int)+(v.Texts.length:Int)))+(v.Subs.length:Int)))
def zbR (f:ze) (v:za) (ok:Bool) (i:Int):Option ((Bool×Int)⊕Bool):=
 if (decide (i<(v.Words.length:Int))) then (
  (
   if ok then (
    zdJ f.Kind>>=fun rv5=>
    if rv5 then (
     idx v.Words i>>=fun x=>
     zgD f.Kind x>>=fun rv6=>
     idx v.Words i>>=fun x2=>
     some (rv6==x2)
    ) else (
     some false
    )
   ) else (
    some false
   )
  )>>=fun g2=>
  some (.inl (g2,(IntKind.i64.wrap (i+1))))
 ) else (
  some (.inr ok)
 )
def zev (f:ze) (v:za) (ok:Bool) (i:Int):Option Bool:=zaj (fun s:(Bool×Int)=>zbR f v s.1 s.2) (ok,i)
def zbS (f:ze) (v:za) (ok4:Bool) (i2:Int):Option ((Bool×Int)⊕Bool):=
 if (decide (i2<(v.Texts.length:Int))) then (
  (
   if ok4 then (
    if (f.Kind==16) then (
     some true
    ) else (
     if (f.Kind==15) then (
      idx v.Texts i2>>=fun x3=>
      lenO x3>>=fun v3=>
      zgC v3>>=fun rv7=>
      some rv7
     ) else (
      some false
     )
    )
   ) else (
    some false
   )
  )>>=fun g3=>
  some (.inl (g3,(IntKind.i64.wrap (i2+1))))
 ) else (
  some (.inr ok4)
 )
def zew (f:ze) (v:za) (ok4:Bool) (i2:Int):Option Bool:=zaj (fun s:(Bool×Int)=>zbS f v s.1 s.2) (ok4,i2)
def zbT (f:ze) (xh:(List zf)->Int->zc->Option Bool) (sv:(List zf)) (v:za) (ok7:Bool) (i3:Int):Option ((Bool×Int)⊕Bool):=
 if (decide (i3<(v.Subs.length:Int))) then (
  (
   if ok7 then (
    if (f.Kind==17) then (
     idx v.Subs i3>>=fun x4=>
     xh sv f.Of x4>>=fun rv8=>
     some rv8
    ) else (
     some false
    )
   ) else (
    some false
   )
  )>>=fun g4=>
  some (.inl (g4,(IntKind.i64.wrap (i3+1))))
 ) else (
  some (.inr ok7)
 )
def zex (f:ze) (xh:(List zf)->Int->zc->Option Bool) (sv:(List zf)) (v:za) (ok7:Bool) (i3:Int):Option Bool:=zaj (fun s:(Bool×Int)=>zbT f xh sv v s.1 s.2) (ok7,i3)
def zgj (xg:(List zf)->ze->za->Option Bool) (xh:(List zf)->Int->zc->Option Bool) (sv:(List zf)) (f:ze) (v:za):Option Bool:=
 (
  zdf v>>=fun rv=>
  if (rv==0) then (
   some true
  ) else (
   zdf v>>=fun rv2=>
   if (decide (rv2>1)) then (
    if (!f.Repeated) then (
     some true
    ) else (
     zcV f.Kind>>=fun rv3=>
     some (!rv3)
    )
   ) else (
    zcV f.Kind>>=fun rv4=>
    some (!rv4)
   )
  )
 )>>=fun g=>
 if g then (
  some false
 ) else (
  zev f v true 0>>=fun q=>
  zew f v q 0>>=fun q2=>
  zex f xh sv v q2 0>>=fun q3=>
  some q3
 )
def zba (xg:(List zf)->ze->za->Option Bool) (root:Int) (sv:(List zf)) (x:zc) (i:Int):Option (Int⊕(Unit⊕Unit)):=
 if (decide (i<(x.Values.length:Int))) then (
  idx sv root>>=fun x2=>
  idx x.Values i>>=fun x3=>
  zej x2 x3.Number>>=fun rv=>
  (
   if (decide (rv<0)) then (
    some true
   ) else (
    if (decide (i>0)) then (
     idx x.Values (IntKind.i64.wrap (i - 1))>>=fun x4=>
     idx x.Values i>>=fun x5=>
     if (decide (x4.Number>=x5.Number)) then (
      some true
     ) else (
      idx sv root>>=fun x6=>
      idx x6.Fields rv>>=fun x7=>
      idx x.Values i>>=fun x8=>
      xg sv x7 x8>>=fun rv2=>
      some (!rv2)
     )
    ) else (
     idx sv root>>=fun x9=>
     idx x9.Fields rv>>=fun x10=>
     idx x.Values i>>=fun x11=>
     xg sv x10 x11>>=fun rv3=>
     some (!rv3)
    )
   )
  )>>=fun g=>
  if g then (
   some (.inr (.inr ()))
  ) else (
   some (.inl (IntKind.i64.wrap (i+1)))
  )
 ) else (
  some (.inr (.inl ()))
 )
def zdS (xg:(List zf)->ze->za->Option Bool) (root:Int) (sv:(List zf)) (x:zc) (i:Int):Option (Unit⊕Unit):=zaj (fun s:Int=>zba xg root sv x s) i
def zbb (root:Int) (sv:(List zf)) (x:zc) (i2:Int):Option (Int⊕(Unit⊕Unit)):=
 if (decide (i2<(x.Unknown.length:Int))) then (
  idx x.Unknown i2>>=fun x12=>
  lenO x12>>=fun v3=>
  zhg v3 0>>=fun rv4=>
  (
   if (rv4.2 !=0) then (
    some true
   ) else (
    idx x.Unknown i2>>=fun x13=>
    if (rv4.1.To !=(x13.length:Int)) then (
     some true
    ) else (
     idx sv root>>=fun x14=>
     zej x14 rv4.1.Number>>=fun rv5=>
     some (decide (rv5>=0))
    )
   )
  )>>=fun g2=>
  if g2 then (
   some (.inr (.inr ()))
  ) else (
   some (.inl (IntKind.i64.wrap (i2+1)))
  )
 ) else (
  some (.inr (.inl ()))
 )
def zdT (root:Int) (sv:(List zf)) (x:zc) (i2:Int):Option (Unit⊕Unit):=zaj (fun s:Int=>zbb root sv x s) i2
def zfJ (xg:(List zf)->ze->za->Option Bool) (xh:(List zf)->Int->zc->Option Bool) (sv:(List zf)) (root:Int) (x:zc):Option Bool:=
 if ((decide (root<0))|| (decide (root>=(sv.length:Int)))) then (
  some false
 ) else (
  zdS xg root sv x 0>>=fun q=>
  match q with
  | .inl u=>(
   zdT root sv x 0>>=fun q2=>
   match q2 with
   | .inl u2=>(
    some true
   )
   | .inr u3=>(
    some false
   )
  )
  | .inr u4=>(
   some false
  )
 )
def zaG:Nat->((List zf)->ze->za->Option Bool)×((List zf)->Int->zc->Option Bool)
  | 0=>(fun _ _ _=>none,fun _ _ _=>none)
  | fuel+1=>(fun sv f v=>zgj (zaG fuel).1 (zaG fuel).2 sv f v,fun sv root x=>zfJ (zaG fuel).1 (zaG fuel).2 sv root x)
def zeO (fuel:Nat):(List zf)->ze->za->Option Bool:=(zaG fuel).1
def zcW (fuel:Nat):(List zf)->Int->zc->Option Bool:=(zaG fuel).2
theorem zob (h:zbR f v ok i=some (.inl (ok',i'))):zev f v ok i=zev f v ok' i':=zL (body:=fun s:(Bool×Int)=>zbR f v s.1 s.2) h
theorem zoc (h:zbR f v ok i=some (.inr oo_)):zev f v ok i=some oo_:=zJ (body:=fun s:(Bool×Int)=>zbR f v s.1 s.2) h
theorem zod (h:zbS f v ok4 i2=some (.inl (ok4',i2'))):zew f v ok4 i2=zew f v ok4' i2':=zL (body:=fun s:(Bool×Int)=>zbS f v s.1 s.2) h
theorem zoe (h:zbS f v ok4 i2=some (.inr oo_)):zew f v ok4 i2=some oo_:=zJ (body:=fun s:(Bool×Int)=>zbS f v s.1 s.2) h
theorem zof (h:zbT f xh sv v ok7 i3=some (.inl (ok7',i3'))):zex f xh sv v ok7 i3=zex f xh sv v ok7' i3':=zL (body:=fun s:(Bool×Int)=>zbT f xh sv v s.1 s.2) h
theorem zog (h:zbT f xh sv v ok7 i3=some (.inr oo_)):zex f xh sv v ok7 i3=some oo_:=zJ (body:=fun s:(Bool×Int)=>zbT f xh sv v s.1 s.2) h
theorem znp (h:zba xg root sv x i=some (.inl i')):zdS xg root sv x i=zdS xg root sv x i':=zL (body:=fun s:Int=>zba xg root sv x s) h
theorem zjw (h:zba xg root sv x i=some (.inr oo_)):zdS xg root sv x i=some oo_:=zJ (body:=fun s:Int=>zba xg root sv x s) h
theorem znq (h:zbb root sv x i2=some (.inl i2')):zdT root sv x i2=zdT root sv x i2':=zL (body:=fun s:Int=>zbb root sv x s) h
theorem zjx (h:zbb root sv x i2=some (.inr oo_)):zdT root sv x i2=some oo_:=zJ (body:=fun s:Int=>zbb root sv x s) h
def zlh (fuel:Nat) (sv:(List zf)) (root:Int) (x:zc):Option Bool:=
 (
  znc sv root 0>>=fun rv=>
  if (rv==0) then (
   zmw fuel x>>=fun rv2=>
   if rv2 then (
    zeW fuel sv root x>>=fun rv3=>
    some rv3
   ) else (
    some false
   )
  ) else (
   some false
  )
 )>>=fun g=>
 some g
def zcL (xd:za->Option za) (rv:(List za)) (v:(List za)) (v2:Int):Option (((List za)×Int)⊕(List za)):=
 if (decide (v2<(rv.length:Int))) then (
  idx v v2>>=fun x2=>
  xd x2>>=fun rv3=>
  idx v v2>>=fun x3=>
  some (.inl ((v.set (Int.toNat v2) rv3),(IntKind.i64.wrap (v2+1))))
 ) else (
  some (.inr v)
 )
def zhT (xd:za->Option za) (rv:(List za)) (v:(List za)) (v2:Int):Option (List za):=zaj (fun s:((List za)×Int)=>zcL xd rv s.1 s.2) (v,v2)
def zhw (xc:zc->Option zc) (xd:za->Option za) (x:zc):Option zc:=
 zbv x.Values>>=fun rv=>
 zca x.Unknown>>=fun rv2=>
 zhT xd rv rv 0>>=fun q=>
 some (⟨q,rv2⟩:zc)
def zaQ (xc:zc->Option zc) (rv3:(List zc)) (v2:(List zc)) (v3:Int):Option (((List zc)×Int)⊕(List zc)):=
 if (decide (v3<(rv3.length:Int))) then (
  idx v2 v3>>=fun x=>
  xc x>>=fun rv4=>
  idx v2 v3>>=fun x2=>
  some (.inl ((v2.set (Int.toNat v3) rv4),(IntKind.i64.wrap (v3+1))))
 ) else (
  some (.inr v2)
 )
def zfg (xc:zc->Option zc) (rv3:(List zc)) (v2:(List zc)) (v3:Int):Option (List zc):=zaj (fun s:((List zc)×Int)=>zaQ xc rv3 s.1 s.2) (v2,v3)
def zem (xc:zc->Option zc) (xd:za->Option za) (v:za):Option za:=
 zcO v.Words>>=fun rv=>
 zca v.Texts>>=fun rv2=>
 zcg v.Subs>>=fun rv3=>
 zfg xc rv3 rv3 0>>=fun q=>
 some (⟨v.Number,rv,rv2,q⟩:za)
def zby:Nat->(zc->Option zc)×(za->Option za)
  | 0=>(fun _=>none,fun _=>none)
  | fuel+1=>(fun x=>zhw (zby fuel).1 (zby fuel).2 x,fun v=>zem (zby fuel).1 (zby fuel).2 v)
def zgs (fuel:Nat):zc->Option zc:=(zby fuel).1
def zfE (fuel:Nat):za->Option za:=(zby fuel).2
theorem ztj (h:zcL xd rv v v2=some (.inl (v',v2'))):zhT xd rv v v2=zhT xd rv v' v2':=zL (body:=fun s:((List za)×Int)=>zcL xd rv s.1 s.2) h
theorem ztk (h:zcL xd rv v v2=some (.inr oo_)):zhT xd rv v v2=some oo_:=zJ (body:=fun s:((List za)×Int)=>zcL xd rv s.1 s.2) h
theorem zpc (h:zaQ xc rv3 v2 v3=some (.inl (v2',v3'))):zfg xc rv3 v2 v3=zfg xc rv3 v2' v3':=zL (body:=fun s:((List zc)×Int)=>zaQ xc rv3 s.1 s.2) h
theorem zpd (h:zaQ xc rv3 v2 v3=some (.inr oo_)):zfg xc rv3 v2 v3=some oo_:=zJ (body:=fun s:((List zc)×Int)=>zaQ xc rv3 s.1 s.2) h
def zjt (fuel:Nat) (x:zc):Option zc:=
 zmw fuel x>>=fun rv=>
 if (!rv) then (
  some (⟨[],[]⟩:zc)
 ) else (
  zgs fuel x>>=fun rv2=>
  some rv2
 )
def zbr (av:zc) (b:zc) (xo:za->za->Option Bool) (i:Int):Option (Int⊕(Unit⊕Unit)):=
 if (decide (i<(av.Values.length:Int))) then (
  idx av.Values i>>=fun x=>
  idx b.Values i>>=fun x2=>
  xo x x2>>=fun rv=>
  if (!rv) then (
   some (.inr (.inr ()))
  ) else (
   some (.inl (IntKind.i64.wrap (i+1)))
  )
 ) else (
  some (.inr (.inl ()))
 )
def zey (av:zc) (b:zc) (xo:za->za->Option Bool) (i:Int):Option (Unit⊕Unit):=zaj (fun s:Int=>zbr av b xo s) i
def zbs (av:zc) (b:zc) (i2:Int):Option (Int⊕(Unit⊕Unit)):=
 if (decide (i2<(av.Unknown.length:Int))) then (
  idx av.Unknown i2>>=fun x3=>
  idx b.Unknown i2>>=fun x4=>
  if (!(x3==x4)) then (
   some (.inr (.inr ()))
  ) else (
   some (.inl (IntKind.i64.wrap (i2+1)))
  )
 ) else (
  some (.inr (.inl ()))
 )
def zez (av:zc) (b:zc) (i2:Int):Option (Unit⊕Unit):=zaj (fun s:Int=>zbs av b s) i2
def zgk (xn:zc->zc->Option Bool) (xo:za->za->Option Bool) (av:zc) (b:zc):Option Bool:=
 if (((av.Values.length:Int) !=(b.Values.length:Int))|| ((av.Unknown.length:Int) !=(b.Unknown.length:Int))) then (
  some false
 ) else (
  zey av b xo 0>>=fun q=>
  match q with
  | .inl u=>(
   zez av b 0>>=fun q2=>
   match q2 with
   | .inl u2=>(
    some true
   )
   | .inr u3=>(
    some false
   )
  )
  | .inr u4=>(
   some false
  )
 )
def zaB (av:za) (b:za) (i:Int):Option (Int⊕(Unit⊕Unit)):=
 if (decide (i<(av.Words.length:Int))) then (
  idx av.Words i>>=fun x=>
  idx b.Words i>>=fun x2=>
  if (x !=x2) then (
   some (.inr (.inr ()))
  ) else (
   some (.inl (IntKind.i64.wrap (i+1)))
  )
 ) else (
  some (.inr (.inl ()))
 )
def zcR (av:za) (b:za) (i:Int):Option (Unit⊕Unit):=zaj (fun s:Int=>zaB av b s) i
def zaC (av:za) (b:za) (i2:Int):Option (Int⊕(Unit⊕Unit)):=
 if (decide (i2<(av.Texts.length:Int))) then (
  idx av.Texts i2>>=fun x3=>
  idx b.Texts i2>>=fun x4=>
  if (!(x3==x4)) then (
   some (.inr (.inr ()))
  ) else (
   some (.inl (IntKind.i64.wrap (i2+1)))
  )
 ) else (
  some (.inr (.inl ()))
 )
def zcS (av:za) (b:za) (i2:Int):Option (Unit⊕Unit):=zaj (fun s:Int=>zaC av b s) i2
def zaD (av:za) (b:za) (xn:zc->zc->Option Bool) (i3:Int):Option (Int⊕(Unit⊕Unit)):=
 if (decide (i3<(av.Subs.length:Int))) then (
  idx av.Subs i3>>=fun x5=>
  idx b.Subs i3>>=fun x6=>
  xn x5 x6>>=fun rv=>
  if (!rv) then (
   some (.inr (.inr ()))
  ) else (
   some (.inl (IntKind.i64.wrap (i3+1)))
  )
 ) else (
  some (.inr (.inl ()))
 )
def zcT (av:za) (b:za) (xn:zc->zc->Option Bool) (i3:Int):Option (Unit⊕Unit):=zaj (fun s:Int=>zaD av b xn s) i3
def zed (xn:zc->zc->Option Bool) (xo:za->za->Option Bool) (av:za) (b:za):Option Bool:=
 if ((av.Number !=b.Number)|| (((av.Words.length:Int) !=(b.Words.length:Int))|| (((av.Texts.length:Int) !=(b.Texts.length:Int))|| ((av.Subs.length:Int) !=(b.Subs.length:Int))))) then (
  some false
 ) else (
  zcR av b 0>>=fun q=>
  match q with
  | .inl u=>(
   zcS av b 0>>=fun q2=>
   match q2 with
   | .inl u2=>(
    zcT av b xn 0>>=fun q3=>
    match q3 with
    | .inl u3=>(
     some true
    )
    | .inr u4=>(
     some false
    )
   )
   | .inr u5=>(
    some false
   )
  )
  | .inr u6=>(
   some false
  )
 )
def zav:Nat->(zc->zc->Option Bool)×(za->za->Option Bool)
  | 0=>(fun _ _=>none,fun _ _=>none)
  | fuel+1=>(fun av b=>zgk (zav fuel).1 (zav fuel).2 av b,fun av b=>zed (zav fuel).1 (zav fuel).2 av b)
def zbW (fuel:Nat):zc->zc->Option Bool:=(zav fuel).1
def zcX (fuel:Nat):za->za->Option Bool:=(zav fuel).2
theorem zoh (h:zbr av b xo i=some (.inl i')):zey av b xo i=zey av b xo i':=zL (body:=fun s:Int=>zbr av b xo s) h
theorem zjO (h:zbr av b xo i=some (.inr oo_)):zey av b xo i=some oo_:=zJ (body:=fun s:Int=>zbr av b xo s) h
theorem zoi (h:zbs av b i2=some (.inl i2')):zez av b i2=zez av b i2':=zL (body:=fun s:Int=>zbs av b s) h
theorem zjP (h:zbs av b i2=some (.inr oo_)):zez av b i2=some oo_:=zJ (body:=fun s:Int=>zbs av b s) h
theorem zlv (h:zaB av b i=some (.inl i')):zcR av b i=zcR av b i':=zL (body:=fun s:Int=>zaB av b s) h
theorem zib (h:zaB av b i=some (.inr oo_)):zcR av b i=some oo_:=zJ (body:=fun s:Int=>zaB av b s) h
theorem zlw (h:zaC av b i2=some (.inl i2')):zcS av b i2=zcS av b i2':=zL (body:=fun s:Int=>zaC av b s) h
theorem zic (h:zaC av b i2=some (.inr oo_)):zcS av b i2=some oo_:=zJ (body:=fun s:Int=>zaC av b s) h
theorem zlx (h:zaD av b xn i3=some (.inl i3')):zcT av b xn i3=zcT av b xn i3':=zL (body:=fun s:Int=>zaD av b xn s) h
theorem zid (h:zaD av b xn i3=some (.inr oo_)):zcT av b xn i3=some oo_:=zJ (body:=fun s:Int=>zaD av b xn s) h
def zbH (number:Int) (x:zc) (i:Int):Option (Int⊕(Unit⊕Int)):=
 if (decide (i<(x.Values.length:Int))) then (
  idx x.Values i>>=fun x2=>
  if (x2.Number==number) then (
   some (.inr (.inr i))
  ) else (
   some (.inl (IntKind.i64.wrap (i+1)))
  )
 ) else (
  some (.inr (.inl ()))
 )
def zfb (number:Int) (x:zc) (i:Int):Option (Unit⊕Int):=zaj (fun s:Int=>zbH number x s) i
def zhI (x:zc) (number:Int):Option Int:=
 zfb number x 0>>=fun q=>
 match q with
 | .inl u=>(
  some (-1)
 )
 | .inr u2=>(
  some u2
 )
theorem zoH (h:zbH number x i=some (.inl i')):zfb number x i=zfb number x i':=zL (body:=fun s:Int=>zbH number x s) h
theorem zkm (h:zbH number x i=some (.inr oo_)):zfb number x i=some oo_:=zJ (body:=fun s:Int=>zbH number x s) h
def ziN (fuel:Nat) (x:zc) (v:(List zf)) (v2:Int):Option Bool:=
 zlh fuel v v2 x>>=fun rv=>
 some (!rv)
def zG (fuel:Nat) (sv:(List zc)) (v:(List zf)) (v2:Int) (v3:Int):Option (Int⊕(Unit⊕Int)):=
 if (decide (v3<(sv.length:Int))) then (
  idx sv v3>>=fun x=>
  ziN fuel x v v2>>=fun rv=>
  if rv then (
   some (.inr (.inr v3))
  ) else (
   some (.inl (IntKind.i64.wrap (v3+1)))
  )
 ) else (
  some (.inr (.inl ()))
 )
def zK (fuel:Nat) (sv:(List zc)) (v:(List zf)) (v2:Int) (v3:Int):Option (Unit⊕Int):=zaj (fun s:Int=>zG fuel sv v v2 s) v3
def zaI (fuel:Nat) (sv:(List zc)) (v:(List zf)) (v2:Int):Option Int:=
 zK fuel sv v v2 0>>=fun q=>
 match q with
 | .inl u=>(
  some (-1)
 )
 | .inr u2=>(
  some u2
 )
theorem zfq {fuel:Nat} {sv:(List zc)} {v:(List zf)} {v2:Int} {v3:Int} {v3':Int} (h:zG fuel sv v v2 v3=some (.inl v3')):zK fuel sv v v2 v3=zK fuel sv v v2 v3':=zL (body:=fun s:Int=>zG fuel sv v v2 s) h
theorem zcC {fuel:Nat} {sv:(List zc)} {v:(List zf)} {v2:Int} {v3:Int} {oo_:(Unit⊕Int)} (h:zG fuel sv v v2 v3=some (.inr oo_)):zK fuel sv v v2 v3=some oo_:=zJ (body:=fun s:Int=>zG fuel sv v v2 s) h
def zao (fuel:Nat) (sv:(List zc)) (v:(List zf)) (v2:Int):Option Bool:=
 zaI fuel sv v v2>>=fun rv=>
 some (decide (rv>=0))
def zii (fuel:Nat) (sv:(List zf)) (root:Int) (l:(List zc)):Option Int:=
 zao fuel l sv root>>=fun rv=>
 if (!rv) then (
  some 0
 ) else (
  zjm sv>>=fun rv2=>
  if (!rv2) then (
   some 9
  ) else (
   if ((decide (root<0))|| (decide (root>=(sv.length:Int)))) then (
    some 2
   ) else (
    some 12
   )
  )
 )
def zcc (x:zc) (values:(List (Int×za))) (v:Int):Option (((List (Int×za))×Int)⊕(List (Int×za))):=
 if (decide (v<(x.Values.length:Int))) then (
  idx x.Values v>>=fun x2=>
  some (.inl ((mput values x2.Number x2),(IntKind.i64.wrap (v+1))))
 ) else (
  some (.inr values)
 )
def zeX (x:zc) (values:(List (Int×za))) (v:Int):Option (List (Int×za)):=zaj (fun s:((List (Int×za))×Int)=>zcc x s.1 s.2) (values,v)
def zhB (x:zc):Option (List (Int×za)):=
 zeX x ([]:(List (Int×za))) 0>>=fun q=>
 some q
theorem zoy {x:zc} {values:(List (Int×za))} {v:Int} {values':(List (Int×za))} {v':Int} (h:zcc x values v=some (.inl (values',v'))):zeX x values v=zeX x values' v':=zL (body:=fun s:((List (Int×za))×Int)=>zcc x s.1 s.2) h
theorem zoz {x:zc} {values:(List (Int×za))} {v:Int} {oo_:(List (Int×za))} (h:zcc x values v=some (.inr oo_)):zeX x values v=some oo_:=zJ (body:=fun s:((List (Int×za))×Int)=>zcc x s.1 s.2) h
def zhp (v:za):Option zc:=
 if ((v.Subs.length:Int)==0) then (
  some (⟨[],[]⟩:zc)
 ) else (
  idx v.Subs 0>>=fun x=>
  some x
 )
def ziA (m:zf) (number:Int):Option ze:=
 zgg m number>>=fun rv=>
 idx m.Fields rv.1>>=fun x=>
 some x
def zjL (number:Int) (x:zc):Option za:=
 some (⟨number,[],[],([x]:(List zc))⟩:za)
def zcx (v2:(List Int)) (values:(List (Int×za))) (l:(List za)) (v3:Int):Option (((List za)×Int)⊕(List za)):=
 if (decide (v3<(v2.length:Int))) then (
  idx v2 v3>>=fun x=>
  app 80 l ([((mget values x).getD (⟨0,[],[],[]⟩:za))]:(List za))>>=fun v4=>
  some (.inl (v4,(IntKind.i64.wrap (v3+1))))
 ) else (
  some (.inr l)
 )
def zfw (v2:(List Int)) (values:(List (Int×za))) (l:(List za)) (v3:Int):Option (List za):=zaj (fun s:((List za)×Int)=>zcx v2 values s.1 s.2) (l,v3)
def ziu (values:(List (Int×za))):Option (List za):=
 mkO 80 ((⟨0,[],[],[]⟩:za):za) 0 (values.length:Int)>>=fun v=>
 zwR values>>=fun v2=>
 zfw v2 values v 0>>=fun q=>
 some q
theorem zpl {v2:(List Int)} {values:(List (Int×za))} {l:(List za)} {v3:Int} {l':(List za)} {v3':Int} (h:zcx v2 values l v3=some (.inl (l',v3'))):zfw v2 values l v3=zfw v2 values l' v3':=zL (body:=fun s:((List za)×Int)=>zcx v2 values s.1 s.2) h
theorem zpm {v2:(List Int)} {values:(List (Int×za))} {l:(List za)} {v3:Int} {oo_:(List za)} (h:zcx v2 values l v3=some (.inr oo_)):zfw v2 values l v3=some oo_:=zJ (body:=fun s:((List za)×Int)=>zcx v2 values s.1 s.2) h
def zdv (b:zc) (message:Int) (xi:(List zf)->ze->za->za->Option za) (sv:(List zf)) (values:(List (Int×za))) (v:Int):Option (((List (Int×za))×Int)⊕(List (Int×za))):=
 if (decide (v<(b.Values.length:Int))) then (
  idx b.Values v>>=fun x=>
  if (mget values x.Number).isSome then (
   idx sv message>>=fun x2=>
   ziA x2 x.Number>>=fun rv2=>
   xi sv rv2 (⟨((mget values x.Number).getD (⟨0,[],[],[]⟩:za)).Number,((mget values x.Number).getD (⟨0,[],[],[]⟩:za)).Words,((mget values x.Number).getD (⟨0,[],[],[]⟩:za)).Texts,((mget values x.Number).getD (⟨0,[],[],[]⟩:za)).Subs⟩:za) x>>=fun rv3=>
   some (.inl ((mput values rv3.Number rv3),(IntKind.i64.wrap (v+1))))
  ) else (
   some (.inl ((mput values x.Number x),(IntKind.i64.wrap (v+1))))
  )
 ) else (
  some (.inr values)
 )
def zgW (b:zc) (message:Int) (xi:(List zf)->ze->za->za->Option za) (sv:(List zf)) (values:(List (Int×za))) (v:Int):Option (List (Int×za)):=zaj (fun s:((List (Int×za))×Int)=>zdv b message xi sv s.1 s.2) (values,v)
def ziR (xt:(List zf)->Int->zc->zc->Option zc) (xi:(List zf)->ze->za->za->Option za) (sv:(List zf)) (message:Int) (av:zc) (b:zc):Option zc:=
 zhB av>>=fun rv=>
 zgW b message xi sv rv 0>>=fun q=>
 ziu q>>=fun rv4=>
 zbV ([av.Unknown,b.Unknown]:(List (List Str)))>>=fun rv5=>
 some (⟨rv4,rv5⟩:zc)
def zfI (xt:(List zf)->Int->zc->zc->Option zc) (xi:(List zf)->ze->za->za->Option za) (sv:(List zf)) (f:ze) (v:za) (wv:za):Option za:=
 if f.Repeated then (
  zcG ([v.Words,wv.Words]:(List (List Int)))>>=fun rv=>
  zbV ([v.Texts,wv.Texts]:(List (List Str)))>>=fun rv2=>
  zbY ([v.Subs,wv.Subs]:(List (List zc)))>>=fun rv3=>
  some (⟨f.Number,rv,rv2,rv3⟩:za)
 ) else (
  if (f.Kind==17) then (
   zhp v>>=fun rv4=>
   zhp wv>>=fun rv5=>
   xt sv f.Of rv4 rv5>>=fun rv6=>
   zjL f.Number rv6>>=fun rv7=>
   some (⟨rv7.Number,[],[],rv7.Subs⟩:za)
  ) else (
   some wv
  )
 )
def zaU:Nat->((List zf)->Int->zc->zc->Option zc)×((List zf)->ze->za->za->Option za)
  | 0=>(fun _ _ _ _=>none,fun _ _ _ _=>none)
  | fuel+1=>(fun sv message av b=>ziR (zaU fuel).1 (zaU fuel).2 sv message av b,fun sv f v wv=>zfI (zaU fuel).1 (zaU fuel).2 sv f v wv)
def zji (fuel:Nat):(List zf)->Int->zc->zc->Option zc:=(zaU fuel).1
def zgy (fuel:Nat):(List zf)->ze->za->za->Option za:=(zaU fuel).2
theorem zsi {b:zc} {message:Int} {xi:(List zf)->ze->za->za->Option za} {sv:(List zf)} {values:(List (Int×za))} {v:Int} {values':(List (Int×za))} {v':Int} (h:zdv b message xi sv values v=some (.inl (values',v'))):zgW b message xi sv values v=zgW b message xi sv values' v':=zL (body:=fun s:((List (Int×za))×Int)=>zdv b message xi sv s.1 s.2) h
theorem zsj {b:zc} {message:Int} {xi:(List zf)->ze->za->za->Option za} {sv:(List zf)} {values:(List (Int×za))} {v:Int} {oo_:(List (Int×za))} (h:zdv b message xi sv values v=some (.inr oo_)):zgW b message xi sv values v=some oo_:=zJ (body:=fun s:((List (Int×za))×Int)=>zdv b message xi sv s.1 s.2) h
def zjh (fuel:Nat) (sv:(List zf)) (root:Int) (av:zc) (b:zc):Option (zc×Int):=
 zii fuel sv root ([av,b]:(List zc))>>=fun rv=>
 if (rv !=0) then (
  some ((⟨[],[]⟩:zc),rv)
 ) else (
  zji fuel sv root av b>>=fun rv2=>
  zjt fuel rv2>>=fun rv3=>
  some (rv3,0)
 )
def zcw (ways:(List (List Int))) (rests:(List (Int×(List (List Int))))) (v:Int):Option (((List (Int×(List (List Int))))×Int)⊕(List (Int×(List (List Int))))):=
 if (decide (v<(ways.length:Int))) then (
  idx ways v>>=fun x=>
  idx x 0>>=fun x2=>
  cut x 1 (x.length:Int)>>=fun v2=>
  app 24 ((mget rests x2).getD []) ([v2]:(List (List Int)))>>=fun v3=>
  some (.inl ((mput rests x2 v3),(IntKind.i64.wrap (v+1))))
 ) else (
  some (.inr rests)
 )
def zfv (ways:(List (List Int))) (rests:(List (Int×(List (List Int))))) (v:Int):Option (List (Int×(List (List Int)))):=zaj (fun s:((List (Int×(List (List Int))))×Int)=>zcw ways s.1 s.2) (rests,v)
def zit (ways:(List (List Int))):Option (List (Int×(List (List Int)))):=
 zfv ways ([]:(List (Int×(List (List Int))))) 0>>=fun q=>
 some q
theorem zpj {ways:(List (List Int))} {rests:(List (Int×(List (List Int))))} {v:Int} {rests':(List (Int×(List (List Int))))} {v':Int} (h:zcw ways rests v=some (.inl (rests',v'))):zfv ways rests v=zfv ways rests' v':=zL (body:=fun s:((List (Int×(List (List Int))))×Int)=>zcw ways s.1 s.2) h
theorem zpk {ways:(List (List Int))} {rests:(List (Int×(List (List Int))))} {v:Int} {oo_:(List (Int×(List (List Int))))} (h:zcw ways rests v=some (.inr oo_)):zfv ways rests v=some oo_:=zJ (body:=fun s:((List (Int×(List (List Int))))×Int)=>zcw ways s.1 s.2) h
def zdZ (keep:Bool) (message:Int) (xp:(List zf)->Int->zc->(List (List Int))->Bool->Option zc) (rv:(List (Int×(List (List Int))))) (sv:(List zf)) (x:zc) (v:Int) (f2:(List za)):Option ((Int×(List za))⊕(List za)):=
 if (decide (v<(x.Values.length:Int))) then (
  idx x.Values v>>=fun x2=>
  idx sv message>>=fun x3=>
  ziA x3 x2.Number>>=fun rv2=>
  (
   if ((((mget rv x2.Number).getD []).length:Int)==1) then (
    idx ((mget rv x2.Number).getD []) 0>>=fun x4=>
    some ((x4.length:Int)==0)
   ) else (
    some false
   )
  )>>=fun g=>
  if ((!g)&&((decide ((((mget rv x2.Number).getD []).length:Int)>0))&&((rv2.Kind==17)&&(!rv2.Repeated)))) then (
   zhp x2>>=fun rv3=>
   xp sv rv2.Of rv3 ((mget rv x2.Number).getD []) keep>>=fun rv4=>
   zjL x2.Number rv4>>=fun rv5=>
   app 80 f2 ([(⟨rv5.Number,[],[],rv5.Subs⟩:za)]:(List za))>>=fun v3=>
   some (.inl ((IntKind.i64.wrap (v+1)),v3))
  ) else (
   if (g==keep) then (
    app 80 f2 ([x2]:(List za))>>=fun v4=>
    some (.inl ((IntKind.i64.wrap (v+1)),v4))
   ) else (
    some (.inl ((IntKind.i64.wrap (v+1)),f2))
   )
  )
 ) else (
  some (.inr f2)
 )
def zhC (keep:Bool) (message:Int) (xp:(List zf)->Int->zc->(List (List Int))->Bool->Option zc) (rv:(List (Int×(List (List Int))))) (sv:(List zf)) (x:zc) (v:Int) (f2:(List za)):Option (List za):=zaj (fun s:(Int×(List za))=>zdZ keep message xp rv sv x s.1 s.2) (v,f2)
def zjK (xp:(List zf)->Int->zc->(List (List Int))->Bool->Option zc) (sv:(List zf)) (message:Int) (x:zc) (ways:(List (List Int))) (keep:Bool):Option zc:=
 ((
  if (!keep) then (
   some x.Unknown
  ) else (
   some []
  )
  :Option (List Str)))>>=fun p=>
 zit ways>>=fun rv=>
 zhC keep message xp rv sv x 0 []>>=fun q=>
 some (⟨q,p⟩:zc)
def ziP:Nat->(List zf)->Int->zc->(List (List Int))->Bool->Option zc
  | 0,_,_,_,_,_=>none
  | fuel+1,sv,message,x,ways,keep=>zjK (ziP fuel) sv message x ways keep
theorem zsD {keep:Bool} {message:Int} {xp:(List zf)->Int->zc->(List (List Int))->Bool->Option zc} {rv:(List (Int×(List (List Int))))} {sv:(List zf)} {x:zc} {v:Int} {f2:(List za)} {v':Int} {f2':(List za)} (h:zdZ keep message xp rv sv x v f2=some (.inl (v',f2'))):zhC keep message xp rv sv x v f2=zhC keep message xp rv sv x v' f2':=zL (body:=fun s:(Int×(List za))=>zdZ keep message xp rv sv x s.1 s.2) h
theorem zsE {keep:Bool} {message:Int} {xp:(List zf)->Int->zc->(List (List Int))->Bool->Option zc} {rv:(List (Int×(List (List Int))))} {sv:(List zf)} {x:zc} {v:Int} {f2:(List za)} {oo_:(List za)} (h:zdZ keep message xp rv sv x v f2=some (.inr oo_)):zhC keep message xp rv sv x v f2=some oo_:=zJ (body:=fun s:(Int×(List za))=>zdZ keep message xp rv sv x s.1 s.2) h
def ziO (fuel:Nat) (sv:(List zf)) (root:Int) (x:zc) (m:zkS) (keep:Bool):Option (zc×Int):=
 zii fuel sv root ([x]:(List zc))>>=fun rv=>
 if (rv !=0) then (
  some ((⟨[],[]⟩:zc),rv)
 ) else (
  zrX m.Ways>>=fun rv2=>
  ziP fuel sv root x rv2.Ways keep>>=fun rv3=>
  zjt fuel rv3>>=fun rv4=>
  some (rv4,0)
 )
def zjI (fuel:Nat) (sv:(List zf)) (root:Int) (x:zc) (m:zkS):Option (zc×Int):=
 ziO fuel sv root x m false>>=fun rv=>
 some (rv.1,rv.2)
mutual
def zhq:zc->zc
  | ⟨vs,_⟩=>⟨zdb vs,[]⟩
def zdb:List za->List za
  | []=>[]
  | v::l=>zge v::zdb l
def zge:za->za
  | ⟨n,w,t,s⟩=>⟨n,w,t,zen s⟩
def zen:List zc->List zc
  | []=>[]
  | x::l=>zhq x::zen l
end
def zjJ (fuel:Nat) (sv:(List zf)) (root:Int) (x:zc):Option (zc×Int):=
 zii fuel sv root ([x]:(List zc))>>=fun rv=>
 if (rv !=0) then (
  some ((⟨[],[]⟩:zc),rv)
 ) else (
  zjt fuel x>>=fun rv2=>
  some ((⟨(zdb rv2.Values),[]⟩:zc),0)
 )
def zgz (fuel:Nat):Option Bool:=
 zrX ([([1]:(List Int))]:(List (List Int)))>>=fun rv=>
 zjI fuel ([(⟨[109],([(⟨[97],1,3,false,false,0⟩:ze)]:(List ze))⟩:zf)]:(List zf)) 0 (⟨([(⟨1,([5]:(List Int)),[],[]⟩:za)]:(List za)),([[16,1]]:(List Str))⟩:zc) rv>>=fun rv2=>
 zjh fuel ([(⟨[109],([(⟨[97],1,3,false,false,0⟩:ze)]:(List ze))⟩:zf)]:(List zf)) 0 rv2.1 (⟨([(⟨1,([5]:(List Int)),[],[]⟩:za)]:(List za)),([[16,1]]:(List Str))⟩:zc)>>=fun rv3=>
 some (((IntKind.i64.wrap ((IntKind.i64.wrap rv2.2)+(IntKind.i64.wrap rv3.2)))==0)&&(((rv2.1.Values.length:Int)==0)&&(((rv2.1.Unknown.length:Int)==1)&&(((rv3.1.Values.length:Int)==1)&&((rv3.1.Unknown.length:Int)==2)))))
def zbG (fuel:Nat) (l:(List zc)) (i:Int):Option (Int⊕(Unit⊕Unit)):=
 if (decide (i<(l.length:Int))) then (
  idx l i>>=fun x=>
  zcp fuel x 70>>=fun rv=>
  if (decide (rv>2000)) then (
   some (.inr (.inr ()))
  ) else (
   some (.inl (IntKind.i64.wrap (i+1)))
  )
 ) else (
  some (.inr (.inl ()))
 )
def zfa (fuel:Nat) (l:(List zc)) (i:Int):Option (Unit⊕Unit):=zaj (fun s:Int=>zbG fuel l s) i
def zhG (fuel:Nat) (l:(List zc)):Option Bool:=
 zfa fuel l 0>>=fun q=>
 match q with
 | .inl u=>(
  some false
 )
 | .inr u2=>(
  some true
 )
theorem zoG {fuel:Nat} {l:(List zc)} {i:Int} {i':Int} (h:zbG fuel l i=some (.inl i')):zfa fuel l i=zfa fuel l i':=zL (body:=fun s:Int=>zbG fuel l s) h
theorem zkl {fuel:Nat} {l:(List zc)} {i:Int} {oo_:(Unit⊕Unit)} (h:zbG fuel l i=some (.inr oo_)):zfa fuel l i=some oo_:=zJ (body:=fun s:Int=>zbG fuel l s) h
def zbI (fuel:Nat) (l:(List zc)) (root:Int) (sv:(List zf)) (i:Int):Option (Int⊕(Unit⊕Unit)):=
 if (decide (i<(l.length:Int))) then (
  idx l i>>=fun x=>
  zcW fuel sv root x>>=fun rv2=>
  if (!rv2) then (
   some (.inr (.inr ()))
  ) else (
   some (.inl (IntKind.i64.wrap (i+1)))
  )
 ) else (
  some (.inr (.inl ()))
 )
def zfc (fuel:Nat) (l:(List zc)) (root:Int) (sv:(List zf)) (i:Int):Option (Unit⊕Unit):=zaj (fun s:Int=>zbI fuel l root sv s) i
def zgu (fuel:Nat) (sv:(List zf)) (root:Int) (l:(List zc)):Option Int:=
 zhh sv root>>=fun rv=>
 if (rv !=0) then (
  some rv
 ) else (
  zfc fuel l root sv 0>>=fun q=>
  match q with
  | .inl u=>(
   some 0
  )
  | .inr u2=>(
   some 12
  )
 )
theorem zoI {fuel:Nat} {l:(List zc)} {root:Int} {sv:(List zf)} {i:Int} {i':Int} (h:zbI fuel l root sv i=some (.inl i')):zfc fuel l root sv i=zfc fuel l root sv i':=zL (body:=fun s:Int=>zbI fuel l root sv s) h
theorem zkn {fuel:Nat} {l:(List zc)} {root:Int} {sv:(List zf)} {i:Int} {oo_:(Unit⊕Unit)} (h:zbI fuel l root sv i=some (.inr oo_)):zfc fuel l root sv i=some oo_:=zJ (body:=fun s:Int=>zbI fuel l root sv s) h
def zcf (v:za) (x:zc) (done:Bool) (i:Int) (f:(List za)):Option ((Bool×Int×(List za))⊕(Bool×(List za))):=
 if (decide (i<(x.Values.length:Int))) then (
  (
   if (!done) then (
    idx x.Values i>>=fun x2=>
    some (decide (x2.Number>=v.Number))
   ) else (
    some false
   )
  )>>=fun g=>
  ((
   if g then (
    app 80 f ([v]:(List za))>>=fun v3=>
    some (true,v3)
   ) else (
    some (done,f)
   )
   :Option (Bool×(List za))))>>=fun p=>
  idx x.Values i>>=fun x3=>
  if (x3.Number !=v.Number) then (
   idx x.Values i>>=fun x4=>
   app 80 p.2 ([x4]:(List za))>>=fun v4=>
   some (.inl (p.1,(IntKind.i64.wrap (i+1)),v4))
  ) else (
   some (.inl (p.1,(IntKind.i64.wrap (i+1)),p.2))
  )
 ) else (
  some (.inr (done,f))
 )
def zfd (v:za) (x:zc) (done:Bool) (i:Int) (f:(List za)):Option (Bool×(List za)):=zaj (fun s:(Bool×Int×(List za))=>zcf v x s.1 s.2.1 s.2.2) (done,i,f)
def zdy (x:zc) (v:za):Option zc:=
 zdf v>>=fun rv=>
 zfd v x (rv==0) 0 []>>=fun q=>
 if (!q.1) then (
  app 80 q.2 ([v]:(List za))>>=fun v5=>
  some (⟨v5,x.Unknown⟩:zc)
 ) else (
  some (⟨q.2,x.Unknown⟩:zc)
 )
theorem zoJ {v:za} {x:zc} {done:Bool} {i:Int} {f:(List za)} {done':Bool} {i':Int} {f':(List za)} (h:zcf v x done i f=some (.inl (done',i',f'))):zfd v x done i f=zfd v x done' i' f':=zL (body:=fun s:(Bool×Int×(List za))=>zcf v x s.1 s.2.1 s.2.2) h
theorem zoK {v:za} {x:zc} {done:Bool} {i:Int} {f:(List za)} {oo_:(Bool×(List za))} (h:zcf v x done i f=some (.inr oo_)):zfd v x done i f=some oo_:=zJ (body:=fun s:(Bool×Int×(List za))=>zcf v x s.1 s.2.1 s.2.2) h
def zbU (av:zc) (b:zc) (xq:(List zf)->Int->zc->zc->Option zc) (root:Int) (sv:(List zf)) (i:Int) (f:(List za)) (f2:(List Str)):Option ((Int×(List za)×(List Str))⊕((List za)×(List Str))):=
 if (decide (i<(b.Values.length:Int))) then (
  idx b.Values i>>=fun x=>
  idx sv root>>=fun x2=>
  idx sv root>>=fun x3=>
  zej x3 x.Number>>=fun rv=>
  idx x2.Fields rv>>=fun x4=>
  zhI av x.Number>>=fun rv2=>
  if (decide (rv2>=0)) then (
   idx av.Values rv2>>=fun x5=>
   if x4.Repeated then (
    app 8 ([]:(List Int)) x5.Words>>=fun v=>
    app 8 v x.Words>>=fun v2=>
    app 16 ([]:(List Str)) x5.Texts>>=fun v3=>
    app 16 v3 x.Texts>>=fun v4=>
    app 48 ([]:(List zc)) x5.Subs>>=fun v5=>
    app 48 v5 x.Subs>>=fun v6=>
    zdy (⟨f,f2⟩:zc) (⟨x.Number,v2,v4,v6⟩:za)>>=fun rv3=>
    some (.inl ((IntKind.i64.wrap (i+1)),rv3.Values,rv3.Unknown))
   ) else (
    if (x4.Kind==17) then (
     idx x5.Subs 0>>=fun x6=>
     idx x.Subs 0>>=fun x7=>
     xq sv x4.Of x6 x7>>=fun rv4=>
     zdy (⟨f,f2⟩:zc) (⟨x.Number,[],[],([rv4]:(List zc))⟩:za)>>=fun rv5=>
     some (.inl ((IntKind.i64.wrap (i+1)),rv5.Values,rv5.Unknown))
    ) else (
     zdy (⟨f,f2⟩:zc) x>>=fun rv6=>
     some (.inl ((IntKind.i64.wrap (i+1)),rv6.Values,rv6.Unknown))
    )
   )
  ) else (
   zdy (⟨f,f2⟩:zc) x>>=fun rv7=>
   some (.inl ((IntKind.i64.wrap (i+1)),rv7.Values,rv7.Unknown))
  )
 ) else (
  some (.inr (f,f2))
 )
def zeA (av:zc) (b:zc) (xq:(List zf)->Int->zc->zc->Option zc) (root:Int) (sv:(List zf)) (i:Int) (f:(List za)) (f2:(List Str)):Option ((List za)×(List Str)):=zaj (fun s:(Int×(List za)×(List Str))=>zbU av b xq root sv s.1 s.2.1 s.2.2) (i,f,f2)
def zgl (xq:(List zf)->Int->zc->zc->Option zc) (sv:(List zf)) (root:Int) (av:zc) (b:zc):Option zc:=
 zeA av b xq root sv 0 av.Values av.Unknown>>=fun q=>
 app 16 ([]:(List Str)) av.Unknown>>=fun v7=>
 app 16 v7 b.Unknown>>=fun v8=>
 some (⟨q.1,v8⟩:zc)
def zdK:Nat->(List zf)->Int->zc->zc->Option zc
  | 0,_,_,_,_=>none
  | fuel+1,sv,root,av,b=>zgl (zdK fuel) sv root av b
theorem zoj {av:zc} {b:zc} {xq:(List zf)->Int->zc->zc->Option zc} {root:Int} {sv:(List zf)} {i:Int} {f:(List za)} {f2:(List Str)} {i':Int} {f':(List za)} {f2':(List Str)} (h:zbU av b xq root sv i f f2=some (.inl (i',f',f2'))):zeA av b xq root sv i f f2=zeA av b xq root sv i' f' f2':=zL (body:=fun s:(Int×(List za)×(List Str))=>zbU av b xq root sv s.1 s.2.1 s.2.2) h
theorem zol {av:zc} {b:zc} {xq:(List zf)->Int->zc->zc->Option zc} {root:Int} {sv:(List zf)} {i:Int} {f:(List za)} {f2:(List Str)} {oo_:((List za)×(List Str))} (h:zbU av b xq root sv i f f2=some (.inr oo_)):zeA av b xq root sv i f f2=some oo_:=zJ (body:=fun s:(Int×(List za)×(List Str))=>zbU av b xq root sv s.1 s.2.1 s.2.2) h
def zbD (xb:zc->Option zc) (x2:za) (k:Int) (f3:(List zc)):Option ((Int×(List zc))⊕(List zc)):=
 if (decide (k<(x2.Subs.length:Int))) then (
  idx x2.Subs k>>=fun x3=>
  xb x3>>=fun rv=>
  app 48 f3 ([(⟨rv.Values,[]⟩:zc)]:(List zc))>>=fun v=>
  some (.inl ((IntKind.i64.wrap (k+1)),v))
 ) else (
  some (.inr f3)
 )
def zdV (xb:zc->Option zc) (x2:za) (k:Int) (f3:(List zc)):Option (List zc):=zaj (fun s:(Int×(List zc))=>zbD xb x2 s.1 s.2) (k,f3)
def zbC (xb:zc->Option zc) (x:zc) (i:Int) (f:(List za)):Option ((Int×(List za))⊕(List za)):=
 if (decide (i<(x.Values.length:Int))) then (
  idx x.Values i>>=fun x2=>
  zdV xb x2 0 []>>=fun q=>
  app 80 f ([(⟨x2.Number,x2.Words,x2.Texts,q⟩:za)]:(List za))>>=fun v2=>
  some (.inl ((IntKind.i64.wrap (i+1)),v2))
 ) else (
  some (.inr f)
 )
def zdU (xb:zc->Option zc) (x:zc) (i:Int) (f:(List za)):Option (List za):=zaj (fun s:(Int×(List za))=>zbC xb x s.1 s.2) (i,f)
def zfK (xb:zc->Option zc) (x:zc):Option zc:=
 zdU xb x 0 []>>=fun q2=>
 some (⟨q2,[]⟩:zc)
def zcz:Nat->zc->Option zc
  | 0,_=>none
  | fuel+1,x=>zfK (zcz fuel) x
theorem znt {xb:zc->Option zc} {x2:za} {k:Int} {f3:(List zc)} {k':Int} {f3':(List zc)} (h:zbD xb x2 k f3=some (.inl (k',f3'))):zdV xb x2 k f3=zdV xb x2 k' f3':=zL (body:=fun s:(Int×(List zc))=>zbD xb x2 s.1 s.2) h
theorem znu {xb:zc->Option zc} {x2:za} {k:Int} {f3:(List zc)} {oo_:(List zc)} (h:zbD xb x2 k f3=some (.inr oo_)):zdV xb x2 k f3=some oo_:=zJ (body:=fun s:(Int×(List zc))=>zbD xb x2 s.1 s.2) h
theorem znr {xb:zc->Option zc} {x:zc} {i:Int} {f:(List za)} {i':Int} {f':(List za)} (h:zbC xb x i f=some (.inl (i',f'))):zdU xb x i f=zdU xb x i' f':=zL (body:=fun s:(Int×(List za))=>zbC xb x s.1 s.2) h
theorem zns {xb:zc->Option zc} {x:zc} {i:Int} {f:(List za)} {oo_:(List za)} (h:zbC xb x i f=some (.inr oo_)):zdU xb x i f=some oo_:=zJ (body:=fun s:(Int×(List za))=>zbC xb x s.1 s.2) h
def zdC (fuel:Nat) (sv:(List zf)) (root:Int) (av:zc) (b:zc):Option Bool:=
 zgz fuel>>=fun rv=>
 if (!rv) then (
  some false
 ) else (
  (
   zhF sv>>=fun rv2=>
   if (!rv2) then (
    some true
   ) else (
    zhG fuel ([av,b]:(List zc))>>=fun rv3=>
    some rv3
   )
  )>>=fun g=>
  if g then (
   some true
  ) else (
   zcl fuel av>>=fun rv4=>
   zcl fuel b>>=fun rv5=>
   zjh fuel sv root av b>>=fun rv6=>
   zjJ fuel sv root av>>=fun rv7=>
   zgu fuel sv root ([rv4,rv5]:(List zc))>>=fun rv8=>
   ((
    if (rv8==0) then (
     zdK fuel sv root rv4 rv5>>=fun rv9=>
     some (rv9.Values,rv9.Unknown)
    ) else (
     some ([],[])
    )
    :Option ((List za)×(List Str))))>>=fun p=>
   zgu fuel sv root ([rv4]:(List zc))>>=fun rv10=>
   ((
    if (rv10==0) then (
     zcz fuel rv4>>=fun rv11=>
     some rv11.Values
    ) else (
     some []
    )
    :Option (List za)))>>=fun p2=>
   (
    if ((IntKind.i64.wrap rv6.2)==rv8) then (
     zcl fuel rv6.1>>=fun rv12=>
     zbW fuel rv12 (⟨p.1,p.2⟩:zc)>>=fun rv13=>
     if rv13 then (
      if ((IntKind.i64.wrap rv7.2)==rv10) then (
       zcl fuel (⟨rv7.1.Values,[]⟩:zc)>>=fun rv14=>
       zbW fuel rv14 (⟨p2,[]⟩:zc)>>=fun rv15=>
       if rv15 then (
        zcl fuel av>>=fun rv16=>
        zbW fuel rv16 rv4>>=fun rv17=>
        some rv17
       ) else (
        some false
       )
      ) else (
       some false
      )
     ) else (
      some false
     )
    ) else (
     some false
    )
   )>>=fun g2=>
   some g2
  )
 )
end
end Go.Proofs.YtekgmimingolbaaGreat
