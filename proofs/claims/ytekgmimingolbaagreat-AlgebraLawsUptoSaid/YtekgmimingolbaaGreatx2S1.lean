/-
  What the Go functions do, as plain functions. No condition.
-/
import Derived.Test.YtekgmimingolbaaGreatx2K2
set_option autoImplicit true
set_option relaxedAutoImplicit true
namespace Go.Proofs.YtekgmimingolbaaGreat
open Go
set_option linter.unusedVariables false
abbrev Str:=List UInt8
structure zHJ where
  a0:Str
  a1:Str
  a2:Str
  a3:Str
  a4:Str
  a5:Str
  a6:Str
  a7:Str
  a8:Str
  a9:Str
  a10:Str
  a11:Str
  a12:Str
  a13:Str
  a14:Str deriving DecidableEq
structure zad where
  Number:Int
  Wire:Int
  From:Int
  At:Int
  To:Int deriving DecidableEq
def zdb:Rp zad:=⟨5,true,fun x=>[.int .i64 x.Number,.int .i64 x.Wire,.int .i64 x.From,.int .i64 x.At,.int .i64 x.To],fun _=>rfl,by decide⟩
structure zky where
  Record:zad
  Field:Int
  Run:Bool deriving DecidableEq
structure zu where
  name:Str
  wire:Int deriving DecidableEq
def zD:Rp zu:=⟨2,true,fun x=>[.str x.name,.int .i64 x.wire],fun _=>rfl,by decide⟩
mutual
structure zb where
  Values:(List za)
  Unknown:(List Str)
structure za where
  Number:Int
  Words:(List Int)
  Texts:(List Str)
  Subs:(List zb)
end
mutual
def zgZ:zb->List LV
  | ⟨x0,x1⟩=>[.sl x0.length 4 (zdy x0),.sl x1.length Rp.str.size (x1.flatMap Rp.str.lv)]
def zgB:List zb->List LV
  | []=>[]
  | x::l=>zgZ x++zgB l
def zdH:za->List LV
  | ⟨x0,x1,x2,x3⟩=>[.int .i64 x0,.sl x1.length (Rp.int .u64).size (x1.flatMap (Rp.int .u64).lv),.sl x2.length Rp.str.size (x2.flatMap Rp.str.lv),.sl x3.length 2 (zgB x3)]
def zdy:List za->List LV
  | []=>[]
  | x::l=>zdH x++zdy l
end
theorem zpE (l:List zb):zgB l=l.flatMap zgZ:=by
  induction l with
  | nil=>rfl
  | cons x l ih=>rw [zgB,ih,xW]
def zd:Rp zb:=⟨2,true,zgZ,fun x=>by cases x;rfl,by decide⟩
theorem zkn (l:List za):zdy l=l.flatMap zdH:=by
  induction l with
  | nil=>rfl
  | cons x l ih=>rw [zdy,ih,xW]
def zc:Rp za:=⟨4,true,zdH,fun x=>by cases x;rfl,by decide⟩
theorem zn (x:zb):zd.lv x=[.sl x.Values.length zc.size (x.Values.flatMap zc.lv),.sl x.Unknown.length Rp.str.size (x.Unknown.flatMap Rp.str.lv)]:=by
  cases x;simp only [zd,zgZ,zkn,zc]<;>rfl
theorem zv (x:za):zc.lv x=[.int .i64 x.Number,.sl x.Words.length (Rp.int .u64).size (x.Words.flatMap (Rp.int .u64).lv),.sl x.Texts.length Rp.str.size (x.Texts.flatMap Rp.str.lv),.sl x.Subs.length zd.size (x.Subs.flatMap zd.lv)]:=by
  cases x;simp only [zc,zdH,zpE,zd]<;>rfl
structure ze where
  Name:Str
  Number:Int
  Kind:Int
  Repeated:Bool
  Packed:Bool
  Of:Int deriving DecidableEq
def zg:Rp ze:=⟨6,true,fun x=>[.str x.Name,.int .i64 x.Number,.int .i64 x.Kind,.bool x.Repeated,.bool x.Packed,.int .i64 x.Of],fun _=>rfl,by decide⟩
structure zf where
  Name:Str
  Fields:(List ze) deriving DecidableEq
def zi:Rp zf:=⟨2,true,fun x=>[.str x.Name,.sl x.Fields.length zg.size (x.Fields.flatMap zg.lv)],fun _=>rfl,by decide⟩
structure zbx where
  Number:Int
  Wire:Int deriving DecidableEq
def zfN:Rp zbx:=⟨2,true,fun x=>[.int .i64 x.Number,.int .i64 x.Wire],fun _=>rfl,by decide⟩
structure zm where
  message:Int
  name:Str deriving DecidableEq
def zr:Rp zm:=⟨2,true,fun x=>[.int .i64 x.message,.str x.name],fun _=>rfl,by decide⟩
structure zo where
  message:Int
  number:Int deriving DecidableEq
def zp:Rp zo:=⟨2,true,fun x=>[.int .i64 x.message,.int .i64 x.number],fun _=>rfl,by decide⟩
structure zbf where
  size:Int
  kinds:(List Int)
  names:(List (zm×Bool))
  numbers:(List (zo×Bool))
structure zbe where
  Message:Int
  Field:Int
  What:Int deriving DecidableEq
def zev:Rp zbe:=⟨3,true,fun x=>[.int .i64 x.Message,.int .i64 x.Field,.int .i64 x.What],fun _=>rfl,by decide⟩
structure zuB where
  number:Int
  wire:Int deriving DecidableEq
structure zuA where
  field:Int
  run:Bool
  e:Int deriving DecidableEq
structure zEP where
  R:zad
  Field:Int
  Run:Bool deriving DecidableEq
structure ziW where
  message:Int
  number:Int
  wire:Int deriving DecidableEq
structure zHc where
  s:(List zf)
  b:(List UInt8)
  met:(List (ziW×zky))
structure zCD where
  depth:Int
  place:Int
  e:Int deriving DecidableEq
structure zif where
  Ways:(List (List Int)) deriving DecidableEq
def zhN:Rp zif:=⟨1,true,fun x=>[.sl x.Ways.length (Rp.list (Rp.int .i64)).size (x.Ways.flatMap (Rp.list (Rp.int .i64)).lv)],fun _=>rfl,by decide⟩
structure zao where
  a0:Int
  a1:Int deriving DecidableEq
def zaS:Rp zao:=⟨2,true,fun x=>[.int .i64 x.a0,.int .i64 x.a1],fun _=>rfl,by decide⟩
noncomputable section
def zbL (sv:(List zb)):Option (List zb):=
 nilO sv (
  some []
 ) (
  app 48 ([]:(List zb)) sv>>=fun v=>
  some v
 )
def zbl (sv:(List za)):Option (List za):=
 nilO sv (
  some []
 ) (
  app 80 ([]:(List za)) sv>>=fun v=>
  some v
 )
def zbU (n:Int):Option (List zb):=
 if (decide (n<0)) then (
  none
 ) else (
  if (decide ((IntKind.i64.wrap (n - (IntKind.i64.wrap (0 - 0))))>0)) then (
   mkO 48 ((⟨[],[]⟩:zb):zb) (IntKind.i64.wrap (n - (IntKind.i64.wrap (0 - 0)))) (IntKind.i64.wrap (n - (IntKind.i64.wrap (0 - 0))))>>=fun v=>
   cut v 0 0>>=fun v2=>
   some v2
  ) else (
   some []
  )
 )
def zL (slices:(List (List zb))) (size:Int) (v:Int):Option ((Int×Int)⊕Int):=
 if (decide (v<(slices.length:Int))) then (
  idx slices v>>=fun x=>
  if (decide ((IntKind.i64.wrap (size+(x.length:Int)))<0)) then (
   none
  ) else (
   some (.inl ((IntKind.i64.wrap (size+(x.length:Int))),(IntKind.i64.wrap (v+1))))
  )
 ) else (
  some (.inr size)
 )
def zbm (slices:(List (List zb))) (size:Int) (v:Int):Option Int:=zaJ (fun s:(Int×Int)=>zL slices s.1 s.2) (size,v)
def zX (slices:(List (List zb))) (newslice:(List zb)) (v2:Int):Option (((List zb)×Int)⊕(List zb)):=
 if (decide (v2<(slices.length:Int))) then (
  idx slices v2>>=fun x2=>
  app 48 newslice x2>>=fun v3=>
  some (.inl (v3,(IntKind.i64.wrap (v2+1))))
 ) else (
  some (.inr newslice)
 )
def zbn (slices:(List (List zb))) (newslice:(List zb)) (v2:Int):Option (List zb):=zaJ (fun s:((List zb)×Int)=>zX slices s.1 s.2) (newslice,v2)
def zbD (slices:(List (List zb))):Option (List zb):=
 zbm slices 0 0>>=fun q=>
 zbU q>>=fun rv=>
 zbn slices rv 0>>=fun q2=>
 some q2
theorem zea {slices:(List (List zb))} {size:Int} {v:Int} {size':Int} {v':Int} (h:zL slices size v=some (.inl (size',v'))):zbm slices size v=zbm slices size' v':=zY (body:=fun s:(Int×Int)=>zL slices s.1 s.2) h
theorem zgM {slices:(List (List zb))} {size:Int} {v:Int} {oo_:Int} (h:zL slices size v=some (.inr oo_)):zbm slices size v=some oo_:=zZ (body:=fun s:(Int×Int)=>zL slices s.1 s.2) h
theorem zeb {slices:(List (List zb))} {newslice:(List zb)} {v2:Int} {newslice':(List zb)} {v2':Int} (h:zX slices newslice v2=some (.inl (newslice',v2'))):zbn slices newslice v2=zbn slices newslice' v2':=zY (body:=fun s:((List zb)×Int)=>zX slices s.1 s.2) h
theorem zgN {slices:(List (List zb))} {newslice:(List zb)} {v2:Int} {oo_:(List zb)} (h:zX slices newslice v2=some (.inr oo_)):zbn slices newslice v2=some oo_:=zZ (body:=fun s:((List zb)×Int)=>zX slices s.1 s.2) h
def zay (sv:(List Int)) (v:Int) (v2:Int):Option (Int⊕(Unit⊕Int)):=
 if (decide (v2<(sv.length:Int))) then (
  idx sv v2>>=fun x=>
  if (v==x) then (
   some (.inr (.inr v2))
  ) else (
   some (.inl (IntKind.i64.wrap (v2+1)))
  )
 ) else (
  some (.inr (.inl ()))
 )
def zcl (sv:(List Int)) (v:Int) (v2:Int):Option (Unit⊕Int):=zaJ (fun s:Int=>zay sv v s) v2
def zdw (sv:(List Int)) (v:Int):Option Int:=
 zcl sv v 0>>=fun q=>
 match q with
 | .inl u=>(
  some (-1)
 )
 | .inr u2=>(
  some u2
 )
theorem zjo (h:zay sv v v2=some (.inl v2')):zcl sv v v2=zcl sv v v2':=zY (body:=fun s:Int=>zay sv v s) h
theorem zgm (h:zay sv v v2=some (.inr oo_)):zcl sv v v2=some oo_:=zZ (body:=fun s:Int=>zay sv v s) h
def zcM (sv:(List Int)) (v:Int):Option Bool:=
 zdw sv v>>=fun rv=>
 some (decide (rv>=0))
def zhi (x:Int):Option Bool:=
 some (x !=x)
def zgb (x:Int) (y:Int):Option Int:=
 zhi x>>=fun rv=>
 zhi y>>=fun rv2=>
 if rv then (
  if rv2 then (
   some 0
  ) else (
   some (-1)
  )
 ) else (
  if rv2 then (
   some 1
  ) else (
   if (decide (x<y)) then (
    some (-1)
   ) else (
    if (decide (x>y)) then (
     some 1
    ) else (
     some 0
    )
   )
  )
 )
def zam (s1:(List Int)) (s2:(List Int)) (v:Int):Option (Int⊕(Unit⊕Int)):=
 if (decide (v<(s1.length:Int))) then (
  idx s1 v>>=fun x=>
  if (decide (v>=(s2.length:Int))) then (
   some (.inr (.inr 1))
  ) else (
   idx s2 v>>=fun x2=>
   zgb x x2>>=fun rv=>
   if (rv !=0) then (
    some (.inr (.inr rv))
   ) else (
    some (.inl (IntKind.i64.wrap (v+1)))
   )
  )
 ) else (
  some (.inr (.inl ()))
 )
def zbS (s1:(List Int)) (s2:(List Int)) (v:Int):Option (Unit⊕Int):=zaJ (fun s:Int=>zam s1 s2 s) v
def zcU (s1:(List Int)) (s2:(List Int)):Option Int:=
 zbS s1 s2 0>>=fun q=>
 match q with
 | .inl u=>(
  if (decide ((s1.length:Int)<(s2.length:Int))) then (
   some (-1)
  ) else (
   some 0
  )
 )
 | .inr u2=>(
  some u2
 )
theorem ziM {s1:(List Int)} {s2:(List Int)} {v:Int} {v':Int} (h:zam s1 s2 v=some (.inl v')):zbS s1 s2 v=zbS s1 s2 v':=zY (body:=fun s:Int=>zam s1 s2 s) h
theorem zcG {s1:(List Int)} {s2:(List Int)} {v:Int} {oo_:(Unit⊕Int)} (h:zam s1 s2 v=some (.inr oo_)):zbS s1 s2 v=some oo_:=zZ (body:=fun s:Int=>zam s1 s2 s) h
def zat (s1:(List Int)) (s2:(List Int)) (v:Int):Option (Int⊕(Unit⊕Unit)):=
 if (decide (v<(s1.length:Int))) then (
  idx s1 v>>=fun x=>
  idx s2 v>>=fun x2=>
  if (x !=x2) then (
   some (.inr (.inr ()))
  ) else (
   some (.inl (IntKind.i64.wrap (v+1)))
  )
 ) else (
  some (.inr (.inl ()))
 )
def zck (s1:(List Int)) (s2:(List Int)) (v:Int):Option (Unit⊕Unit):=zaJ (fun s:Int=>zat s1 s2 s) v
def zdu (s1:(List Int)) (s2:(List Int)):Option Bool:=
 if ((s1.length:Int) !=(s2.length:Int)) then (
  some false
 ) else (
  zck s1 s2 0>>=fun q=>
  match q with
  | .inl u=>(
   some true
  )
  | .inr u2=>(
   some false
  )
 )
theorem zjn {s1:(List Int)} {s2:(List Int)} {v:Int} {v':Int} (h:zat s1 s2 v=some (.inl v')):zck s1 s2 v=zck s1 s2 v':=zY (body:=fun s:Int=>zat s1 s2 s) h
theorem zgl {s1:(List Int)} {s2:(List Int)} {v:Int} {oo_:(Unit⊕Unit)} (h:zat s1 s2 v=some (.inr oo_)):zck s1 s2 v=some oo_:=zZ (body:=fun s:Int=>zat s1 s2 s) h
def zdt (sv:(List Int)):Option (List Int):=
 nilO sv (
  some []
 ) (
  app 8 ([]:(List Int)) sv>>=fun v=>
  some v
 )
def zag {σ:Type} (kf:(Rnd σ (List Int))) (v:(List (List Int))) (v2:Int) (sg2:σ):Option ((Int×σ)⊕(σ⊕σ)):=
 if (decide (v2<(v.length:Int))) then (
  idx v v2>>=fun x=>
  kf sg2 x>>=fun y=>
  if (!y.1) then (
   some (.inr (.inr y.2))
  ) else (
   some (.inl ((IntKind.i64.wrap (v2+1)),y.2))
  )
 ) else (
  some (.inr (.inl sg2))
 )
def zbc {σ:Type} (kf:(Rnd σ (List Int))) (v:(List (List Int))) (v2:Int) (sg2:σ):Option (σ⊕σ):=zaJ (fun s:(Int×σ)=>zag kf v s.1 s.2) (v2,sg2)
def zaX {σ:Type} (v:(List (List Int))) (kf:Rnd σ (List Int)) (sg:σ):Option σ:=
 zbc kf v 0 sg>>=fun q=>
 match q with
 | .inl u=>(
  some u
 )
 | .inr u2=>(
  some u2
 )
theorem zhH {σ:Type} {kf:(Rnd σ (List Int))} {v:(List (List Int))} {v2:Int} {sg2:σ} {v2':Int} {sg2':σ} (h:zag kf v v2 sg2=some (.inl (v2',sg2'))):zbc kf v v2 sg2=zbc kf v v2' sg2':=zY (body:=fun s:(Int×σ)=>zag kf v s.1 s.2) h
theorem zeM {σ:Type} {kf:(Rnd σ (List Int))} {v:(List (List Int))} {v2:Int} {sg2:σ} {oo_:(σ⊕σ)} (h:zag kf v v2 sg2=some (.inr oo_)):zbc kf v v2 sg2=some oo_:=zZ (body:=fun s:(Int×σ)=>zag kf v s.1 s.2) h
def zdj (sv:(List (List Int))):Option (List (List Int)):=
 some sv
def zM (f:(List (List Int))) (x:(List Int)):Option ((List (List Int))⊕Empty):=
 app 24 f ([x]:(List (List Int)))>>=fun v2=>
 some (.inl v2)
def zav (v:(List (List Int))):Option (List (List Int)):=
 zaX v (rnd (fun (s:(List (List Int))) (x:(List Int))=>zM s x)) (.inl [])>>=fun q=>
 match q with
 | .inl u=>(
  some u
 )
 | .inr j=>(
  nomatch j
 )
def zaL (v:(List (List Int))):Option (List (List Int)):=
 zav v>>=fun rv=>
 some rv
def zaZ (x:(List (List Int))):Option (List (List Int)):=zwQ x
def zO (v:(List (List Int))):Option (List (List Int)):=
 zaL v>>=fun rv=>
 zaZ rv>>=fun rv3=>
 some rv3
def zbF (sv:(List Str)):Option (List Str):=
 nilO sv (
  some []
 ) (
  app 16 ([]:(List Str)) sv>>=fun v=>
  some v
 )
def zcr (sv:(List Int)):Option (List Int):=
 nilO sv (
  some []
 ) (
  app 8 ([]:(List Int)) sv>>=fun v=>
  some v
 )
def zak (s1:(List Int)) (s2:(List Int)) (v:Int):Option (Int⊕(Unit⊕Unit)):=
 if (decide (v<(s1.length:Int))) then (
  idx s1 v>>=fun x=>
  idx s2 v>>=fun x2=>
  if (x !=x2) then (
   some (.inr (.inr ()))
  ) else (
   some (.inl (IntKind.i64.wrap (v+1)))
  )
 ) else (
  some (.inr (.inl ()))
 )
def zbp (s1:(List Int)) (s2:(List Int)) (v:Int):Option (Unit⊕Unit):=zaJ (fun s:Int=>zak s1 s2 s) v
def zcs (s1:(List Int)) (s2:(List Int)):Option Bool:=
 if ((s1.length:Int) !=(s2.length:Int)) then (
  some false
 ) else (
  zbp s1 s2 0>>=fun q=>
  match q with
  | .inl u=>(
   some true
  )
  | .inr u2=>(
   some false
  )
 )
theorem zhS (h:zak s1 s2 v=some (.inl v')):zbp s1 s2 v=zbp s1 s2 v':=zY (body:=fun s:Int=>zak s1 s2 s) h
theorem zeZ (h:zak s1 s2 v=some (.inr oo_)):zbp s1 s2 v=some oo_:=zZ (body:=fun s:Int=>zak s1 s2 s) h
def zaj (s1:(List Str)) (s2:(List Str)) (v:Int):Option (Int⊕(Unit⊕Unit)):=
 if (decide (v<(s1.length:Int))) then (
  idx s1 v>>=fun x=>
  idx s2 v>>=fun x2=>
  if (!(x==x2)) then (
   some (.inr (.inr ()))
  ) else (
   some (.inl (IntKind.i64.wrap (v+1)))
  )
 ) else (
  some (.inr (.inl ()))
 )
def zbo (s1:(List Str)) (s2:(List Str)) (v:Int):Option (Unit⊕Unit):=zaJ (fun s:Int=>zaj s1 s2 s) v
def zbG (s1:(List Str)) (s2:(List Str)):Option Bool:=
 if ((s1.length:Int) !=(s2.length:Int)) then (
  some false
 ) else (
  zbo s1 s2 0>>=fun q=>
  match q with
  | .inl u=>(
   some true
  )
  | .inr u2=>(
   some false
  )
 )
theorem zhR (h:zaj s1 s2 v=some (.inl v')):zbo s1 s2 v=zbo s1 s2 v':=zY (body:=fun s:Int=>zaj s1 s2 s) h
theorem zeY (h:zaj s1 s2 v=some (.inr oo_)):zbo s1 s2 v=some oo_:=zZ (body:=fun s:Int=>zaj s1 s2 s) h
def zcy (n:Int):Option (List Int):=
 if (decide (n<0)) then (
  none
 ) else (
  if (decide ((IntKind.i64.wrap (n - (IntKind.i64.wrap (0 - 0))))>0)) then (
   mkO 8 (0:Int) (IntKind.i64.wrap (n - (IntKind.i64.wrap (0 - 0)))) (IntKind.i64.wrap (n - (IntKind.i64.wrap (0 - 0))))>>=fun v=>
   cut v 0 0>>=fun v2=>
   some v2
  ) else (
   some []
  )
 )
def zR (slices:(List (List Int))) (size:Int) (v:Int):Option ((Int×Int)⊕Int):=
 if (decide (v<(slices.length:Int))) then (
  idx slices v>>=fun x=>
  if (decide ((IntKind.i64.wrap (size+(x.length:Int)))<0)) then (
   none
  ) else (
   some (.inl ((IntKind.i64.wrap (size+(x.length:Int))),(IntKind.i64.wrap (v+1))))
  )
 ) else (
  some (.inr size)
 )
def zbO (slices:(List (List Int))) (size:Int) (v:Int):Option Int:=zaJ (fun s:(Int×Int)=>zR slices s.1 s.2) (size,v)
def zaf (slices:(List (List Int))) (newslice:(List Int)) (v2:Int):Option (((List Int)×Int)⊕(List Int)):=
 if (decide (v2<(slices.length:Int))) then (
  idx slices v2>>=fun x2=>
  app 8 newslice x2>>=fun v3=>
  some (.inl (v3,(IntKind.i64.wrap (v2+1))))
 ) else (
  some (.inr newslice)
 )
def zbP (slices:(List (List Int))) (newslice:(List Int)) (v2:Int):Option (List Int):=zaJ (fun s:((List Int)×Int)=>zaf slices s.1 s.2) (newslice,v2)
def zcj (slices:(List (List Int))):Option (List Int):=
 zbO slices 0 0>>=fun q=>
 zcy q>>=fun rv=>
 zbP slices rv 0>>=fun q2=>
 some q2
theorem zeK {slices:(List (List Int))} {size:Int} {v:Int} {size':Int} {v':Int} (h:zR slices size v=some (.inl (size',v'))):zbO slices size v=zbO slices size' v':=zY (body:=fun s:(Int×Int)=>zR slices s.1 s.2) h
theorem zhF {slices:(List (List Int))} {size:Int} {v:Int} {oo_:Int} (h:zR slices size v=some (.inr oo_)):zbO slices size v=some oo_:=zZ (body:=fun s:(Int×Int)=>zR slices s.1 s.2) h
theorem zeL {slices:(List (List Int))} {newslice:(List Int)} {v2:Int} {newslice':(List Int)} {v2':Int} (h:zaf slices newslice v2=some (.inl (newslice',v2'))):zbP slices newslice v2=zbP slices newslice' v2':=zY (body:=fun s:((List Int)×Int)=>zaf slices s.1 s.2) h
theorem zhG {slices:(List (List Int))} {newslice:(List Int)} {v2:Int} {oo_:(List Int)} (h:zaf slices newslice v2=some (.inr oo_)):zbP slices newslice v2=some oo_:=zZ (body:=fun s:((List Int)×Int)=>zaf slices s.1 s.2) h
def zcx (n:Int):Option (List Str):=
 if (decide (n<0)) then (
  none
 ) else (
  if (decide ((IntKind.i64.wrap (n - (IntKind.i64.wrap (0 - 0))))>0)) then (
   mkO 16 ([]:Str) (IntKind.i64.wrap (n - (IntKind.i64.wrap (0 - 0)))) (IntKind.i64.wrap (n - (IntKind.i64.wrap (0 - 0))))>>=fun v=>
   cut v 0 0>>=fun v2=>
   some v2
  ) else (
   some []
  )
 )
def zQ (slices:(List (List Str))) (size:Int) (v:Int):Option ((Int×Int)⊕Int):=
 if (decide (v<(slices.length:Int))) then (
  idx slices v>>=fun x=>
  if (decide ((IntKind.i64.wrap (size+(x.length:Int)))<0)) then (
   none
  ) else (
   some (.inl ((IntKind.i64.wrap (size+(x.length:Int))),(IntKind.i64.wrap (v+1))))
  )
 ) else (
  some (.inr size)
 )
def zbM (slices:(List (List Str))) (size:Int) (v:Int):Option Int:=zaJ (fun s:(Int×Int)=>zQ slices s.1 s.2) (size,v)
def zae (slices:(List (List Str))) (newslice:(List Str)) (v2:Int):Option (((List Str)×Int)⊕(List Str)):=
 if (decide (v2<(slices.length:Int))) then (
  idx slices v2>>=fun x2=>
  app 16 newslice x2>>=fun v3=>
  some (.inl (v3,(IntKind.i64.wrap (v2+1))))
 ) else (
  some (.inr newslice)
 )
def zbN (slices:(List (List Str))) (newslice:(List Str)) (v2:Int):Option (List Str):=zaJ (fun s:((List Str)×Int)=>zae slices s.1 s.2) (newslice,v2)
def zbB (slices:(List (List Str))):Option (List Str):=
 zbM slices 0 0>>=fun q=>
 zcx q>>=fun rv=>
 zbN slices rv 0>>=fun q2=>
 some q2
theorem zeI {slices:(List (List Str))} {size:Int} {v:Int} {size':Int} {v':Int} (h:zQ slices size v=some (.inl (size',v'))):zbM slices size v=zbM slices size' v':=zY (body:=fun s:(Int×Int)=>zQ slices s.1 s.2) h
theorem zhC {slices:(List (List Str))} {size:Int} {v:Int} {oo_:Int} (h:zQ slices size v=some (.inr oo_)):zbM slices size v=some oo_:=zZ (body:=fun s:(Int×Int)=>zQ slices s.1 s.2) h
theorem zeJ {slices:(List (List Str))} {newslice:(List Str)} {v2:Int} {newslice':(List Str)} {v2':Int} (h:zae slices newslice v2=some (.inl (newslice',v2'))):zbN slices newslice v2=zbN slices newslice' v2':=zY (body:=fun s:((List Str)×Int)=>zae slices s.1 s.2) h
theorem zhD {slices:(List (List Str))} {newslice:(List Str)} {v2:Int} {oo_:(List Str)} (h:zae slices newslice v2=some (.inr oo_)):zbN slices newslice v2=some oo_:=zZ (body:=fun s:((List Str)×Int)=>zae slices s.1 s.2) h
def zjc (wv:Int):Option Int:=
 some (IntKind.u32.wrap wv)
def zjv (wv:Int):Option Int:=
 zjc wv>>=fun rv=>
 some (IntKind.i32.wrap rv)
def zjw (n:Int):Option Int:=
 some (IntKind.u64.wrap (IntKind.i64.wrap n))
def zcN (v:(List UInt8)) (wv:Int) (v2:Int):Option ((Int×Int)⊕(Unit⊕(Int×Int×Int))):=
 if (decide (v2<(v.length:Int))) then (
  idx v v2>>=fun x=>
  if ((v2==9)&&(decide ((x.toNat:Int)>1))) then (
   some (.inr (.inr (0,0,4)))
  ) else (
   shlO .u64 (IntKind.u64.wrap (andI .u8 (x.toNat:Int) 127)) (IntKind.i64.wrap (7*v2))>>=fun v4=>
   if (decide ((x.toNat:Int)<128)) then (
    some (.inr (.inr ((orI .u64 wv v4),(IntKind.i64.wrap (v2+1)),0)))
   ) else (
    some (.inl ((orI .u64 wv v4),(IntKind.i64.wrap (v2+1))))
   )
  )
 ) else (
  some (.inr (.inl ()))
 )
def zgt (v:(List UInt8)) (wv:Int) (v2:Int):Option (Unit⊕(Int×Int×Int)):=zaJ (fun s:(Int×Int)=>zcN v s.1 s.2) (wv,v2)
def zhu (b:(List UInt8)):Option (Int×Int×Int):=
 cut b 0 (if (10:Int)<(b.length:Int) then 10 else (b.length:Int))>>=fun v=>
 zgt v 0 0>>=fun q=>
 match q with
 | .inl u=>(
  some (0,0,3)
 )
 | .inr u2=>(
  some (u2.1,u2.2.1,u2.2.2)
 )
theorem zqb (h:zcN v wv v2=some (.inl (wv',v2'))):zgt v wv v2=zgt v wv' v2':=zY (body:=fun s:(Int×Int)=>zcN v s.1 s.2) h
theorem zin (h:zcN v wv v2=some (.inr oo_)):zgt v wv v2=some oo_:=zZ (body:=fun s:(Int×Int)=>zcN v s.1 s.2) h
def zjX (b:(List UInt8)):Option (Int×Int):=
 zhu b>>=fun rv=>
 some (rv.2.1,rv.2.2)
def zia (wire:Int):Option Bool:=
 if (wire==0) then (
  if (wire==0) then (
   some true
  ) else (
   some false
  )
 ) else (
  if (wire==1) then (
   if (wire==1) then (
    some true
   ) else (
    some false
   )
  ) else (
   if (wire==2) then (
    if (wire==2) then (
     some true
    ) else (
     some false
    )
   ) else (
    if (wire==5) then (
     some true
    ) else (
     some false
    )
   )
  )
 )
def zmq (t:zbx):Option Bool:=
 (
  if (decide (t.Number>=1)) then (
   if (decide (t.Number<=536870911)) then (
    zia t.Wire>>=fun rv=>
    some rv
   ) else (
    some false
   )
  ) else (
   some false
  )
 )>>=fun g=>
 some g
def zop (b:(List UInt8)):Option (zbx×Int×Int):=
 zhu b>>=fun rv=>
 if (rv.2.2 !=0) then (
  some ((⟨0,0⟩:zbx),0,rv.2.2)
 ) else (
  zmq (⟨(IntKind.i64.wrap (if (536870912:Int)<(shrI .u64 rv.1 3) then 536870912 else (shrI .u64 rv.1 3))),(IntKind.i64.wrap (andI .u64 rv.1 7))⟩:zbx)>>=fun rv2=>
  if (!rv2) then (
   some ((⟨0,0⟩:zbx),0,5)
  ) else (
   some ((⟨(IntKind.i64.wrap (if (536870912:Int)<(shrI .u64 rv.1 3) then 536870912 else (shrI .u64 rv.1 3))),(IntKind.i64.wrap (andI .u64 rv.1 7))⟩:zbx),rv.2.1,0)
  )
 )
def zqS (c:Int):Option (Int×Int):=
 if ((shrI .u8 c 7)==0) then (
  some (1,(IntKind.u32.wrap c))
 ) else (
  if ((shrI .u8 c 5)==6) then (
   some (2,(IntKind.u32.wrap (andI .u8 c 31)))
  ) else (
   if ((shrI .u8 c 4)==14) then (
    some (3,(IntKind.u32.wrap (andI .u8 c 15)))
   ) else (
    if ((shrI .u8 c 3)==30) then (
     some (4,(IntKind.u32.wrap (andI .u8 c 7)))
    ) else (
     some (0,0)
    )
   )
  )
 )
def zmy (wv:Int):Option Int:=
 if ((shrI .u32 wv 7)==0) then (
  some 1
 ) else (
  if ((shrI .u32 wv 11)==0) then (
   some 2
  ) else (
   if ((shrI .u32 wv 11)==27) then (
    some 0
   ) else (
    if ((shrI .u32 wv 16)==0) then (
     some 3
    ) else (
     if (decide (wv<=1114111)) then (
      some 4
     ) else (
      some 0
     )
    )
   )
  )
 )
def zeD (v2:(List UInt8)) (wv:Int) (v3:Int):Option ((Int×Int)⊕(Int⊕Unit)):=
 if (decide (v3<(v2.length:Int))) then (
  idx v2 v3>>=fun x2=>
  if ((shrI .u8 (x2.toNat:Int) 6) !=2) then (
   some (.inr (.inr ()))
  ) else (
   some (.inl ((orI .u32 (shlI .u32 wv 6) (IntKind.u32.wrap (andI .u8 (x2.toNat:Int) 63))),(IntKind.i64.wrap (v3+1))))
  )
 ) else (
  some (.inr (.inl wv))
 )
def zcY (v2:(List UInt8)) (wv:Int) (v3:Int):Option (Int⊕Unit):=zaJ (fun s:(Int×Int)=>zeD v2 s.1 s.2) (wv,v3)
def zmx (b:(List UInt8)):Option Int:=
 if ((b.length:Int)==0) then (
  some 0
 ) else (
  idx b 0>>=fun x=>
  zqS (x.toNat:Int)>>=fun rv=>
  if ((rv.1==0)|| (decide (rv.1>(b.length:Int)))) then (
   some 0
  ) else (
   cut b 1 rv.1>>=fun v2=>
   zcY v2 rv.2 0>>=fun q=>
   match q with
   | .inl u=>(
    zmy u>>=fun rv2=>
    if (rv.1 !=rv2) then (
     some 0
    ) else (
     some rv.1
    )
   )
   | .inr u2=>(
    some 0
   )
  )
 )
theorem zsp (h:zeD v2 wv v3=some (.inl (wv',v3'))):zcY v2 wv v3=zcY v2 wv' v3':=zY (body:=fun s:(Int×Int)=>zeD v2 s.1 s.2) h
theorem znl (h:zeD v2 wv v3=some (.inr oo_)):zcY v2 wv v3=some oo_:=zZ (body:=fun s:(Int×Int)=>zeD v2 s.1 s.2) h
def zfg (b:(List UInt8)) (atv:Int) (points:Int) (size:Int):Option ((Int×Int×Int)⊕(Int×Int)):=
 if (decide (size>0)) then (
  cut b (IntKind.i64.wrap (atv+size)) (b.length:Int)>>=fun v=>
  zmx v>>=fun rv2=>
  some (.inl ((IntKind.i64.wrap (atv+size)),(IntKind.i64.wrap (points+1)),rv2))
 ) else (
  some (.inr (atv,points))
 )
def zht (b:(List UInt8)) (atv:Int) (points:Int) (size:Int):Option (Int×Int):=zaJ (fun s:(Int×Int×Int)=>zfg b s.1 s.2.1 s.2.2) (atv,points,size)
def zow (b:(List UInt8)):Option (Int×Int):=
 zmx b>>=fun rv=>
 zht b 0 0 rv>>=fun q=>
 some (q.1,q.2)
theorem zsq (h:zfg b atv points size=some (.inl (atv',points',size'))):zht b atv points size=zht b atv' points' size':=zY (body:=fun s:(Int×Int×Int)=>zfg b s.1 s.2.1 s.2.2) h
theorem zsr (h:zfg b atv points size=some (.inr oo_)):zht b atv points size=some oo_:=zZ (body:=fun s:(Int×Int×Int)=>zfg b s.1 s.2.1 s.2.2) h
def zmv (b:(List UInt8)):Option Int:=
 zow b>>=fun rv=>
 some rv.1
def zmw (b:(List UInt8)):Option Bool:=
 zmv b>>=fun rv=>
 some (rv==(b.length:Int))
def zjP (wire:Int) (b:(List UInt8)):Option (Int×Int×Int):=
 if (wire==0) then (
  zjX b>>=fun rv=>
  some (0,rv.1,rv.2)
 ) else (
  ((
   if (wire==1) then (
    some (0,0,8)
   ) else (
    if (wire==5) then (
     some (0,0,4)
    ) else (
     if (wire==2) then (
      zhu b>>=fun rv2=>
      some (rv2.2.1,rv2.2.2,rv2.1)
     ) else (
      some (0,0,0)
     )
    )
   )
   :Option (Int×Int×Int)))>>=fun p=>
  if (p.2.1 !=0) then (
   some (0,0,p.2.1)
  ) else (
   if (decide (p.2.2>(IntKind.u64.wrap (IntKind.i64.wrap ((b.length:Int) - p.1))))) then (
    some (0,0,3)
   ) else (
    some (p.1,(IntKind.i64.wrap (p.1+(IntKind.i64.wrap p.2.2))),0)
   )
  )
 )
def zjO (b:(List UInt8)) (fromv:Int):Option (zad×Int):=
 if ((decide (fromv<0))|| (decide (fromv>=(b.length:Int)))) then (
  some ((⟨0,0,0,0,0⟩:zad),2)
 ) else (
  cut b fromv (b.length:Int)>>=fun v2=>
  zop v2>>=fun rv=>
  if (rv.2.2 !=0) then (
   some ((⟨0,0,0,0,0⟩:zad),rv.2.2)
  ) else (
   cut b (IntKind.i64.wrap (fromv+rv.2.1)) (b.length:Int)>>=fun v3=>
   zjP rv.1.Wire v3>>=fun rv2=>
   if (rv2.2.2 !=0) then (
    some ((⟨0,0,0,0,0⟩:zad),rv2.2.2)
   ) else (
    some ((⟨rv.1.Number,rv.1.Wire,fromv,(IntKind.i64.wrap ((IntKind.i64.wrap (fromv+rv.2.1))+rv2.1)),(IntKind.i64.wrap ((IntKind.i64.wrap (fromv+rv.2.1))+rv2.2.1))⟩:zad),0)
   )
  )
 )
def zmL (wv:Int):Option Int:=
 some (if (1:Int)<wv then 1 else wv)
def zkK (k:Int) (wv:Int):Option (Int×Int):=
 ((
  if (k==1) then (
   some (k==1)
  ) else (
   some (k==8)
  )
  :Option Bool))>>=fun p=>
 if p then (
  zjv wv>>=fun rv=>
  zjw rv>>=fun rv2=>
  some (rv2,0)
 ) else (
  ((
   if (k==3) then (
    some (k==3)
   ) else (
    if (k==5) then (
     some (k==5)
    ) else (
     if (k==9) then (
      some (k==9)
     ) else (
      if (k==10) then (
       some (k==10)
      ) else (
       some (k==11)
      )
     )
    )
   )
   :Option Bool))>>=fun p2=>
  if p2 then (
   zjc wv>>=fun rv3=>
   some ((IntKind.u64.wrap rv3),0)
  ) else (
   if (k==7) then (
    zmL wv>>=fun rv4=>
    some (rv4,0)
   ) else (
    ((
     if (k==2) then (
      some (k==2)
     ) else (
      if (k==4) then (
       some (k==4)
      ) else (
       if (k==6) then (
        some (k==6)
       ) else (
        if (k==12) then (
         some (k==12)
        ) else (
         if (k==13) then (
          some (k==13)
         ) else (
          some (k==14)
         )
        )
       )
      )
     )
     :Option Bool))>>=fun p3=>
    if p3 then (
     some (wv,0)
    ) else (
     some (0,2)
    )
   )
  )
 )
def zkL:Option (List (Int×zu)):=
 some (mput (mput (mput (mput (mput (mput (mput (mput (mput (mput (mput (mput (mput (mput (mput (mput (mput ([]:(List (Int×zu))) 1 (⟨[105,110,116,51,50],0⟩:zu)) 2 (⟨[105,110,116,54,52],0⟩:zu)) 3 (⟨[117,105,110,116,51,50],0⟩:zu)) 4 (⟨[117,105,110,116,54,52],0⟩:zu)) 5 (⟨[115,105,110,116,51,50],0⟩:zu)) 6 (⟨[115,105,110,116,54,52],0⟩:zu)) 7 (⟨[98,111,111,108],0⟩:zu)) 8 (⟨[101,110,117,109],0⟩:zu)) 9 (⟨[102,105,120,101,100,51,50],5⟩:zu)) 10 (⟨[115,102,105,120,101,100,51,50],5⟩:zu)) 11 (⟨[102,108,111,97,116],5⟩:zu)) 12 (⟨[102,105,120,101,100,54,52],1⟩:zu)) 13 (⟨[115,102,105,120,101,100,54,52],1⟩:zu)) 14 (⟨[100,111,117,98,108,101],1⟩:zu)) 15 (⟨[115,116,114,105,110,103],2⟩:zu)) 16 (⟨[98,121,116,101,115],2⟩:zu)) 17 (⟨[109,101,115,115,97,103,101],2⟩:zu))
def znO:Option (List Int):=
 zkL>>=fun rv=>
 ztv rv>>=fun v=>
 some v
def zmd (k:Int):Option (Int×Int):=
 zkL>>=fun rv=>
 if (!(mget rv k).isSome) then (
  some (0,2)
 ) else (
  some (((mget rv k).getD (⟨[],0⟩:zu)).wire,0)
 )
def zjJ (k:Int):Option Bool:=
 zmd k>>=fun rv=>
 some ((rv.2==0)&&(rv.1 !=2))
def zgk (c:Int):Option Bool:=
 some ((decide (c>=48))&&(decide (c<=57)))
def zgK (c:Int):Option Bool:=
 some (if (decide (c>=97)) then ((decide (c<=122))|| (if (decide (c>=65)) then ((decide (c<=90))|| (c==95)) else (c==95))) else (if (decide (c>=65)) then ((decide (c<=90))|| (c==95)) else (c==95)))
def zci (name:Str) (v2:Int):Option (Int⊕(Unit⊕Unit)):=
 if (decide (v2<(name.length:Int))) then (
  (
   idx name v2>>=fun c2=>
   zgK (c2.toNat:Int)>>=fun rv2=>
   if (!rv2) then (
    idx name v2>>=fun c3=>
    zgk (c3.toNat:Int)>>=fun rv3=>
    some (!rv3)
   ) else (
    some false
   )
  )>>=fun g2=>
  if g2 then (
   some (.inr (.inr ()))
  ) else (
   some (.inl (IntKind.i64.wrap (v2+1)))
  )
 ) else (
  some (.inr (.inl ()))
 )
def zfk (name:Str) (v2:Int):Option (Unit⊕Unit):=zaJ (fun s:Int=>zci name s) v2
def zgU (name:Str):Option Bool:=
 (
  if (name==[]) then (
   some true
  ) else (
   if (decide ((name.length:Int)>60)) then (
    some true
   ) else (
    idx name 0>>=fun c=>
    zgk (c.toNat:Int)>>=fun rv=>
    some rv
   )
  )
 )>>=fun g=>
 if g then (
  some false
 ) else (
  zfk name 0>>=fun q=>
  match q with
  | .inl u=>(
   some true
  )
  | .inr u2=>(
   some false
  )
 )
theorem zon (h:zci name v2=some (.inl v2')):zfk name v2=zfk name v2':=zY (body:=fun s:Int=>zci name s) h
theorem zjS (h:zci name v2=some (.inr oo_)):zfk name v2=some oo_:=zZ (body:=fun s:Int=>zci name s) h
def zgL (n:Int):Option Bool:=
 some ((decide (n>=1))&&((decide (n<=536870911))&&((decide (n<19000))|| (decide (n>19999)))))
def zhn (f:ze):Option Bool:=
 (
  if f.Repeated then (
   zjJ f.Kind>>=fun rv=>
   some rv
  ) else (
   some false
  )
 )>>=fun g=>
 some g
def zfr (c:zbf) (f:ze):Option Bool:=
 if (f.Kind==17) then (
  some ((decide (f.Of>=0))&&(decide (f.Of<c.size)))
 ) else (
  some (f.Of==0)
 )
def zfq (c:zbf) (message:Int) (f:ze):Option (Int×(List (zm×Bool))×(List (zo×Bool))):=
 zgU f.Name>>=fun rv=>
 if (!rv) then (
  some (5,c.names,c.numbers)
 ) else (
  if ((mget c.names (⟨message,f.Name⟩:zm)).getD false) then (
   some (6,c.names,c.numbers)
  ) else (
   zgL f.Number>>=fun rv2=>
   if (!rv2) then (
    some (7,c.names,c.numbers)
   ) else (
    if ((mget c.numbers (⟨message,f.Number⟩:zo)).getD false) then (
     some (8,c.names,c.numbers)
    ) else (
     zcM c.kinds f.Kind>>=fun rv3=>
     if (!rv3) then (
      some (9,c.names,c.numbers)
     ) else (
      (
       if f.Packed then (
        zhn f>>=fun rv4=>
        some (!rv4)
       ) else (
        some false
       )
      )>>=fun g=>
      if g then (
       some (10,c.names,c.numbers)
      ) else (
       zfr c f>>=fun rv5=>
       if (!rv5) then (
        some (11,c.names,c.numbers)
       ) else (
        some (0,(mput c.names (⟨message,f.Name⟩:zm) true),(mput c.numbers (⟨message,f.Number⟩:zo) true))
       )
      )
     )
    )
   )
  )
 )
def zez (c:zbf) (m:zf):Option (Int×(List (zm×Bool))×(List (zo×Bool))):=
 zgU m.Name>>=fun rv=>
 if (!rv) then (
  some (2,c.names,c.numbers)
 ) else (
  if ((mget c.names (⟨(-1),m.Name⟩:zm)).getD false) then (
   some (3,c.names,c.numbers)
  ) else (
   if (decide ((m.Fields.length:Int)>200)) then (
    some (4,c.names,c.numbers)
   ) else (
    some (0,(mput c.names (⟨(-1),m.Name⟩:zm) true),c.numbers)
   )
  )
 )
def zbK (i:Int) (sv:(List zf)) (n3:Int) (k:Int):Option ((Int×Int)⊕Int):=
 idx sv i>>=fun x3=>
 if (decide (k<(x3.Fields.length:Int))) then (
  idx sv i>>=fun x4=>
  idx x4.Fields k>>=fun x5=>
  some (.inl ((IntKind.i64.wrap (n3+(IntKind.i64.wrap (Int.tdiv (x5.Name.length:Int) 100)))),(IntKind.i64.wrap (k+1))))
 ) else (
  some (.inr n3)
 )
def zdO (i:Int) (sv:(List zf)) (n3:Int) (k:Int):Option Int:=zaJ (fun s:(Int×Int)=>zbK i sv s.1 s.2) (n3,k)
def zbJ (sv:(List zf)) (n:Int) (i:Int):Option ((Int×Int)⊕Int):=
 if (decide (i<(sv.length:Int))) then (
  idx sv i>>=fun x=>
  idx sv i>>=fun x2=>
  zdO i sv (IntKind.i64.wrap ((IntKind.i64.wrap ((IntKind.i64.wrap (n+1))+(IntKind.i64.wrap (Int.tdiv (x.Name.length:Int) 100))))+(x2.Fields.length:Int))) 0>>=fun q=>
  some (.inl (q,(IntKind.i64.wrap (i+1))))
 ) else (
  some (.inr n)
 )
def zdN (sv:(List zf)) (n:Int) (i:Int):Option Int:=zaJ (fun s:(Int×Int)=>zbJ sv s.1 s.2) (n,i)
def zgc (sv:(List zf)):Option Bool:=
 zdN sv 0 0>>=fun q2=>
 some (decide (q2<=500))
theorem zlX (h:zbK i sv n3 k=some (.inl (n3',k'))):zdO i sv n3 k=zdO i sv n3' k':=zY (body:=fun s:(Int×Int)=>zbK i sv s.1 s.2) h
theorem zlY (h:zbK i sv n3 k=some (.inr oo_)):zdO i sv n3 k=some oo_:=zZ (body:=fun s:(Int×Int)=>zbK i sv s.1 s.2) h
theorem zlV (h:zbJ sv n i=some (.inl (n',i'))):zdN sv n i=zdN sv n' i':=zY (body:=fun s:(Int×Int)=>zbJ sv s.1 s.2) h
theorem zlW (h:zbJ sv n i=some (.inr oo_)):zdN sv n i=some oo_:=zZ (body:=fun s:(Int×Int)=>zbJ sv s.1 s.2) h
def zcf (rv:(List Int)) (sv:(List zf)) (v2:Int) (x:zf) (v3:Int) (f6:(List (zm×Bool))) (f7:(List (zo×Bool))):Option ((Int×(List (zm×Bool))×(List (zo×Bool)))⊕(((List (zm×Bool))×(List (zo×Bool)))⊕(Int×Int))):=
 if (decide (v3<(x.Fields.length:Int))) then (
  idx x.Fields v3>>=fun x2=>
  zfq (⟨(sv.length:Int),rv,f6,f7⟩:zbf) v2 x2>>=fun rv5=>
  if (rv5.1 !=0) then (
   some (.inr (.inr (v3,rv5.1)))
  ) else (
   some (.inl ((IntKind.i64.wrap (v3+1)),rv5.2.1,rv5.2.2))
  )
 ) else (
  some (.inr (.inl (f6,f7)))
 )
def zdZ (rv:(List Int)) (sv:(List zf)) (v2:Int) (x:zf) (v3:Int) (f6:(List (zm×Bool))) (f7:(List (zo×Bool))):Option (((List (zm×Bool))×(List (zo×Bool)))⊕(Int×Int)):=zaJ (fun s:(Int×(List (zm×Bool))×(List (zo×Bool)))=>zcf rv sv v2 x s.1 s.2.1 s.2.2) (v3,f6,f7)
def zbr (rv:(List Int)) (sv:(List zf)) (v2:Int) (f:(List (zm×Bool))) (f2:(List (zo×Bool))):Option ((Int×(List (zm×Bool))×(List (zo×Bool)))⊕(Unit⊕(Int×Int×Int))):=
 if (decide (v2<(sv.length:Int))) then (
  idx sv v2>>=fun x=>
  zez (⟨(sv.length:Int),rv,f,f2⟩:zbf) x>>=fun rv3=>
  if (rv3.1 !=0) then (
   some (.inr (.inr (v2,(-1),rv3.1)))
  ) else (
   zdZ rv sv v2 x 0 rv3.2.1 rv3.2.2>>=fun q=>
   match q with
   | .inl u=>(
    some (.inl ((IntKind.i64.wrap (v2+1)),u.1,u.2))
   )
   | .inr u2=>(
    some (.inr (.inr (v2,u2.1,u2.2)))
   )
  )
 ) else (
  some (.inr (.inl ()))
 )
def zfC (rv:(List Int)) (sv:(List zf)) (v2:Int) (f:(List (zm×Bool))) (f2:(List (zo×Bool))):Option (Unit⊕(Int×Int×Int)):=zaJ (fun s:(Int×(List (zm×Bool))×(List (zo×Bool)))=>zbr rv sv s.1 s.2.1 s.2.2) (v2,f,f2)
def ziL (sv:(List zf)):Option (zbe×Int):=
 if ((decide ((sv.length:Int)<1))|| (decide ((sv.length:Int)>100))) then (
  some ((⟨(-1),(-1),1⟩:zbe),9)
 ) else (
  znO>>=fun rv=>
  zfC rv sv 0 ([]:(List (zm×Bool))) ([]:(List (zo×Bool)))>>=fun q2=>
  match q2 with
  | .inl u3=>(
   some ((⟨0,0,0⟩:zbe),0)
  )
  | .inr u4=>(
   some ((⟨u4.1,u4.2.1,u4.2.2⟩:zbe),9)
  )
 )
theorem zpi (h:zcf rv sv v2 x v3 f6 f7=some (.inl (v3',f6',f7'))):zdZ rv sv v2 x v3 f6 f7=zdZ rv sv v2 x v3' f6' f7':=zY (body:=fun s:(Int×(List (zm×Bool))×(List (zo×Bool)))=>zcf rv sv v2 x s.1 s.2.1 s.2.2) h
theorem zki (h:zcf rv sv v2 x v3 f6 f7=some (.inr oo_)):zdZ rv sv v2 x v3 f6 f7=some oo_:=zZ (body:=fun s:(Int×(List (zm×Bool))×(List (zo×Bool)))=>zcf rv sv v2 x s.1 s.2.1 s.2.2) h
theorem zph (h:zbr rv sv v2 f f2=some (.inl (v2',f',f2'))):zfC rv sv v2 f f2=zfC rv sv v2' f' f2':=zY (body:=fun s:(Int×(List (zm×Bool))×(List (zo×Bool)))=>zbr rv sv s.1 s.2.1 s.2.2) h
theorem zeW (h:zbr rv sv v2 f f2=some (.inr oo_)):zfC rv sv v2 f f2=some oo_:=zZ (body:=fun s:(Int×(List (zm×Bool))×(List (zo×Bool)))=>zbr rv sv s.1 s.2.1 s.2.2) h
def zhB (sv:(List zf)):Option Bool:=
 ziL sv>>=fun rv=>
 some (rv.2==0)
def zfI (f:ze) (v:Int):Option Bool:=
 some (f.Number==v)
def zC (sv:(List ze)) (v:Int) (v2:Int):Option (Int⊕(Unit⊕Int)):=
 if (decide (v2<(sv.length:Int))) then (
  idx sv v2>>=fun x=>
  zfI x v>>=fun rv=>
  if rv then (
   some (.inr (.inr v2))
  ) else (
   some (.inl (IntKind.i64.wrap (v2+1)))
  )
 ) else (
  some (.inr (.inl ()))
 )
def zaa (sv:(List ze)) (v:Int) (v2:Int):Option (Unit⊕Int):=zaJ (fun s:Int=>zC sv v s) v2
def zaA (sv:(List ze)) (v:Int):Option Int:=
 zaa sv v 0>>=fun q=>
 match q with
 | .inl u=>(
  some (-1)
 )
 | .inr u2=>(
  some u2
 )
theorem zdv (h:zC sv v v2=some (.inl v2')):zaa sv v v2=zaa sv v v2':=zY (body:=fun s:Int=>zC sv v s) h
theorem zbH (h:zC sv v v2=some (.inr oo_)):zaa sv v v2=some oo_:=zZ (body:=fun s:Int=>zC sv v s) h
def zcJ (m:zf) (v:Int):Option (Int×Bool):=
 zaA m.Fields v>>=fun rv=>
 some ((if rv<0 then 0 else rv),(decide (rv>=0)))
def zeU (m:zf) (number:Int):Option (Int×Bool):=
 zcJ m number>>=fun rv=>
 some (rv.1,rv.2)
def zkZ (sv:(List zf)) (root:Int) (d:Int):Option Int:=
 zhB sv>>=fun rv=>
 if (!rv) then (
  some 9
 ) else (
  if ((decide (root<0))|| ((decide (root>=(sv.length:Int)))|| ((decide (d<0))|| (decide (d>64))))) then (
   some 2
  ) else (
   some 0
  )
 )
def zme (way:(List Int)) (other:(List Int)):Option Bool:=
 (
  if (decide ((other.length:Int)>0)) then (
   if (decide ((other.length:Int)<=(way.length:Int))) then (
    cut way 0 (other.length:Int)>>=fun v=>
    zdu v other>>=fun rv=>
    some rv
   ) else (
    some false
   )
  ) else (
   some false
  )
 )>>=fun g=>
 some g
def zcK (ways:(List (List Int))) (last:(List Int)) (v:Int):Option (((List Int)×Int)⊕(Unit⊕Unit)):=
 if (decide (v<(ways.length:Int))) then (
  idx ways v>>=fun x=>
  (
   zcU last x>>=fun rv=>
   if (decide (rv>=0)) then (
    some true
   ) else (
    zme x last>>=fun rv2=>
    some rv2
   )
  )>>=fun g=>
  if g then (
   some (.inr (.inr ()))
  ) else (
   some (.inl (x,(IntKind.i64.wrap (v+1))))
  )
 ) else (
  some (.inr (.inl ()))
 )
def zgh (ways:(List (List Int))) (last:(List Int)) (v:Int):Option (Unit⊕Unit):=zaJ (fun s:((List Int)×Int)=>zcK ways s.1 s.2) (last,v)
def zjL (ways:(List (List Int))):Option Bool:=
 zgh ways [] 0>>=fun q=>
 match q with
 | .inl u=>(
  some true
 )
 | .inr u2=>(
  some false
 )
theorem zpI {ways:(List (List Int))} {last:(List Int)} {v:Int} {last':(List Int)} {v':Int} (h:zcK ways last v=some (.inl (last',v'))):zgh ways last v=zgh ways last' v':=zY (body:=fun s:((List Int)×Int)=>zcK ways s.1 s.2) h
theorem zkM {ways:(List (List Int))} {last:(List Int)} {v:Int} {oo_:(Unit⊕Unit)} (h:zcK ways last v=some (.inr oo_)):zgh ways last v=some oo_:=zZ (body:=fun s:((List Int)×Int)=>zcK ways s.1 s.2) h
def zdh (ways:(List (List Int))) (l:(List (List Int))) (v2:Int):Option (((List (List Int))×Int)⊕(List (List Int))):=
 if (decide (v2<(ways.length:Int))) then (
  idx ways v2>>=fun x=>
  zdt x>>=fun rv=>
  idx l v2>>=fun x2=>
  some (.inl ((l.set (Int.toNat v2) rv),(IntKind.i64.wrap (v2+1))))
 ) else (
  some (.inr l)
 )
def zgg (ways:(List (List Int))) (l:(List (List Int))) (v2:Int):Option (List (List Int)):=zaJ (fun s:((List (List Int))×Int)=>zdh ways s.1 s.2) (l,v2)
def ziv (ways:(List (List Int))):Option (List (List Int)):=
 mkO 24 ([]:(List Int)) (ways.length:Int) (ways.length:Int)>>=fun v=>
 zgg ways v 0>>=fun q=>
 some q
theorem zpG {ways:(List (List Int))} {l:(List (List Int))} {v2:Int} {l':(List (List Int))} {v2':Int} (h:zdh ways l v2=some (.inl (l',v2'))):zgg ways l v2=zgg ways l' v2':=zY (body:=fun s:((List (List Int))×Int)=>zdh ways s.1 s.2) h
theorem zpH {ways:(List (List Int))} {l:(List (List Int))} {v2:Int} {oo_:(List (List Int))} (h:zdh ways l v2=some (.inr oo_)):zgg ways l v2=some oo_:=zZ (body:=fun s:((List (List Int))×Int)=>zdh ways s.1 s.2) h
def zaW (t:(List (zao×Int))) (way:(List Int)) (place:Int) (v:Int):Option ((Int×Int)⊕(Unit⊕Bool)):=
 if (decide (v<(way.length:Int))) then (
  idx way v>>=fun x=>
  if (!(mget t (⟨place,x⟩:zao)).isSome) then (
   some (.inr (.inr false))
  ) else (
   if (((mget t (⟨place,x⟩:zao)).getD 0)==(-1)) then (
    some (.inr (.inr true))
   ) else (
    some (.inl (((mget t (⟨place,x⟩:zao)).getD 0),(IntKind.i64.wrap (v+1))))
   )
  )
 ) else (
  some (.inr (.inl ()))
 )
def zep (t:(List (zao×Int))) (way:(List Int)) (place:Int) (v:Int):Option (Unit⊕Bool):=zaJ (fun s:(Int×Int)=>zaW t way s.1 s.2) (place,v)
def zfB (t:(List (zao×Int))) (way:(List Int)):Option Bool:=
 zep t way 0 0>>=fun q=>
 match q with
 | .inl u=>(
  some false
 )
 | .inr u2=>(
  some u2
 )
theorem zmQ {t:(List (zao×Int))} {way:(List Int)} {place:Int} {v:Int} {place':Int} {v':Int} (h:zaW t way place v=some (.inl (place',v'))):zep t way place v=zep t way place' v':=zY (body:=fun s:(Int×Int)=>zaW t way s.1 s.2) h
theorem zgC {t:(List (zao×Int))} {way:(List Int)} {place:Int} {v:Int} {oo_:(Unit⊕Bool)} (h:zaW t way place v=some (.inr oo_)):zep t way place v=some oo_:=zZ (body:=fun s:(Int×Int)=>zaW t way s.1 s.2) h
def zbR (way:(List Int)) (t2:(List (zao×Int))) (place:Int) (v:Int) (f:Int) (f2:Int):Option (((List (zao×Int))×Int×Int×Int×Int)⊕((List (zao×Int))×Int×Int)):=
 if (decide (v<(way.length:Int))) then (
  idx way v>>=fun x=>
  if (!(mget t2 (⟨place,x⟩:zao)).isSome) then (
   some (.inl ((mput t2 (⟨place,x⟩:zao) (IntKind.i64.wrap ((t2.length:Int)+1))),((mget (mput t2 (⟨place,x⟩:zao) (IntKind.i64.wrap ((t2.length:Int)+1))) (⟨place,x⟩:zao)).getD 0),(IntKind.i64.wrap (v+1)),place,x))
  ) else (
   some (.inl (t2,((mget t2 (⟨place,x⟩:zao)).getD 0),(IntKind.i64.wrap (v+1)),place,x))
  )
 ) else (
  some (.inr (t2,f,f2))
 )
def zfA (way:(List Int)) (t2:(List (zao×Int))) (place:Int) (v:Int) (f:Int) (f2:Int):Option ((List (zao×Int))×Int×Int):=zaJ (fun s:((List (zao×Int))×Int×Int×Int×Int)=>zbR way s.1 s.2.1 s.2.2.1 s.2.2.2.1 s.2.2.2.2) (t2,place,v,f,f2)
def ziI (t:(List (zao×Int))) (way:(List Int)):Option (List (zao×Int)):=
 zfA way t 0 0 0 0>>=fun q=>
 some (mput q.1 (⟨q.2.1,q.2.2⟩:zao) (-1))
theorem zkh {way:(List Int)} {t2:(List (zao×Int))} {place:Int} {v:Int} {f:Int} {f2:Int} {t2':(List (zao×Int))} {place':Int} {v':Int} {f':Int} {f2':Int} (h:zbR way t2 place v f f2=some (.inl (t2',place',v',f',f2'))):zfA way t2 place v f f2=zfA way t2' place' v' f' f2':=zY (body:=fun s:((List (zao×Int))×Int×Int×Int×Int)=>zbR way s.1 s.2.1 s.2.2.1 s.2.2.2.1 s.2.2.2.2) h
theorem zpf {way:(List Int)} {t2:(List (zao×Int))} {place:Int} {v:Int} {f:Int} {f2:Int} {oo_:((List (zao×Int))×Int×Int)} (h:zbR way t2 place v f f2=some (.inr oo_)):zfA way t2 place v f f2=some oo_:=zZ (body:=fun s:((List (zao×Int))×Int×Int×Int×Int)=>zbR way s.1 s.2.1 s.2.2.1 s.2.2.2.1 s.2.2.2.2) h
def zfo (rv4:(List (List Int))) (l:(List (List Int))) (t:(List (zao×Int))) (v:Int):Option (((List (List Int))×(List (zao×Int))×Int)⊕(List (List Int))):=
 if (decide (v<(rv4.length:Int))) then (
  idx rv4 v>>=fun x=>
  (
   if (decide ((x.length:Int)>0)) then (
    zfB t x>>=fun rv5=>
    some (!rv5)
   ) else (
    some false
   )
  )>>=fun g=>
  if g then (
   ziI t x>>=fun rv7=>
   app 24 l ([x]:(List (List Int)))>>=fun v3=>
   some (.inl (v3,rv7,(IntKind.i64.wrap (v+1))))
  ) else (
   some (.inl (l,t,(IntKind.i64.wrap (v+1))))
  )
 ) else (
  some (.inr l)
 )
def zjj (rv4:(List (List Int))) (l:(List (List Int))) (t:(List (zao×Int))) (v:Int):Option (List (List Int)):=zaJ (fun s:((List (List Int))×(List (zao×Int))×Int)=>zfo rv4 s.1 s.2.1 s.2.2) (l,t,v)
def zmP (ways:(List (List Int))):Option zif:=
 zjL ways>>=fun rv=>
 if rv then (
  ziv ways>>=fun rv2=>
  some (⟨rv2⟩:zif)
 ) else (
  zdj ways>>=fun rv3=>
  zO rv3>>=fun rv4=>
  zjj rv4 [] ([]:(List (zao×Int))) 0>>=fun q=>
  ziv q>>=fun rv8=>
  some (⟨rv8⟩:zif)
 )
theorem znU {rv4:(List (List Int))} {l:(List (List Int))} {t:(List (zao×Int))} {v:Int} {l':(List (List Int))} {t':(List (zao×Int))} {v':Int} (h:zfo rv4 l t v=some (.inl (l',t',v'))):zjj rv4 l t v=zjj rv4 l' t' v':=zY (body:=fun s:((List (List Int))×(List (zao×Int))×Int)=>zfo rv4 s.1 s.2.1 s.2.2) h
theorem ztC {rv4:(List (List Int))} {l:(List (List Int))} {t:(List (zao×Int))} {v:Int} {oo_:(List (List Int))} (h:zfo rv4 l t v=some (.inr oo_)):zjj rv4 l t v=some oo_:=zZ (body:=fun s:((List (List Int))×(List (zao×Int))×Int)=>zfo rv4 s.1 s.2.1 s.2.2) h
def zby (l:(List (List Int))) (n:Int) (i:Int):Option ((Int×Int)⊕Int):=
 if (decide (i<(l.length:Int))) then (
  idx l i>>=fun x=>
  some (.inl ((IntKind.i64.wrap ((IntKind.i64.wrap (n+1))+(x.length:Int))),(IntKind.i64.wrap (i+1))))
 ) else (
  some (.inr n)
 )
def zdq (l:(List (List Int))) (n:Int) (i:Int):Option Int:=zaJ (fun s:(Int×Int)=>zby l s.1 s.2) (n,i)
def zfD (l:(List (List Int))):Option Bool:=
 zdq l 0 0>>=fun q=>
 some (decide (q>300))
theorem zlz {l:(List (List Int))} {n:Int} {i:Int} {n':Int} {i':Int} (h:zby l n i=some (.inl (n',i'))):zdq l n i=zdq l n' i':=zY (body:=fun s:(Int×Int)=>zby l s.1 s.2) h
theorem zlA {l:(List (List Int))} {n:Int} {i:Int} {oo_:Int} (h:zby l n i=some (.inr oo_)):zdq l n i=some oo_:=zZ (body:=fun s:(Int×Int)=>zby l s.1 s.2) h
def zfL (v:za):Option Int:=
 some (IntKind.i64.wrap ((IntKind.i64.wrap ((v.Words.length:Int)+(v.Texts.length:Int)))+(v.Subs.length:Int)))
def zbz (x:zb) (n:Int) (i:Int):Option ((Int×Int)⊕Int):=
 if (decide (i<(x.Unknown.length:Int))) then (
  idx x.Unknown i>>=fun x2=>
  some (.inl ((IntKind.i64.wrap ((IntKind.i64.wrap (n+1))+(x2.length:Int))),(IntKind.i64.wrap (i+1))))
 ) else (
  some (.inr n)
 )
def zdr (x:zb) (n:Int) (i:Int):Option Int:=zaJ (fun s:(Int×Int)=>zbz x s.1 s.2) (n,i)
def zbi (deep:Int) (xk:za->Int->Option Int) (x:zb) (n3:Int) (i2:Int):Option ((Int×Int)⊕(Int⊕Unit)):=
 if (decide (i2<(x.Values.length:Int))) then (
  idx x.Values i2>>=fun x3=>
  xk x3 deep>>=fun rv=>
  if (decide ((IntKind.i64.wrap (n3+rv))>=5000)) then (
   some (.inr (.inr ()))
  ) else (
   some (.inl ((IntKind.i64.wrap (n3+rv)),(IntKind.i64.wrap (i2+1))))
  )
 ) else (
  some (.inr (.inl n3))
 )
def zds (deep:Int) (xk:za->Int->Option Int) (x:zb) (n3:Int) (i2:Int):Option (Int⊕Unit):=zaJ (fun s:(Int×Int)=>zbi deep xk x s.1 s.2) (n3,i2)
def zeV (xj:zb->Int->Option Int) (xk:za->Int->Option Int) (x:zb) (deep:Int):Option Int:=
 if (decide (deep<0)) then (
  some 5000
 ) else (
  zdr x 1 0>>=fun q=>
  zds deep xk x q 0>>=fun q2=>
  match q2 with
  | .inl u=>(
   some u
  )
  | .inr u2=>(
   some 5000
  )
 )
def zaN (v:za) (n:Int) (k:Int):Option ((Int×Int)⊕Int):=
 if (decide (k<(v.Texts.length:Int))) then (
  idx v.Texts k>>=fun x=>
  some (.inl ((IntKind.i64.wrap ((IntKind.i64.wrap (n+1))+(x.length:Int))),(IntKind.i64.wrap (k+1))))
 ) else (
  some (.inr n)
 )
def zct (v:za) (n:Int) (k:Int):Option Int:=zaJ (fun s:(Int×Int)=>zaN v s.1 s.2) (n,k)
def zaB (deep:Int) (xj:zb->Int->Option Int) (v:za) (n3:Int) (k2:Int):Option ((Int×Int)⊕(Int⊕Unit)):=
 if (decide (k2<(v.Subs.length:Int))) then (
  idx v.Subs k2>>=fun x2=>
  xj x2 (IntKind.i64.wrap (deep - 1))>>=fun rv=>
  if (decide ((IntKind.i64.wrap (n3+rv))>=5000)) then (
   some (.inr (.inr ()))
  ) else (
   some (.inl ((IntKind.i64.wrap (n3+rv)),(IntKind.i64.wrap (k2+1))))
  )
 ) else (
  some (.inr (.inl n3))
 )
def zcu (deep:Int) (xj:zb->Int->Option Int) (v:za) (n3:Int) (k2:Int):Option (Int⊕Unit):=zaJ (fun s:(Int×Int)=>zaB deep xj v s.1 s.2) (n3,k2)
def zde (xj:zb->Int->Option Int) (xk:za->Int->Option Int) (v:za) (deep:Int):Option Int:=
 zct v (IntKind.i64.wrap (1+(v.Words.length:Int))) 0>>=fun q=>
 zcu deep xj v q 0>>=fun q2=>
 match q2 with
 | .inl u=>(
  some u
 )
 | .inr u2=>(
  some 5000
 )
def zax:Nat->(zb->Int->Option Int)×(za->Int->Option Int)
  | 0=>(fun _ _=>none,fun _ _=>none)
  | fuel+1=>(fun x deep=>zeV (zax fuel).1 (zax fuel).2 x deep,fun v deep=>zde (zax fuel).1 (zax fuel).2 v deep)
def zbT (fuel:Nat):zb->Int->Option Int:=(zax fuel).1
def zbv (fuel:Nat):za->Int->Option Int:=(zax fuel).2
theorem zlB (h:zbz x n i=some (.inl (n',i'))):zdr x n i=zdr x n' i':=zY (body:=fun s:(Int×Int)=>zbz x s.1 s.2) h
theorem zlC (h:zbz x n i=some (.inr oo_)):zdr x n i=some oo_:=zZ (body:=fun s:(Int×Int)=>zbz x s.1 s.2) h
theorem zlD (h:zbi deep xk x n3 i2=some (.inl (n3',i2'))):zds deep xk x n3 i2=zds deep xk x n3' i2':=zY (body:=fun s:(Int×Int)=>zbi deep xk x s.1 s.2) h
theorem zhX (h:zbi deep xk x n3 i2=some (.inr oo_)):zds deep xk x n3 i2=some oo_:=zZ (body:=fun s:(Int×Int)=>zbi deep xk x s.1 s.2) h
theorem zjx (h:zaN v n k=some (.inl (n',k'))):zct v n k=zct v n' k':=zY (body:=fun s:(Int×Int)=>zaN v s.1 s.2) h
theorem zjy (h:zaN v n k=some (.inr oo_)):zct v n k=some oo_:=zZ (body:=fun s:(Int×Int)=>zaN v s.1 s.2) h
theorem zjz (h:zaB deep xj v n3 k2=some (.inl (n3',k2'))):zcu deep xj v n3 k2=zcu deep xj v n3' k2':=zY (body:=fun s:(Int×Int)=>zaB deep xj v s.1 s.2) h
theorem zgu (h:zaB deep xj v n3 k2=some (.inr oo_)):zcu deep xj v n3 k2=some oo_:=zZ (body:=fun s:(Int×Int)=>zaB deep xj v s.1 s.2) h
def zdB (most:Int) (xa:zb->Int->Option Int) (x2:za) (deep3:Int) (v3:Int):Option ((Int×Int)⊕(Int⊕Int)):=
 if (decide (v3<(x2.Subs.length:Int))) then (
  idx x2.Subs v3>>=fun x3=>
  if (decide (most<=0)) then (
   some (.inr (.inr 1))
  ) else (
   xa x3 (IntKind.i64.wrap (most - 1))>>=fun rv=>
   if (decide ((if deep3<(IntKind.i64.wrap (1+rv)) then (IntKind.i64.wrap (1+rv)) else deep3)>most)) then (
    some (.inr (.inr (if deep3<(IntKind.i64.wrap (1+rv)) then (IntKind.i64.wrap (1+rv)) else deep3)))
   ) else (
    some (.inl ((if deep3<(IntKind.i64.wrap (1+rv)) then (IntKind.i64.wrap (1+rv)) else deep3),(IntKind.i64.wrap (v3+1))))
   )
  )
 ) else (
  some (.inr (.inl deep3))
 )
def zgW (most:Int) (xa:zb->Int->Option Int) (x2:za) (deep3:Int) (v3:Int):Option (Int⊕Int):=zaJ (fun s:(Int×Int)=>zdB most xa x2 s.1 s.2) (deep3,v3)
def zdA (most:Int) (xa:zb->Int->Option Int) (x:zb) (deep:Int) (v:Int):Option ((Int×Int)⊕(Int⊕Int)):=
 if (decide (v<(x.Values.length:Int))) then (
  idx x.Values v>>=fun x2=>
  zgW most xa x2 deep 0>>=fun q=>
  match q with
  | .inl u=>(
   some (.inl (u,(IntKind.i64.wrap (v+1))))
  )
  | .inr u2=>(
   some (.inr (.inr u2))
  )
 ) else (
  some (.inr (.inl deep))
 )
def zgV (most:Int) (xa:zb->Int->Option Int) (x:zb) (deep:Int) (v:Int):Option (Int⊕Int):=zaJ (fun s:(Int×Int)=>zdA most xa x s.1 s.2) (deep,v)
def ziQ (xa:zb->Int->Option Int) (x:zb) (most:Int):Option Int:=
 zgV most xa x 0 0>>=fun q2=>
 match q2 with
 | .inl u3=>(
  some u3
 )
 | .inr u4=>(
  some u4
 )
def zfV:Nat->zb->Int->Option Int
  | 0,_,_=>none
  | fuel+1,x,most=>ziQ (zfV fuel) x most
theorem zqO (h:zdB most xa x2 deep3 v3=some (.inl (deep3',v3'))):zgW most xa x2 deep3 v3=zgW most xa x2 deep3' v3':=zY (body:=fun s:(Int×Int)=>zdB most xa x2 s.1 s.2) h
theorem zqP (h:zdB most xa x2 deep3 v3=some (.inr oo_)):zgW most xa x2 deep3 v3=some oo_:=zZ (body:=fun s:(Int×Int)=>zdB most xa x2 s.1 s.2) h
theorem zqM (h:zdA most xa x deep v=some (.inl (deep',v'))):zgV most xa x deep v=zgV most xa x deep' v':=zY (body:=fun s:(Int×Int)=>zdA most xa x s.1 s.2) h
theorem zqN (h:zdA most xa x deep v=some (.inr oo_)):zgV most xa x deep v=some oo_:=zZ (body:=fun s:(Int×Int)=>zdA most xa x s.1 s.2) h
def zkY (fuel:Nat) (x:zb):Option Int:=
 zfV fuel x 131072>>=fun rv=>
 some rv
def zjp (fuel:Nat) (x:zb):Option Bool:=
 zkY fuel x>>=fun rv=>
 some (decide (rv<=131072))
def zcn (l:(List Str)) (v:Int):Option (Int⊕(Unit⊕Unit)):=
 if (decide (v<(l.length:Int))) then (
  idx l v>>=fun x=>
  lenO x>>=fun v2=>
  zmw v2>>=fun rv=>
  if (!rv) then (
   some (.inr (.inr ()))
  ) else (
   some (.inl (IntKind.i64.wrap (v+1)))
  )
 ) else (
  some (.inr (.inl ()))
 )
def zfl (l:(List Str)) (v:Int):Option (Unit⊕Unit):=zaJ (fun s:Int=>zcn l s) v
def zib (l:(List Str)):Option Bool:=
 zfl l 0>>=fun q=>
 match q with
 | .inl u=>(
  some true
 )
 | .inr u2=>(
  some false
 )
theorem zou (h:zcn l v=some (.inl v')):zfl l v=zfl l v':=zY (body:=fun s:Int=>zcn l s) h
theorem zjU (h:zcn l v=some (.inr oo_)):zfl l v=some oo_:=zZ (body:=fun s:Int=>zcn l s) h
def zhs (m:zf) (text:Str):Option Bool:=
 lenO text>>=fun v=>
 zjO v 0>>=fun rv=>
 if ((rv.2 !=0)|| (rv.1.To !=(text.length:Int))) then (
  some false
 ) else (
  zeU m rv.1.Number>>=fun rv2=>
  some (!rv2.2)
 )
def zaQ (k:Int) (l:(List Int)) (v:Int):Option (Int⊕(Unit⊕Unit)):=
 if (decide (v<(l.length:Int))) then (
  idx l v>>=fun x=>
  zkK k x>>=fun rv=>
  if ((rv.2 !=0)|| (rv.1 !=x)) then (
   some (.inr (.inr ()))
  ) else (
   some (.inl (IntKind.i64.wrap (v+1)))
  )
 ) else (
  some (.inr (.inl ()))
 )
def zdx (k:Int) (l:(List Int)) (v:Int):Option (Unit⊕Unit):=zaJ (fun s:Int=>zaQ k l s) v
def zfM (k:Int) (l:(List Int)):Option Bool:=
 zdx k l 0>>=fun q=>
 match q with
 | .inl u=>(
  some true
 )
 | .inr u2=>(
  some false
 )
theorem zlM (h:zaQ k l v=some (.inl v')):zdx k l v=zdx k l v':=zY (body:=fun s:Int=>zaQ k l s) h
theorem zfT (h:zaQ k l v=some (.inr oo_)):zdx k l v=some oo_:=zZ (body:=fun s:Int=>zaQ k l s) h
def zbu (l:(List zb)) (message:Int) (xh:(List zf)->Int->zb->Option Bool) (sv:(List zf)) (v2:Int):Option (Int⊕(Unit⊕Unit)):=
 if (decide (v2<(l.length:Int))) then (
  idx l v2>>=fun x=>
  xh sv message x>>=fun rv=>
  if (!rv) then (
   some (.inr (.inr ()))
  ) else (
   some (.inl (IntKind.i64.wrap (v2+1)))
  )
 ) else (
  some (.inr (.inl ()))
 )
def zdS (l:(List zb)) (message:Int) (xh:(List zf)->Int->zb->Option Bool) (sv:(List zf)) (v2:Int):Option (Unit⊕Unit):=zaJ (fun s:Int=>zbu l message xh sv s) v2
def zfs (xo:(List zf)->Int->(List zb)->Option Bool) (xg:ze->(List zf)->za->Option Bool) (xh:(List zf)->Int->zb->Option Bool) (sv:(List zf)) (message:Int) (l:(List zb)):Option Bool:=
 if ((decide (message<0))|| (decide (message>=(sv.length:Int)))) then (
  some false
 ) else (
  zdS l message xh sv 0>>=fun q=>
  match q with
  | .inl u=>(
   some true
  )
  | .inr u2=>(
   some false
  )
 )
def zjV (xo:(List zf)->Int->(List zb)->Option Bool) (xg:ze->(List zf)->za->Option Bool) (xh:(List zf)->Int->zb->Option Bool) (f:ze) (sv:(List zf)) (v:za):Option Bool:=
 zfL v>>=fun rv=>
 if ((rv==0)|| ((decide (rv>1))&&(!f.Repeated))) then (
  some false
 ) else (
  if (f.Kind==15) then (
   (
    if ((v.Texts.length:Int)==rv) then (
     zib v.Texts>>=fun rv2=>
     some rv2
    ) else (
     some false
    )
   )>>=fun g=>
   some g
  ) else (
   if (f.Kind==16) then (
    some ((v.Texts.length:Int)==rv)
   ) else (
    if (f.Kind==17) then (
     (
      if ((v.Subs.length:Int)==rv) then (
       xo sv f.Of v.Subs>>=fun rv3=>
       some rv3
      ) else (
       some false
      )
     )>>=fun g2=>
     some g2
    ) else (
     (
      if ((v.Words.length:Int)==rv) then (
       zfM f.Kind v.Words>>=fun rv4=>
       some rv4
      ) else (
       some false
      )
     )>>=fun g3=>
     some g3
    )
   )
  )
 )
def zbV (xg:ze->(List zf)->za->Option Bool) (sv:(List zf)) (x:zb) (x2:zf) (last:Int) (v:Int):Option ((Int×Int)⊕(Unit⊕Unit)):=
 if (decide (v<(x.Values.length:Int))) then (
  idx x.Values v>>=fun x3=>
  zeU x2 x3.Number>>=fun rv=>
  (
   if (!rv.2) then (
    some true
   ) else (
    if (decide (x3.Number<=last)) then (
     some true
    ) else (
     idx x2.Fields rv.1>>=fun x4=>
     xg x4 sv x3>>=fun rv2=>
     some (!rv2)
    )
   )
  )>>=fun g=>
  if g then (
   some (.inr (.inr ()))
  ) else (
   some (.inl (x3.Number,(IntKind.i64.wrap (v+1))))
  )
 ) else (
  some (.inr (.inl ()))
 )
def zeN (xg:ze->(List zf)->za->Option Bool) (sv:(List zf)) (x:zb) (x2:zf) (last:Int) (v:Int):Option (Unit⊕Unit):=zaJ (fun s:(Int×Int)=>zbV xg sv x x2 s.1 s.2) (last,v)
def zbW (x:zb) (x2:zf) (v3:Int):Option (Int⊕(Unit⊕Unit)):=
 if (decide (v3<(x.Unknown.length:Int))) then (
  idx x.Unknown v3>>=fun x5=>
  zhs x2 x5>>=fun rv3=>
  if (!rv3) then (
   some (.inr (.inr ()))
  ) else (
   some (.inl (IntKind.i64.wrap (v3+1)))
  )
 ) else (
  some (.inr (.inl ()))
 )
def zeO (x:zb) (x2:zf) (v3:Int):Option (Unit⊕Unit):=zaJ (fun s:Int=>zbW x x2 s) v3
def zgq (xo:(List zf)->Int->(List zb)->Option Bool) (xg:ze->(List zf)->za->Option Bool) (xh:(List zf)->Int->zb->Option Bool) (sv:(List zf)) (message:Int) (x:zb):Option Bool:=
 idx sv message>>=fun x2=>
 zeN xg sv x x2 0 0>>=fun q=>
 match q with
 | .inl u=>(
  zeO x x2 0>>=fun q2=>
  match q2 with
  | .inl u2=>(
   some true
  )
  | .inr u3=>(
   some false
  )
 )
 | .inr u4=>(
  some false
 )
def zai:Nat->((List zf)->Int->(List zb)->Option Bool)×(ze->(List zf)->za->Option Bool)×((List zf)->Int->zb->Option Bool)
  | 0=>(fun _ _ _=>none,fun _ _ _=>none,fun _ _ _=>none)
  | fuel+1=>(fun sv message l=>zfs (zai fuel).1 (zai fuel).2.1 (zai fuel).2.2 sv message l,fun f sv v=>zjV (zai fuel).1 (zai fuel).2.1 (zai fuel).2.2 f sv v,fun sv message x=>zgq (zai fuel).1 (zai fuel).2.1 (zai fuel).2.2 sv message x)
def zgo (fuel:Nat):(List zf)->Int->(List zb)->Option Bool:=(zai fuel).1
def ziA (fuel:Nat):ze->(List zf)->za->Option Bool:=(zai fuel).2.1
def zdK (fuel:Nat):(List zf)->Int->zb->Option Bool:=(zai fuel).2.2
theorem zms (h:zbu l message xh sv v2=some (.inl v2')):zdS l message xh sv v2=zdS l message xh sv v2':=zY (body:=fun s:Int=>zbu l message xh sv s) h
theorem ziz (h:zbu l message xh sv v2=some (.inr oo_)):zdS l message xh sv v2=some oo_:=zZ (body:=fun s:Int=>zbu l message xh sv s) h
theorem znt (h:zbV xg sv x x2 last v=some (.inl (last',v'))):zeN xg sv x x2 last v=zeN xg sv x x2 last' v':=zY (body:=fun s:(Int×Int)=>zbV xg sv x x2 s.1 s.2) h
theorem ziY (h:zbV xg sv x x2 last v=some (.inr oo_)):zeN xg sv x x2 last v=some oo_:=zZ (body:=fun s:(Int×Int)=>zbV xg sv x x2 s.1 s.2) h
theorem znu (h:zbW x x2 v3=some (.inl v3')):zeO x x2 v3=zeO x x2 v3':=zY (body:=fun s:Int=>zbW x x2 s) h
theorem ziZ (h:zbW x x2 v3=some (.inr oo_)):zeO x x2 v3=some oo_:=zZ (body:=fun s:Int=>zbW x x2 s) h
def zeq (fuel:Nat) (sv:(List zf)) (root:Int) (x:zb):Option Bool:=
 (
  zkZ sv root 0>>=fun rv=>
  if (rv==0) then (
   zjp fuel x>>=fun rv2=>
   if rv2 then (
    zdK fuel sv root x>>=fun rv3=>
    some rv3
   ) else (
    some false
   )
  ) else (
   some false
  )
 )>>=fun g=>
 some g
def zco (xd:za->Option za) (rv:(List za)) (v:(List za)) (v2:Int):Option (((List za)×Int)⊕(List za)):=
 if (decide (v2<(rv.length:Int))) then (
  idx v v2>>=fun x2=>
  xd x2>>=fun rv3=>
  idx v v2>>=fun x3=>
  some (.inl ((v.set (Int.toNat v2) rv3),(IntKind.i64.wrap (v2+1))))
 ) else (
  some (.inr v)
 )
def zgp (xd:za->Option za) (rv:(List za)) (v:(List za)) (v2:Int):Option (List za):=zaJ (fun s:((List za)×Int)=>zco xd rv s.1 s.2) (v,v2)
def zfU (xc:zb->Option zb) (xd:za->Option za) (x:zb):Option zb:=
 zbl x.Values>>=fun rv=>
 zbF x.Unknown>>=fun rv2=>
 zgp xd rv rv 0>>=fun q=>
 some (⟨q,rv2⟩:zb)
def zaP (xc:zb->Option zb) (rv3:(List zb)) (v2:(List zb)) (v3:Int):Option (((List zb)×Int)⊕(List zb)):=
 if (decide (v3<(rv3.length:Int))) then (
  idx v2 v3>>=fun x=>
  xc x>>=fun rv4=>
  idx v2 v3>>=fun x2=>
  some (.inl ((v2.set (Int.toNat v3) rv4),(IntKind.i64.wrap (v3+1))))
 ) else (
  some (.inr v2)
 )
def zdT (xc:zb->Option zb) (rv3:(List zb)) (v2:(List zb)) (v3:Int):Option (List zb):=zaJ (fun s:((List zb)×Int)=>zaP xc rv3 s.1 s.2) (v2,v3)
def zdo (xc:zb->Option zb) (xd:za->Option za) (v:za):Option za:=
 zcr v.Words>>=fun rv=>
 zbF v.Texts>>=fun rv2=>
 zbL v.Subs>>=fun rv3=>
 zdT xc rv3 rv3 0>>=fun q=>
 some (⟨v.Number,rv,rv2,q⟩:za)
def zbq:Nat->(zb->Option zb)×(za->Option za)
  | 0=>(fun _=>none,fun _=>none)
  | fuel+1=>(fun x=>zfU (zbq fuel).1 (zbq fuel).2 x,fun v=>zdo (zbq fuel).1 (zbq fuel).2 v)
def zff (fuel:Nat):zb->Option zb:=(zbq fuel).1
def zer (fuel:Nat):za->Option za:=(zbq fuel).2
theorem zpX (h:zco xd rv v v2=some (.inl (v',v2'))):zgp xd rv v v2=zgp xd rv v' v2':=zY (body:=fun s:((List za)×Int)=>zco xd rv s.1 s.2) h
theorem zpY (h:zco xd rv v v2=some (.inr oo_)):zgp xd rv v v2=some oo_:=zZ (body:=fun s:((List za)×Int)=>zco xd rv s.1 s.2) h
theorem zmt (h:zaP xc rv3 v2 v3=some (.inl (v2',v3'))):zdT xc rv3 v2 v3=zdT xc rv3 v2' v3':=zY (body:=fun s:((List zb)×Int)=>zaP xc rv3 s.1 s.2) h
theorem zmu (h:zaP xc rv3 v2 v3=some (.inr oo_)):zdT xc rv3 v2 v3=some oo_:=zZ (body:=fun s:((List zb)×Int)=>zaP xc rv3 s.1 s.2) h
def zhI (fuel:Nat) (x:zb):Option zb:=
 zjp fuel x>>=fun rv=>
 if (!rv) then (
  some (⟨[],[]⟩:zb)
 ) else (
  zff fuel x>>=fun rv2=>
  some rv2
 )
def zjW (xe:zb->zb->Option Bool) (xf:za->za->Option Bool) (xm:(List za)->(List za)->Option Bool) (xn:(List zb)->(List zb)->Option Bool) (av:zb) (b:zb):Option Bool:=
 (
  xm av.Values b.Values>>=fun rv=>
  if rv then (
   zbG av.Unknown b.Unknown>>=fun rv2=>
   some rv2
  ) else (
   some false
  )
 )>>=fun g=>
 some g
def zgs (xe:zb->zb->Option Bool) (xf:za->za->Option Bool) (xm:(List za)->(List za)->Option Bool) (xn:(List zb)->(List zb)->Option Bool) (v:za) (wv:za):Option Bool:=
 (
  if (v.Number==wv.Number) then (
   zcs v.Words wv.Words>>=fun rv=>
   if rv then (
    zbG v.Texts wv.Texts>>=fun rv2=>
    if rv2 then (
     xn v.Subs wv.Subs>>=fun rv3=>
     some rv3
    ) else (
     some false
    )
   ) else (
    some false
   )
  ) else (
   some false
  )
 )>>=fun g=>
 some g
def zt (xf:za->za->Option Bool) (s1:(List za)) (s2:(List za)) (v:Int):Option (Int⊕(Unit⊕Unit)):=
 if (decide (v<(s1.length:Int))) then (
  idx s1 v>>=fun x=>
  idx s2 v>>=fun x2=>
  xf x x2>>=fun rv=>
  if (!rv) then (
   some (.inr (.inr ()))
  ) else (
   some (.inl (IntKind.i64.wrap (v+1)))
  )
 ) else (
  some (.inr (.inl ()))
 )
def zH (xf:za->za->Option Bool) (s1:(List za)) (s2:(List za)) (v:Int):Option (Unit⊕Unit):=zaJ (fun s:Int=>zt xf s1 s2 s) v
def zN (xe:zb->zb->Option Bool) (xf:za->za->Option Bool) (xm:(List za)->(List za)->Option Bool) (xn:(List zb)->(List zb)->Option Bool) (s1:(List za)) (s2:(List za)):Option Bool:=
 if ((s1.length:Int) !=(s2.length:Int)) then (
  some false
 ) else (
  zH xf s1 s2 0>>=fun q=>
  match q with
  | .inl u=>(
   some true
  )
  | .inr u2=>(
   some false
  )
 )
def zw (xe:zb->zb->Option Bool) (s1:(List zb)) (s2:(List zb)) (v:Int):Option (Int⊕(Unit⊕Unit)):=
 if (decide (v<(s1.length:Int))) then (
  idx s1 v>>=fun x=>
  idx s2 v>>=fun x2=>
  xe x x2>>=fun rv=>
  if (!rv) then (
   some (.inr (.inr ()))
  ) else (
   some (.inl (IntKind.i64.wrap (v+1)))
  )
 ) else (
  some (.inr (.inl ()))
 )
def zP (xe:zb->zb->Option Bool) (s1:(List zb)) (s2:(List zb)) (v:Int):Option (Unit⊕Unit):=zaJ (fun s:Int=>zw xe s1 s2 s) v
def zac (xe:zb->zb->Option Bool) (xf:za->za->Option Bool) (xm:(List za)->(List za)->Option Bool) (xn:(List zb)->(List zb)->Option Bool) (s1:(List zb)) (s2:(List zb)):Option Bool:=
 if ((s1.length:Int) !=(s2.length:Int)) then (
  some false
 ) else (
  zP xe s1 s2 0>>=fun q=>
  match q with
  | .inl u=>(
   some true
  )
  | .inr u2=>(
   some false
  )
 )
def zK:Nat->(zb->zb->Option Bool)×(za->za->Option Bool)×((List za)->(List za)->Option Bool)×((List zb)->(List zb)->Option Bool)
  | 0=>(fun _ _=>none,fun _ _=>none,fun _ _=>none,fun _ _=>none)
  | fuel+1=>(fun av b=>zjW (zK fuel).1 (zK fuel).2.1 (zK fuel).2.2.1 (zK fuel).2.2.2 av b,fun v wv=>zgs (zK fuel).1 (zK fuel).2.1 (zK fuel).2.2.1 (zK fuel).2.2.2 v wv,fun s1 s2=>zN (zK fuel).1 (zK fuel).2.1 (zK fuel).2.2.1 (zK fuel).2.2.2 s1 s2,fun s1 s2=>zac (zK fuel).1 (zK fuel).2.1 (zK fuel).2.2.1 (zK fuel).2.2.2 s1 s2)
def zgr (fuel:Nat):zb->zb->Option Bool:=(zK fuel).1
def zdL (fuel:Nat):za->za->Option Bool:=(zK fuel).2.1
def zJ (fuel:Nat):(List za)->(List za)->Option Bool:=(zK fuel).2.2.1
def zS (fuel:Nat):(List zb)->(List zb)->Option Bool:=(zK fuel).2.2.2
theorem zce (h:zt xf s1 s2 v=some (.inl v')):zH xf s1 s2 v=zH xf s1 s2 v':=zY (body:=fun s:Int=>zt xf s1 s2 s) h
theorem zaK (h:zt xf s1 s2 v=some (.inr oo_)):zH xf s1 s2 v=some oo_:=zZ (body:=fun s:Int=>zt xf s1 s2 s) h
theorem zcI (h:zw xe s1 s2 v=some (.inl v')):zP xe s1 s2 v=zP xe s1 s2 v':=zY (body:=fun s:Int=>zw xe s1 s2 s) h
theorem zba (h:zw xe s1 s2 v=some (.inr oo_)):zP xe s1 s2 v=some oo_:=zZ (body:=fun s:Int=>zw xe s1 s2 s) h
def zhJ (fuel:Nat) (av:zb) (b:zb):Option Bool:=
 (
  zjp fuel av>>=fun rv=>
  if rv then (
   zgr fuel av b>>=fun rv2=>
   some rv2
  ) else (
   some false
  )
 )>>=fun g=>
 some g
def zhd (fuel:Nat) (x:zb) (v:(List zf)) (v2:Int):Option Bool:=
 zeq fuel v v2 x>>=fun rv=>
 some (!rv)
def zF (fuel:Nat) (sv:(List zb)) (v:(List zf)) (v2:Int) (v3:Int):Option (Int⊕(Unit⊕Int)):=
 if (decide (v3<(sv.length:Int))) then (
  idx sv v3>>=fun x=>
  zhd fuel x v v2>>=fun rv=>
  if rv then (
   some (.inr (.inr v3))
  ) else (
   some (.inl (IntKind.i64.wrap (v3+1)))
  )
 ) else (
  some (.inr (.inl ()))
 )
def zG (fuel:Nat) (sv:(List zb)) (v:(List zf)) (v2:Int) (v3:Int):Option (Unit⊕Int):=zaJ (fun s:Int=>zF fuel sv v v2 s) v3
def zaM (fuel:Nat) (sv:(List zb)) (v:(List zf)) (v2:Int):Option Int:=
 zG fuel sv v v2 0>>=fun q=>
 match q with
 | .inl u=>(
  some (-1)
 )
 | .inr u2=>(
  some u2
 )
theorem zed {fuel:Nat} {sv:(List zb)} {v:(List zf)} {v2:Int} {v3:Int} {v3':Int} (h:zF fuel sv v v2 v3=some (.inl v3')):zG fuel sv v v2 v3=zG fuel sv v v2 v3':=zY (body:=fun s:Int=>zF fuel sv v v2 s) h
theorem zcd {fuel:Nat} {sv:(List zb)} {v:(List zf)} {v2:Int} {v3:Int} {oo_:(Unit⊕Int)} (h:zF fuel sv v v2 v3=some (.inr oo_)):zG fuel sv v v2 v3=some oo_:=zZ (body:=fun s:Int=>zF fuel sv v v2 s) h
def zaq (fuel:Nat) (sv:(List zb)) (v:(List zf)) (v2:Int):Option Bool:=
 zaM fuel sv v v2>>=fun rv=>
 some (decide (rv>=0))
def zgx (fuel:Nat) (sv:(List zf)) (root:Int) (l:(List zb)):Option Int:=
 zaq fuel l sv root>>=fun rv=>
 if (!rv) then (
  some 0
 ) else (
  zhB sv>>=fun rv2=>
  if (!rv2) then (
   some 9
  ) else (
   if ((decide (root<0))|| (decide (root>=(sv.length:Int)))) then (
    some 2
   ) else (
    some 12
   )
  )
 )
def zbI (x:zb) (values:(List (Int×za))) (v:Int):Option (((List (Int×za))×Int)⊕(List (Int×za))):=
 if (decide (v<(x.Values.length:Int))) then (
  idx x.Values v>>=fun x2=>
  some (.inl ((mput values x2.Number x2),(IntKind.i64.wrap (v+1))))
 ) else (
  some (.inr values)
 )
def zdM (x:zb) (values:(List (Int×za))) (v:Int):Option (List (Int×za)):=zaJ (fun s:((List (Int×za))×Int)=>zbI x s.1 s.2) (values,v)
def zfZ (x:zb):Option (List (Int×za)):=
 zdM x ([]:(List (Int×za))) 0>>=fun q=>
 some q
theorem zlR {x:zb} {values:(List (Int×za))} {v:Int} {values':(List (Int×za))} {v':Int} (h:zbI x values v=some (.inl (values',v'))):zdM x values v=zdM x values' v':=zY (body:=fun s:((List (Int×za))×Int)=>zbI x s.1 s.2) h
theorem zlS {x:zb} {values:(List (Int×za))} {v:Int} {oo_:(List (Int×za))} (h:zbI x values v=some (.inr oo_)):zdM x values v=some oo_:=zZ (body:=fun s:((List (Int×za))×Int)=>zbI x s.1 s.2) h
def zfP (v:za):Option zb:=
 if ((v.Subs.length:Int)==0) then (
  some (⟨[],[]⟩:zb)
 ) else (
  idx v.Subs 0>>=fun x=>
  some x
 )
def zgR (m:zf) (number:Int):Option ze:=
 zeU m number>>=fun rv=>
 idx m.Fields rv.1>>=fun x=>
 some x
def zhW (number:Int) (x:zb):Option za:=
 some (⟨number,[],[],([x]:(List zb))⟩:za)
def zbZ (v2:(List Int)) (values:(List (Int×za))) (l:(List za)) (v3:Int):Option (((List za)×Int)⊕(List za)):=
 if (decide (v3<(v2.length:Int))) then (
  idx v2 v3>>=fun x=>
  app 80 l ([((mget values x).getD (⟨0,[],[],[]⟩:za))]:(List za))>>=fun v4=>
  some (.inl (v4,(IntKind.i64.wrap (v3+1))))
 ) else (
  some (.inr l)
 )
def zel (v2:(List Int)) (values:(List (Int×za))) (l:(List za)) (v3:Int):Option (List za):=zaJ (fun s:((List za)×Int)=>zbZ v2 values s.1 s.2) (l,v3)
def zgH (values:(List (Int×za))):Option (List za):=
 mkO 80 ((⟨0,[],[],[]⟩:za):za) 0 (values.length:Int)>>=fun v=>
 ztv values>>=fun v2=>
 zel v2 values v 0>>=fun q=>
 some q
theorem zmD {v2:(List Int)} {values:(List (Int×za))} {l:(List za)} {v3:Int} {l':(List za)} {v3':Int} (h:zbZ v2 values l v3=some (.inl (l',v3'))):zel v2 values l v3=zel v2 values l' v3':=zY (body:=fun s:((List za)×Int)=>zbZ v2 values s.1 s.2) h
theorem zmE {v2:(List Int)} {values:(List (Int×za))} {l:(List za)} {v3:Int} {oo_:(List za)} (h:zbZ v2 values l v3=some (.inr oo_)):zel v2 values l v3=some oo_:=zZ (body:=fun s:((List za)×Int)=>zbZ v2 values s.1 s.2) h
def zcO (b:zb) (message:Int) (xi:(List zf)->ze->za->za->Option za) (sv:(List zf)) (values:(List (Int×za))) (v:Int):Option (((List (Int×za))×Int)⊕(List (Int×za))):=
 if (decide (v<(b.Values.length:Int))) then (
  idx b.Values v>>=fun x=>
  if (mget values x.Number).isSome then (
   idx sv message>>=fun x2=>
   zgR x2 x.Number>>=fun rv2=>
   xi sv rv2 (⟨((mget values x.Number).getD (⟨0,[],[],[]⟩:za)).Number,((mget values x.Number).getD (⟨0,[],[],[]⟩:za)).Words,((mget values x.Number).getD (⟨0,[],[],[]⟩:za)).Texts,((mget values x.Number).getD (⟨0,[],[],[]⟩:za)).Subs⟩:za) x>>=fun rv3=>
   some (.inl ((mput values rv3.Number rv3),(IntKind.i64.wrap (v+1))))
  ) else (
   some (.inl ((mput values x.Number x),(IntKind.i64.wrap (v+1))))
  )
 ) else (
  some (.inr values)
 )
def zfz (b:zb) (message:Int) (xi:(List zf)->ze->za->za->Option za) (sv:(List zf)) (values:(List (Int×za))) (v:Int):Option (List (Int×za)):=zaJ (fun s:((List (Int×za))×Int)=>zcO b message xi sv s.1 s.2) (values,v)
def zhg (xp:(List zf)->Int->zb->zb->Option zb) (xi:(List zf)->ze->za->za->Option za) (sv:(List zf)) (message:Int) (av:zb) (b:zb):Option zb:=
 zfZ av>>=fun rv=>
 zfz b message xi sv rv 0>>=fun q=>
 zgH q>>=fun rv4=>
 zbB ([av.Unknown,b.Unknown]:(List (List Str)))>>=fun rv5=>
 some (⟨rv4,rv5⟩:zb)
def zew (xp:(List zf)->Int->zb->zb->Option zb) (xi:(List zf)->ze->za->za->Option za) (sv:(List zf)) (f:ze) (v:za) (wv:za):Option za:=
 if f.Repeated then (
  zcj ([v.Words,wv.Words]:(List (List Int)))>>=fun rv=>
  zbB ([v.Texts,wv.Texts]:(List (List Str)))>>=fun rv2=>
  zbD ([v.Subs,wv.Subs]:(List (List zb)))>>=fun rv3=>
  some (⟨f.Number,rv,rv2,rv3⟩:za)
 ) else (
  if (f.Kind==17) then (
   zfP v>>=fun rv4=>
   zfP wv>>=fun rv5=>
   xp sv f.Of rv4 rv5>>=fun rv6=>
   zhW f.Number rv6>>=fun rv7=>
   some (⟨rv7.Number,[],[],rv7.Subs⟩:za)
  ) else (
   some wv
  )
 )
def zaR:Nat->((List zf)->Int->zb->zb->Option zb)×((List zf)->ze->za->za->Option za)
  | 0=>(fun _ _ _ _=>none,fun _ _ _ _=>none)
  | fuel+1=>(fun sv message av b=>zhg (zaR fuel).1 (zaR fuel).2 sv message av b,fun sv f v wv=>zew (zaR fuel).1 (zaR fuel).2 sv f v wv)
def zhv (fuel:Nat):(List zf)->Int->zb->zb->Option zb:=(zaR fuel).1
def zfm (fuel:Nat):(List zf)->ze->za->za->Option za:=(zaR fuel).2
theorem zpa {b:zb} {message:Int} {xi:(List zf)->ze->za->za->Option za} {sv:(List zf)} {values:(List (Int×za))} {v:Int} {values':(List (Int×za))} {v':Int} (h:zcO b message xi sv values v=some (.inl (values',v'))):zfz b message xi sv values v=zfz b message xi sv values' v':=zY (body:=fun s:((List (Int×za))×Int)=>zcO b message xi sv s.1 s.2) h
theorem zpb {b:zb} {message:Int} {xi:(List zf)->ze->za->za->Option za} {sv:(List zf)} {values:(List (Int×za))} {v:Int} {oo_:(List (Int×za))} (h:zcO b message xi sv values v=some (.inr oo_)):zfz b message xi sv values v=some oo_:=zZ (body:=fun s:((List (Int×za))×Int)=>zcO b message xi sv s.1 s.2) h
def zcQ (fuel:Nat) (sv:(List zf)) (root:Int) (av:zb) (b:zb):Option (zb×Int):=
 zgx fuel sv root ([av,b]:(List zb))>>=fun rv=>
 if (rv !=0) then (
  some ((⟨[],[]⟩:zb),rv)
 ) else (
  zhv fuel sv root av b>>=fun rv2=>
  zhI fuel rv2>>=fun rv3=>
  some (rv3,0)
 )
def zbY (ways:(List (List Int))) (rests:(List (Int×(List (List Int))))) (v:Int):Option (((List (Int×(List (List Int))))×Int)⊕(List (Int×(List (List Int))))):=
 if (decide (v<(ways.length:Int))) then (
  idx ways v>>=fun x=>
  idx x 0>>=fun x2=>
  cut x 1 (x.length:Int)>>=fun v2=>
  app 24 ((mget rests x2).getD []) ([v2]:(List (List Int)))>>=fun v3=>
  some (.inl ((mput rests x2 v3),(IntKind.i64.wrap (v+1))))
 ) else (
  some (.inr rests)
 )
def zek (ways:(List (List Int))) (rests:(List (Int×(List (List Int))))) (v:Int):Option (List (Int×(List (List Int)))):=zaJ (fun s:((List (Int×(List (List Int))))×Int)=>zbY ways s.1 s.2) (rests,v)
def zgG (ways:(List (List Int))):Option (List (Int×(List (List Int)))):=
 zek ways ([]:(List (Int×(List (List Int))))) 0>>=fun q=>
 some q
theorem zmB {ways:(List (List Int))} {rests:(List (Int×(List (List Int))))} {v:Int} {rests':(List (Int×(List (List Int))))} {v':Int} (h:zbY ways rests v=some (.inl (rests',v'))):zek ways rests v=zek ways rests' v':=zY (body:=fun s:((List (Int×(List (List Int))))×Int)=>zbY ways s.1 s.2) h
theorem zmC {ways:(List (List Int))} {rests:(List (Int×(List (List Int))))} {v:Int} {oo_:(List (Int×(List (List Int))))} (h:zbY ways rests v=some (.inr oo_)):zek ways rests v=some oo_:=zZ (body:=fun s:((List (Int×(List (List Int))))×Int)=>zbY ways s.1 s.2) h
def zdc (keep:Bool) (message:Int) (xl:(List zf)->Int->zb->(List (List Int))->Bool->Option zb) (rv:(List (Int×(List (List Int))))) (sv:(List zf)) (x:zb) (v:Int) (f2:(List za)):Option ((Int×(List za))⊕(List za)):=
 if (decide (v<(x.Values.length:Int))) then (
  idx x.Values v>>=fun x2=>
  idx sv message>>=fun x3=>
  zgR x3 x2.Number>>=fun rv2=>
  (
   if ((((mget rv x2.Number).getD []).length:Int)==1) then (
    idx ((mget rv x2.Number).getD []) 0>>=fun x4=>
    some ((x4.length:Int)==0)
   ) else (
    some false
   )
  )>>=fun g=>
  if ((!g)&&((decide ((((mget rv x2.Number).getD []).length:Int)>0))&&((rv2.Kind==17)&&(!rv2.Repeated)))) then (
   zfP x2>>=fun rv3=>
   xl sv rv2.Of rv3 ((mget rv x2.Number).getD []) keep>>=fun rv4=>
   zhW x2.Number rv4>>=fun rv5=>
   app 80 f2 ([(⟨rv5.Number,[],[],rv5.Subs⟩:za)]:(List za))>>=fun v3=>
   some (.inl ((IntKind.i64.wrap (v+1)),v3))
  ) else (
   if (g==keep) then (
    app 80 f2 ([x2]:(List za))>>=fun v4=>
    some (.inl ((IntKind.i64.wrap (v+1)),v4))
   ) else (
    some (.inl ((IntKind.i64.wrap (v+1)),f2))
   )
  )
 ) else (
  some (.inr f2)
 )
def zga (keep:Bool) (message:Int) (xl:(List zf)->Int->zb->(List (List Int))->Bool->Option zb) (rv:(List (Int×(List (List Int))))) (sv:(List zf)) (x:zb) (v:Int) (f2:(List za)):Option (List za):=zaJ (fun s:(Int×(List za))=>zdc keep message xl rv sv x s.1 s.2) (v,f2)
def zhV (xl:(List zf)->Int->zb->(List (List Int))->Bool->Option zb) (sv:(List zf)) (message:Int) (x:zb) (ways:(List (List Int))) (keep:Bool):Option zb:=
 ((
  if (!keep) then (
   some x.Unknown
  ) else (
   some []
  )
  :Option (List Str)))>>=fun p=>
 zgG ways>>=fun rv=>
 zga keep message xl rv sv x 0 []>>=fun q=>
 some (⟨q,p⟩:zb)
def zhe:Nat->(List zf)->Int->zb->(List (List Int))->Bool->Option zb
  | 0,_,_,_,_,_=>none
  | fuel+1,sv,message,x,ways,keep=>zhV (zhe fuel) sv message x ways keep
theorem zpr {keep:Bool} {message:Int} {xl:(List zf)->Int->zb->(List (List Int))->Bool->Option zb} {rv:(List (Int×(List (List Int))))} {sv:(List zf)} {x:zb} {v:Int} {f2:(List za)} {v':Int} {f2':(List za)} (h:zdc keep message xl rv sv x v f2=some (.inl (v',f2'))):zga keep message xl rv sv x v f2=zga keep message xl rv sv x v' f2':=zY (body:=fun s:(Int×(List za))=>zdc keep message xl rv sv x s.1 s.2) h
theorem zps {keep:Bool} {message:Int} {xl:(List zf)->Int->zb->(List (List Int))->Bool->Option zb} {rv:(List (Int×(List (List Int))))} {sv:(List zf)} {x:zb} {v:Int} {f2:(List za)} {oo_:(List za)} (h:zdc keep message xl rv sv x v f2=some (.inr oo_)):zga keep message xl rv sv x v f2=some oo_:=zZ (body:=fun s:(Int×(List za))=>zdc keep message xl rv sv x s.1 s.2) h
def zfY (fuel:Nat) (sv:(List zf)) (root:Int) (x:zb) (m:zif) (keep:Bool):Option (zb×Int):=
 zgx fuel sv root ([x]:(List zb))>>=fun rv=>
 if (rv !=0) then (
  some ((⟨[],[]⟩:zb),rv)
 ) else (
  zmP m.Ways>>=fun rv2=>
  zhe fuel sv root x rv2.Ways keep>>=fun rv3=>
  zhI fuel rv3>>=fun rv4=>
  some (rv4,0)
 )
def ziE (fuel:Nat) (sv:(List zf)) (root:Int) (x:zb) (m:zif):Option (zb×Int):=
 zfY fuel sv root x m true>>=fun rv=>
 some (rv.1,rv.2)
def zgQ (fuel:Nat) (sv:(List zf)) (root:Int) (x:zb) (m:zif):Option (zb×Int):=
 zfY fuel sv root x m false>>=fun rv=>
 some (rv.1,rv.2)
mutual
def zfQ:zb->zb
  | ⟨vs,_⟩=>⟨zcB vs,[]⟩
def zcB:List za->List za
  | []=>[]
  | v::l=>zeQ v::zcB l
def zeQ:za->za
  | ⟨n,w,t,s⟩=>⟨n,w,t,zdp s⟩
def zdp:List zb->List zb
  | []=>[]
  | x::l=>zfQ x::zdp l
end
def zfO (fuel:Nat) (sv:(List zf)) (root:Int) (x:zb):Option (zb×Int):=
 zgx fuel sv root ([x]:(List zb))>>=fun rv=>
 if (rv !=0) then (
  some ((⟨[],[]⟩:zb),rv)
 ) else (
  zhI fuel x>>=fun rv2=>
  some ((⟨(zcB rv2.Values),[]⟩:zb),0)
 )
def zfn (fuel:Nat):Option Bool:=
 zmP ([([1]:(List Int))]:(List (List Int)))>>=fun rv=>
 zgQ fuel ([(⟨[109],([(⟨[97],1,3,false,false,0⟩:ze)]:(List ze))⟩:zf)]:(List zf)) 0 (⟨([(⟨1,([5]:(List Int)),[],[]⟩:za)]:(List za)),([[16,1]]:(List Str))⟩:zb) rv>>=fun rv2=>
 zcQ fuel ([(⟨[109],([(⟨[97],1,3,false,false,0⟩:ze)]:(List ze))⟩:zf)]:(List zf)) 0 rv2.1 (⟨([(⟨1,([5]:(List Int)),[],[]⟩:za)]:(List za)),([[16,1]]:(List Str))⟩:zb)>>=fun rv3=>
 some (((IntKind.i64.wrap ((IntKind.i64.wrap rv2.2)+(IntKind.i64.wrap rv3.2)))==0)&&(((rv2.1.Values.length:Int)==0)&&(((rv2.1.Unknown.length:Int)==1)&&(((rv3.1.Values.length:Int)==1)&&((rv3.1.Unknown.length:Int)==2)))))
def zbs (fuel:Nat) (l:(List zb)) (i:Int):Option (Int⊕(Unit⊕Unit)):=
 if (decide (i<(l.length:Int))) then (
  idx l i>>=fun x=>
  zbT fuel x 70>>=fun rv=>
  if (decide (rv>2000)) then (
   some (.inr (.inr ()))
  ) else (
   some (.inl (IntKind.i64.wrap (i+1)))
  )
 ) else (
  some (.inr (.inl ()))
 )
def zdP (fuel:Nat) (l:(List zb)) (i:Int):Option (Unit⊕Unit):=zaJ (fun s:Int=>zbs fuel l s) i
def zgd (fuel:Nat) (l:(List zb)):Option Bool:=
 zdP fuel l 0>>=fun q=>
 match q with
 | .inl u=>(
  some false
 )
 | .inr u2=>(
  some true
 )
theorem zlZ {fuel:Nat} {l:(List zb)} {i:Int} {i':Int} (h:zbs fuel l i=some (.inl i')):zdP fuel l i=zdP fuel l i':=zY (body:=fun s:Int=>zbs fuel l s) h
theorem ziq {fuel:Nat} {l:(List zb)} {i:Int} {oo_:(Unit⊕Unit)} (h:zbs fuel l i=some (.inr oo_)):zdP fuel l i=some oo_:=zZ (body:=fun s:Int=>zbs fuel l s) h
def zaD (i:Int) (xb:zb->Option Int) (x:zb) (n3:Int) (k:Int):Option ((Int×Int)⊕Int):=
 idx x.Values i>>=fun x2=>
 if (decide (k<(x2.Subs.length:Int))) then (
  idx x.Values i>>=fun x3=>
  idx x3.Subs k>>=fun x4=>
  xb x4>>=fun rv=>
  some (.inl ((IntKind.i64.wrap (n3+rv)),(IntKind.i64.wrap (k+1))))
 ) else (
  some (.inr n3)
 )
def zcw (i:Int) (xb:zb->Option Int) (x:zb) (n3:Int) (k:Int):Option Int:=zaJ (fun s:(Int×Int)=>zaD i xb x s.1 s.2) (n3,k)
def zaC (xb:zb->Option Int) (x:zb) (n:Int) (i:Int):Option ((Int×Int)⊕Int):=
 if (decide (i<(x.Values.length:Int))) then (
  zcw i xb x n 0>>=fun q=>
  some (.inl (q,(IntKind.i64.wrap (i+1))))
 ) else (
  some (.inr n)
 )
def zcv (xb:zb->Option Int) (x:zb) (n:Int) (i:Int):Option Int:=zaJ (fun s:(Int×Int)=>zaC xb x s.1 s.2) (n,i)
def zdg (xb:zb->Option Int) (x:zb):Option Int:=
 zcv xb x (x.Unknown.length:Int) 0>>=fun q2=>
 some q2
def zaI:Nat->zb->Option Int
  | 0,_=>none
  | fuel+1,x=>zdg (zaI fuel) x
theorem zjC {i:Int} {xb:zb->Option Int} {x:zb} {n3:Int} {k:Int} {n3':Int} {k':Int} (h:zaD i xb x n3 k=some (.inl (n3',k'))):zcw i xb x n3 k=zcw i xb x n3' k':=zY (body:=fun s:(Int×Int)=>zaD i xb x s.1 s.2) h
theorem zjD {i:Int} {xb:zb->Option Int} {x:zb} {n3:Int} {k:Int} {oo_:Int} (h:zaD i xb x n3 k=some (.inr oo_)):zcw i xb x n3 k=some oo_:=zZ (body:=fun s:(Int×Int)=>zaD i xb x s.1 s.2) h
theorem zjA {xb:zb->Option Int} {x:zb} {n:Int} {i:Int} {n':Int} {i':Int} (h:zaC xb x n i=some (.inl (n',i'))):zcv xb x n i=zcv xb x n' i':=zY (body:=fun s:(Int×Int)=>zaC xb x s.1 s.2) h
theorem zjB {xb:zb->Option Int} {x:zb} {n:Int} {i:Int} {oo_:Int} (h:zaC xb x n i=some (.inr oo_)):zcv xb x n i=some oo_:=zZ (body:=fun s:(Int×Int)=>zaC xb x s.1 s.2) h
def zdf (fuel:Nat) (sv:(List zf)) (root:Int) (av:zb) (b:zb) (c:zb) (ways:(List (List Int))):Option Bool:=
 zfn fuel>>=fun rv=>
 if (!rv) then (
  some false
 ) else (
  (
   zgc sv>>=fun rv2=>
   if (!rv2) then (
    some true
   ) else (
    zgd fuel ([av,b,c]:(List zb))>>=fun rv3=>
    if rv3 then (
     some true
    ) else (
     zfD ways>>=fun rv4=>
     if rv4 then (
      some true
     ) else (
      zeq fuel sv root av>>=fun rv5=>
      if (!rv5) then (
       some true
      ) else (
       zeq fuel sv root b>>=fun rv6=>
       if (!rv6) then (
        some true
       ) else (
        zeq fuel sv root c>>=fun rv7=>
        some (!rv7)
       )
      )
     )
    )
   )
  )>>=fun g=>
  if g then (
   some true
  ) else (
   zcQ fuel sv root av b>>=fun rv8=>
   zcQ fuel sv root b c>>=fun rv9=>
   zcQ fuel sv root rv8.1 c>>=fun rv10=>
   zcQ fuel sv root av rv9.1>>=fun rv11=>
   zcQ fuel sv root av (⟨[],[]⟩:zb)>>=fun rv12=>
   zcQ fuel sv root (⟨[],[]⟩:zb) av>>=fun rv13=>
   (
    if ((IntKind.i64.wrap ((IntKind.i64.wrap ((IntKind.i64.wrap ((IntKind.i64.wrap ((IntKind.i64.wrap ((IntKind.i64.wrap rv8.2)+(IntKind.i64.wrap rv9.2)))+(IntKind.i64.wrap rv10.2)))+(IntKind.i64.wrap rv11.2)))+(IntKind.i64.wrap rv12.2)))+(IntKind.i64.wrap rv13.2))) !=0) then (
     some true
    ) else (
     zhJ fuel rv10.1 rv11.1>>=fun rv14=>
     if (!rv14) then (
      some true
     ) else (
      zhJ fuel rv12.1 av>>=fun rv15=>
      if (!rv15) then (
       some true
      ) else (
       zhJ fuel rv13.1 av>>=fun rv16=>
       if (!rv16) then (
        some true
       ) else (
        zeq fuel sv root rv10.1>>=fun rv17=>
        some (!rv17)
       )
      )
     )
    )
   )>>=fun g2=>
   if g2 then (
    some false
   ) else (
    zmP ways>>=fun rv18=>
    ziE fuel sv root av rv18>>=fun rv19=>
    zgQ fuel sv root av rv18>>=fun rv20=>
    zcQ fuel sv root rv19.1 rv20.1>>=fun rv21=>
    zfO fuel sv root rv21.1>>=fun rv22=>
    zfO fuel sv root av>>=fun rv23=>
    (
     if ((IntKind.i64.wrap ((IntKind.i64.wrap ((IntKind.i64.wrap ((IntKind.i64.wrap ((IntKind.i64.wrap rv19.2)+(IntKind.i64.wrap rv20.2)))+(IntKind.i64.wrap rv21.2)))+(IntKind.i64.wrap rv22.2)))+(IntKind.i64.wrap rv23.2)))==0) then (
      zeq fuel sv root rv19.1>>=fun rv24=>
      if rv24 then (
       zeq fuel sv root rv20.1>>=fun rv25=>
       if rv25 then (
        zhJ fuel (⟨rv22.1.Values,[]⟩:zb) (⟨rv23.1.Values,[]⟩:zb)>>=fun rv26=>
        if rv26 then (
         zaI fuel rv21.1>>=fun rv27=>
         zaI fuel av>>=fun rv28=>
         some (rv27==rv28)
        ) else (
         some false
        )
       ) else (
        some false
       )
      ) else (
       some false
      )
     ) else (
      some false
     )
    )>>=fun g3=>
    some g3
   )
  )
 )
end
end Go.Proofs.YtekgmimingolbaaGreat
