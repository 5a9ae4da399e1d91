/-
  What the Go functions do, as plain functions. No condition.
-/
import Derived.Test.YtcbkcblkecmjnaaGreatx2K2
namespace Go.Proofs.YtcbkcblkecmjnaaGreat
open Go
set_option linter.unusedVariables false
abbrev Str:=List UInt8
structure zJi where
  a0:Str
  a1:Str
  a2:Str
  a3:Str
  a4:Str
  a5:Str
  a6:Str
  a7:Str
  a8:Str
  a9:Str
  a10:Str
  a11:Str
  a12:Str
  a13:Str
  a14:Str deriving DecidableEq
structure zu where
  Number:Int
  Wire:Int
  From:Int
  At:Int
  To:Int deriving DecidableEq
def zY:Rp zu:=⟨5,true,fun x=>[.int .i64 x.Number,.int .i64 x.Wire,.int .i64 x.From,.int .i64 x.At,.int .i64 x.To],fun _=>rfl,by decide⟩
structure zg where
  Record:zu
  Field:Int
  Run:Bool deriving DecidableEq
def zj:Rp zg:=⟨7,true,fun x=>[.int .i64 x.Record.Number,.int .i64 x.Record.Wire,.int .i64 x.Record.From,.int .i64 x.Record.At,.int .i64 x.Record.To,.int .i64 x.Field,.bool x.Run],fun _=>rfl,by decide⟩
structure zB where
  name:Str
  wire:Int deriving DecidableEq
def zI:Rp zB:=⟨2,true,fun x=>[.str x.name,.int .i64 x.wire],fun _=>rfl,by decide⟩
structure ze where
  Name:Str
  Number:Int
  Kind:Int
  Repeated:Bool
  Packed:Bool
  Of:Int deriving DecidableEq
def zf:Rp ze:=⟨6,true,fun x=>[.str x.Name,.int .i64 x.Number,.int .i64 x.Kind,.bool x.Repeated,.bool x.Packed,.int .i64 x.Of],fun _=>rfl,by decide⟩
mutual
structure zc where
  Values:(List zb)
  Unknown:(List Str)
structure zb where
  Number:Int
  Words:(List Int)
  Texts:(List Str)
  Subs:(List zc)
end
mutual
def zhx:zc→List LV
  | ⟨x0,x1⟩=>[.sl x0.length 4 (zdL x0),.sl x1.length Rp.str.size (x1.flatMap Rp.str.lv)]
def zgY:List zc→List LV
  | []=>[]
  | x::l=>zhx x++zgY l
def zdZ:zb→List LV
  | ⟨x0,x1,x2,x3⟩=>[.int .i64 x0,.sl x1.length (Rp.int .u64).size (x1.flatMap (Rp.int .u64).lv),.sl x2.length Rp.str.size (x2.flatMap Rp.str.lv),.sl x3.length 2 (zgY x3)]
def zdL:List zb→List LV
  | []=>[]
  | x::l=>zdZ x++zdL l
end
theorem zqR (l:List zc):zgY l=l.flatMap zhx:=by
  induction l with
  | nil=>rfl
  | cons x l ih=>rw [zgY,ih,List.flatMap_cons]
def zd:Rp zc:=⟨2,true,zhx,fun x=>by cases x;rfl,by decide⟩
theorem zlj (l:List zb):zdL l=l.flatMap zdZ:=by
  induction l with
  | nil=>rfl
  | cons x l ih=>rw [zdL,ih,List.flatMap_cons]
def za:Rp zb:=⟨4,true,zdZ,fun x=>by cases x;rfl,by decide⟩
theorem zo (x:zc):zd.lv x=[.sl x.Values.length za.size (x.Values.flatMap za.lv),.sl x.Unknown.length Rp.str.size (x.Unknown.flatMap Rp.str.lv)]:=by
  cases x;simp only [zd,zhx,zlj,za]<;>rfl
theorem zq (x:zb):za.lv x=[.int .i64 x.Number,.sl x.Words.length (Rp.int .u64).size (x.Words.flatMap (Rp.int .u64).lv),.sl x.Texts.length Rp.str.size (x.Texts.flatMap Rp.str.lv),.sl x.Subs.length zd.size (x.Subs.flatMap zd.lv)]:=by
  cases x;simp only [za,zdZ,zqR,zd]<;>rfl
structure zh where
  Name:Str
  Fields:(List ze) deriving DecidableEq
def zi:Rp zh:=⟨2,true,fun x=>[.str x.Name,.sl x.Fields.length zf.size (x.Fields.flatMap zf.lv)],fun _=>rfl,by decide⟩
structure zbS where
  Number:Int
  Wire:Int deriving DecidableEq
def zgk:Rp zbS:=⟨2,true,fun x=>[.int .i64 x.Number,.int .i64 x.Wire],fun _=>rfl,by decide⟩
structure zr where
  message:Int
  name:Str deriving DecidableEq
def zw:Rp zr:=⟨2,true,fun x=>[.int .i64 x.message,.str x.name],fun _=>rfl,by decide⟩
structure zt where
  message:Int
  number:Int deriving DecidableEq
def zv:Rp zt:=⟨2,true,fun x=>[.int .i64 x.message,.int .i64 x.number],fun _=>rfl,by decide⟩
structure zbd where
  size:Int
  kinds:(List Int)
  names:(List (zr×Bool))
  numbers:(List (zt×Bool))
structure zbC where
  Message:Int
  Field:Int
  What:Int deriving DecidableEq
def zeC:Rp zbC:=⟨3,true,fun x=>[.int .i64 x.Message,.int .i64 x.Field,.int .i64 x.What],fun _=>rfl,by decide⟩
structure zS where
  number:Int
  wire:Int deriving DecidableEq
def zad:Rp zS:=⟨2,true,fun x=>[.int .i64 x.number,.int .i64 x.wire],fun _=>rfl,by decide⟩
structure zX where
  field:Int
  run:Bool
  e:Int deriving DecidableEq
def zaf:Rp zX:=⟨3,true,fun x=>[.int .i64 x.field,.bool x.run,.int .u8 x.e],fun _=>rfl,by decide⟩
structure zwl where
  R:zu
  Field:Int
  Run:Bool deriving DecidableEq
structure zn where
  message:Int
  number:Int
  wire:Int deriving DecidableEq
def zk:Rp zn:=⟨3,true,fun x=>[.int .i64 x.message,.int .i64 x.number,.int .i64 x.wire],fun _=>rfl,by decide⟩
structure zaF where
  s:(List zh)
  b:(List UInt8)
  met:(List (zn×zg))
structure zF where
  depth:Int
  place:Int
  e:Int deriving DecidableEq
def zaN:Rp zF:=⟨3,true,fun x=>[.int .i64 x.depth,.int .i64 x.place,.int .u8 x.e],fun _=>rfl,by decide⟩
structure zJj where
  a0:Int
  a1:Int deriving DecidableEq
end Go.Proofs.YtcbkcblkecmjnaaGreat
namespace Go.Proofs.YtcbkcblkecmjnaaGreat
open Go
set_option linter.unusedVariables false
noncomputable section
def zbW (sv:(List zc)):Option (List zc):=
 nilO sv (
  some []
 ) (
  app 48 ([]:(List zc)) sv>>=fun v=>
  some v
 )
def zbm (sv:(List zb)):Option (List zb):=
 nilO sv (
  some []
 ) (
  app 80 ([]:(List zb)) sv>>=fun v=>
  some v
 )
def zdp (n:Int):Option (List UInt8):=
 if (decide (n<0)) then (
  none
 ) else (
  if (decide ((IntKind.i64.wrap (n - (IntKind.i64.wrap (0 - 0))))>0)) then (
   mkO 1 (0:UInt8) (IntKind.i64.wrap (n - (IntKind.i64.wrap (0 - 0)))) (IntKind.i64.wrap (n - (IntKind.i64.wrap (0 - 0))))>>=fun v=>
   cut v 0 0>>=fun v2=>
   some v2
  ) else (
   some []
  )
 )
def zat (slices:(List (List UInt8))) (size:Int) (v:Int):Option ((Int×Int)⊕Int):=
 if (decide (v<(slices.length:Int))) then (
  idx slices v>>=fun x=>
  if (decide ((IntKind.i64.wrap (size+(x.length:Int)))<0)) then (
   none
  ) else (
   some (.inl ((IntKind.i64.wrap (size+(x.length:Int))),(IntKind.i64.wrap (v+1))))
  )
 ) else (
  some (.inr size)
 )
def zbO (slices:(List (List UInt8))) (size:Int) (v:Int):Option Int:=zap (fun s:(Int×Int)=>zat slices s.1 s.2) (size,v)
def zau (slices:(List (List UInt8))) (newslice:(List UInt8)) (v2:Int):Option (((List UInt8)×Int)⊕(List UInt8)):=
 if (decide (v2<(slices.length:Int))) then (
  idx slices v2>>=fun x2=>
  app 1 newslice x2>>=fun v3=>
  some (.inl (v3,(IntKind.i64.wrap (v2+1))))
 ) else (
  some (.inr newslice)
 )
def zbP (slices:(List (List UInt8))) (newslice:(List UInt8)) (v2:Int):Option (List UInt8):=zap (fun s:((List UInt8)×Int)=>zau slices s.1 s.2) (newslice,v2)
def zcQ (slices:(List (List UInt8))):Option (List UInt8):=
 zbO slices 0 0>>=fun q=>
 zdp q>>=fun rv=>
 zbP slices rv 0>>=fun q2=>
 some q2
theorem zjd {slices:(List (List UInt8))} {size:Int} {v:Int} {size':Int} {v':Int} (h:zat slices size v=some (.inl (size',v'))):zbO slices size v=zbO slices size' v':=zO (body:=fun s:(Int×Int)=>zat slices s.1 s.2) h
theorem zje {slices:(List (List UInt8))} {size:Int} {v:Int} {oo_:Int} (h:zat slices size v=some (.inr oo_)):zbO slices size v=some oo_:=zN (body:=fun s:(Int×Int)=>zat slices s.1 s.2) h
theorem zjf {slices:(List (List UInt8))} {newslice:(List UInt8)} {v2:Int} {newslice':(List UInt8)} {v2':Int} (h:zau slices newslice v2=some (.inl (newslice',v2'))):zbP slices newslice v2=zbP slices newslice' v2':=zO (body:=fun s:((List UInt8)×Int)=>zau slices s.1 s.2) h
theorem zjg {slices:(List (List UInt8))} {newslice:(List UInt8)} {v2:Int} {oo_:(List UInt8)} (h:zau slices newslice v2=some (.inr oo_)):zbP slices newslice v2=some oo_:=zN (body:=fun s:((List UInt8)×Int)=>zau slices s.1 s.2) h
def zax (sv:(List Int)) (v:Int) (v2:Int):Option (Int⊕(Unit⊕Int)):=
 if (decide (v2<(sv.length:Int))) then (
  idx sv v2>>=fun x=>
  if (v==x) then (
   some (.inr (.inr v2))
  ) else (
   some (.inl (IntKind.i64.wrap (v2+1)))
  )
 ) else (
  some (.inr (.inl ()))
 )
def zcq (sv:(List Int)) (v:Int) (v2:Int):Option (Unit⊕Int):=zap (fun s:Int=>zax sv v s) v2
def zdI (sv:(List Int)) (v:Int):Option Int:=
 zcq sv v 0>>=fun q=>
 match q with
 | .inl u=>(
  some (-1)
 )
 | .inr u2=>(
  some u2
 )
theorem zjZ {sv:(List Int)} {v:Int} {v2:Int} {v2':Int} (h:zax sv v v2=some (.inl v2')):zcq sv v v2=zcq sv v v2':=zO (body:=fun s:Int=>zax sv v s) h
theorem zgE {sv:(List Int)} {v:Int} {v2:Int} {oo_:(Unit⊕Int)} (h:zax sv v v2=some (.inr oo_)):zcq sv v v2=some oo_:=zN (body:=fun s:Int=>zax sv v s) h
def zcR (sv:(List Int)) (v:Int):Option Bool:=
 zdI sv v>>=fun rv=>
 some (decide (rv≥0))
def zbN (sv:(List Str)):Option (List Str):=
 nilO sv (
  some []
 ) (
  app 16 ([]:(List Str)) sv>>=fun v=>
  some v
 )
def zcv (sv:(List Int)):Option (List Int):=
 nilO sv (
  some []
 ) (
  app 8 ([]:(List Int)) sv>>=fun v=>
  some v
 )
def zak (s1:(List Int)) (s2:(List Int)) (v:Int):Option (Int⊕(Unit⊕Unit)):=
 if (decide (v<(s1.length:Int))) then (
  idx s1 v>>=fun x=>
  idx s2 v>>=fun x2=>
  if (x !=x2) then (
   some (.inr (.inr ()))
  ) else (
   some (.inl (IntKind.i64.wrap (v+1)))
  )
 ) else (
  some (.inr (.inl ()))
 )
def zbo (s1:(List Int)) (s2:(List Int)) (v:Int):Option (Unit⊕Unit):=zap (fun s:Int=>zak s1 s2 s) v
def zcw (s1:(List Int)) (s2:(List Int)):Option Bool:=
 if ((s1.length:Int) !=(s2.length:Int)) then (
  some false
 ) else (
  zbo s1 s2 0>>=fun q=>
  match q with
  | .inl u=>(
   some true
  )
  | .inr u2=>(
   some false
  )
 )
theorem zio {s1:(List Int)} {s2:(List Int)} {v:Int} {v':Int} (h:zak s1 s2 v=some (.inl v')):zbo s1 s2 v=zbo s1 s2 v':=zO (body:=fun s:Int=>zak s1 s2 s) h
theorem zfh {s1:(List Int)} {s2:(List Int)} {v:Int} {oo_:(Unit⊕Unit)} (h:zak s1 s2 v=some (.inr oo_)):zbo s1 s2 v=some oo_:=zN (body:=fun s:Int=>zak s1 s2 s) h
def zaj (s1:(List Str)) (s2:(List Str)) (v:Int):Option (Int⊕(Unit⊕Unit)):=
 if (decide (v<(s1.length:Int))) then (
  idx s1 v>>=fun x=>
  idx s2 v>>=fun x2=>
  if (!(x==x2)) then (
   some (.inr (.inr ()))
  ) else (
   some (.inl (IntKind.i64.wrap (v+1)))
  )
 ) else (
  some (.inr (.inl ()))
 )
def zbn (s1:(List Str)) (s2:(List Str)) (v:Int):Option (Unit⊕Unit):=zap (fun s:Int=>zaj s1 s2 s) v
def zbQ (s1:(List Str)) (s2:(List Str)):Option Bool:=
 if ((s1.length:Int) !=(s2.length:Int)) then (
  some false
 ) else (
  zbn s1 s2 0>>=fun q=>
  match q with
  | .inl u=>(
   some true
  )
  | .inr u2=>(
   some false
  )
 )
theorem zin {s1:(List Str)} {s2:(List Str)} {v:Int} {v':Int} (h:zaj s1 s2 v=some (.inl v')):zbn s1 s2 v=zbn s1 s2 v':=zO (body:=fun s:Int=>zaj s1 s2 s) h
theorem zfg {s1:(List Str)} {s2:(List Str)} {v:Int} {oo_:(Unit⊕Unit)} (h:zaj s1 s2 v=some (.inr oo_)):zbn s1 s2 v=some oo_:=zN (body:=fun s:Int=>zaj s1 s2 s) h
end
end Go.Proofs.YtcbkcblkecmjnaaGreat
namespace Go.Proofs.YtcbkcblkecmjnaaGreat
open Go
set_option linter.unusedVariables false
noncomputable section
def zfn (wv2:Int) (n:Int):Option ((Int×Int)⊕Int):=
 if (wv2 !=0) then (
  some (.inl ((shrI .u64 wv2 7),(IntKind.i64.wrap (n+1))))
 ) else (
  some (.inr n)
 )
def ziP (wv2:Int) (n:Int):Option Int:=zap (fun s:(Int×Int)=>zfn s.1 s.2) (wv2,n)
def zpc (wv:Int):Option Int:=
 ziP (shrI .u64 wv 7) 1>>=fun q=>
 some q
theorem ztL {wv2:Int} {n:Int} {wv2':Int} {n':Int} (h:zfn wv2 n=some (.inl (wv2',n'))):ziP wv2 n=ziP wv2' n':=zO (body:=fun s:(Int×Int)=>zfn s.1 s.2) h
theorem ztM {wv2:Int} {n:Int} {oo_:Int} (h:zfn wv2 n=some (.inr oo_)):ziP wv2 n=some oo_:=zN (body:=fun s:(Int×Int)=>zfn s.1 s.2) h
def zjM (wv:Int):Option Int:=
 some (IntKind.u32.wrap wv)
def zkm (wv:Int):Option Int:=
 zjM wv>>=fun rv=>
 some (IntKind.i32.wrap rv)
def zkn (n:Int):Option Int:=
 some (IntKind.u64.wrap (IntKind.i64.wrap n))
def zev (v:(List UInt8)) (wv:Int) (v2:Int):Option ((Int×Int)⊕Int):=
 if (decide (v2<(v.length:Int))) then (
  idx v v2>>=fun x=>
  shlO .u64 (IntKind.u64.wrap (x.toNat:Int)) (IntKind.i64.wrap (8*v2))>>=fun v3=>
  some (.inl ((orI .u64 wv v3),(IntKind.i64.wrap (v2+1))))
 ) else (
  some (.inr wv)
 )
def zhU (v:(List UInt8)) (wv:Int) (v2:Int):Option Int:=zap (fun s:(Int×Int)=>zev v s.1 s.2) (wv,v2)
def znk (b:(List UInt8)):Option Int:=
 cut b 0 (if (8:Int)<(b.length:Int) then 8 else (b.length:Int))>>=fun v=>
 zhU v 0 0>>=fun q=>
 some q
theorem zsx {v:(List UInt8)} {wv:Int} {v2:Int} {wv':Int} {v2':Int} (h:zev v wv v2=some (.inl (wv',v2'))):zhU v wv v2=zhU v wv' v2':=zO (body:=fun s:(Int×Int)=>zev v s.1 s.2) h
theorem zsy {v:(List UInt8)} {wv:Int} {v2:Int} {oo_:Int} (h:zev v wv v2=some (.inr oo_)):zhU v wv v2=some oo_:=zN (body:=fun s:(Int×Int)=>zev v s.1 s.2) h
def zfa (wv:Int):Option Int:=
 if (decide ((IntKind.i64.wrap (Int.tmod wv 4294967296))≥2147483648)) then (
  some (IntKind.i64.wrap ((IntKind.i64.wrap (Int.tmod wv 4294967296)) - 4294967296))
 ) else (
  some (IntKind.i64.wrap (Int.tmod wv 4294967296))
 )
def zfV (n:Int):Option Int:=
 if (decide (n≥0)) then (
  some (IntKind.u64.wrap n)
 ) else (
  some (IntKind.u64.wrap (18446744073709551615 - (IntKind.u64.wrap (IntKind.i64.wrap (0 - (IntKind.i64.wrap (n+1)))))))
 )
end
end Go.Proofs.YtcbkcblkecmjnaaGreat
namespace Go.Proofs.YtcbkcblkecmjnaaGreat
open Go
set_option linter.unusedVariables false
noncomputable section
def zcS (v:(List UInt8)) (wv:Int) (v2:Int):Option ((Int×Int)⊕(Unit⊕(Int×Int×Int))):=
 if (decide (v2<(v.length:Int))) then (
  idx v v2>>=fun x=>
  if ((v2==9)&&(decide ((x.toNat:Int)>1))) then (
   some (.inr (.inr (0,0,4)))
  ) else (
   shlO .u64 (IntKind.u64.wrap (andI .u8 (x.toNat:Int) 127)) (IntKind.i64.wrap (7*v2))>>=fun v4=>
   if (decide ((x.toNat:Int)<128)) then (
    some (.inr (.inr ((orI .u64 wv v4),(IntKind.i64.wrap (v2+1)),0)))
   ) else (
    some (.inl ((orI .u64 wv v4),(IntKind.i64.wrap (v2+1))))
   )
  )
 ) else (
  some (.inr (.inl ()))
 )
def zgL (v:(List UInt8)) (wv:Int) (v2:Int):Option (Unit⊕(Int×Int×Int)):=zap (fun s:(Int×Int)=>zcS v s.1 s.2) (wv,v2)
def zgj (b:(List UInt8)):Option (Int×Int×Int):=
 cut b 0 (if (10:Int)<(b.length:Int) then 10 else (b.length:Int))>>=fun v=>
 zgL v 0 0>>=fun q=>
 match q with
 | .inl u=>(
  some (0,0,3)
 )
 | .inr u2=>(
  some (u2.1,u2.2.1,u2.2.2)
 )
theorem zrm {v:(List UInt8)} {wv:Int} {v2:Int} {wv':Int} {v2':Int} (h:zcS v wv v2=some (.inl (wv',v2'))):zgL v wv v2=zgL v wv' v2':=zO (body:=fun s:(Int×Int)=>zcS v s.1 s.2) h
theorem ziO {v:(List UInt8)} {wv:Int} {v2:Int} {oo_:(Unit⊕(Int×Int×Int))} (h:zcS v wv v2=some (.inr oo_)):zgL v wv v2=some oo_:=zN (body:=fun s:(Int×Int)=>zcS v s.1 s.2) h
def zkk (b2:(List UInt8)) (l:(List Int)):Option (((List UInt8)×(List Int))⊕((List Int)⊕Int)):=
 if (decide ((b2.length:Int)>0)) then (
  zgj b2>>=fun rv=>
  if (rv.2.2 !=0) then (
   some (.inr (.inr rv.2.2))
  ) else (
   app 8 l ([rv.1]:(List Int))>>=fun v2=>
   cut b2 rv.2.1 (b2.length:Int)>>=fun v3=>
   some (.inl (v3,v2))
  )
 ) else (
  some (.inr (.inl l))
 )
def zqH (b2:(List UInt8)) (l:(List Int)):Option ((List Int)⊕Int):=zap (fun s:((List UInt8)×(List Int))=>zkk s.1 s.2) (b2,l)
theorem zsp {b2:(List UInt8)} {l:(List Int)} {oo_:((List Int)⊕Int)} (h:zkk b2 l=some (.inr oo_)):zqH b2 l=some oo_:=zN (body:=fun s:((List UInt8)×(List Int))=>zkk s.1 s.2) h
def zbh (av:(List Int)) (b:(List Int)) (i:Int):Option (Int⊕(Unit⊕Unit)):=
 if (decide (i<(av.length:Int))) then (
  idx av i>>=fun x=>
  idx b i>>=fun x2=>
  if (x !=x2) then (
   some (.inr (.inr ()))
  ) else (
   some (.inl (IntKind.i64.wrap (i+1)))
  )
 ) else (
  some (.inr (.inl ()))
 )
def zcu (av:(List Int)) (b:(List Int)) (i:Int):Option (Unit⊕Unit):=zap (fun s:Int=>zbh av b s) i
def zcY (av:(List Int)) (b:(List Int)):Option Bool:=
 if ((av.length:Int) !=(b.length:Int)) then (
  some false
 ) else (
  zcu av b 0>>=fun q=>
  match q with
  | .inl u=>(
   some true
  )
  | .inr u2=>(
   some false
  )
 )
theorem zmJ {av:(List Int)} {b:(List Int)} {i:Int} {i':Int} (h:zbh av b i=some (.inl i')):zcu av b i=zcu av b i':=zO (body:=fun s:Int=>zbh av b s) h
theorem zir {av:(List Int)} {b:(List Int)} {i:Int} {oo_:(Unit⊕Unit)} (h:zbh av b i=some (.inr oo_)):zcu av b i=some oo_:=zN (body:=fun s:Int=>zbh av b s) h
def zaQ (atv:Int) (b:(List UInt8)) (n:Int):Option (Int⊕Int):=
 (
  if (decide ((IntKind.i64.wrap (atv+n))<(b.length:Int))) then (
   if (decide (n<10)) then (
    idx b (IntKind.i64.wrap (atv+n))>>=fun x=>
    some (decide ((x.toNat:Int)≥128))
   ) else (
    some false
   )
  ) else (
   some false
  )
 )>>=fun g=>
 if g then (
  some (.inl (IntKind.i64.wrap (n+1)))
 ) else (
  some (.inr n)
 )
def zdu (atv:Int) (b:(List UInt8)) (n:Int):Option Int:=zap (fun s:Int=>zaQ atv b s) n
def zbF (atv:Int) (b:(List UInt8)) (wv:Int) (i:Int):Option ((Int×Int)⊕Int):=
 if (decide (i≥0)) then (
  idx b (IntKind.i64.wrap (atv+i))>>=fun x3=>
  some (.inl ((IntKind.u64.wrap ((IntKind.u64.wrap (128*wv))+(IntKind.u64.wrap (Int.tmod (x3.toNat:Int) 128)))),(IntKind.i64.wrap (i - 1))))
 ) else (
  some (.inr wv)
 )
def zdv (atv:Int) (b:(List UInt8)) (wv:Int) (i:Int):Option Int:=zap (fun s:(Int×Int)=>zbF atv b s.1 s.2) (wv,i)
def zdW (b:(List UInt8)) (atv:Int):Option (Int×Int×Int):=
 zdu atv b 0>>=fun q=>
 if (q==10) then (
  some (0,0,4)
 ) else (
  if ((IntKind.i64.wrap (atv+q))==(b.length:Int)) then (
   some (0,0,3)
  ) else (
   (
    if (q==9) then (
     idx b (IntKind.i64.wrap (atv+q))>>=fun x2=>
     some (decide ((x2.toNat:Int)>1))
    ) else (
     some false
    )
   )>>=fun g2=>
   if g2 then (
    some (0,0,4)
   ) else (
    zdv atv b 0 q>>=fun q2=>
    some (q2,(IntKind.i64.wrap (q+1)),0)
   )
  )
 )
theorem zmG {atv:Int} {b:(List UInt8)} {n:Int} {n':Int} (h:zaQ atv b n=some (.inl n')):zdu atv b n=zdu atv b n':=zO (body:=fun s:Int=>zaQ atv b s) h
theorem zgl {atv:Int} {b:(List UInt8)} {n:Int} {oo_:Int} (h:zaQ atv b n=some (.inr oo_)):zdu atv b n=some oo_:=zN (body:=fun s:Int=>zaQ atv b s) h
theorem zmH {atv:Int} {b:(List UInt8)} {wv:Int} {i:Int} {wv':Int} {i':Int} (h:zbF atv b wv i=some (.inl (wv',i'))):zdv atv b wv i=zdv atv b wv' i':=zO (body:=fun s:(Int×Int)=>zbF atv b s.1 s.2) h
theorem zmI {atv:Int} {b:(List UInt8)} {wv:Int} {i:Int} {oo_:Int} (h:zbF atv b wv i=some (.inr oo_)):zdv atv b wv i=some oo_:=zN (body:=fun s:(Int×Int)=>zbF atv b s.1 s.2) h
def zjb (b:(List UInt8)):Option (Int×Int):=
 zgj b>>=fun rv=>
 some (rv.2.1,rv.2.2)
end
end Go.Proofs.YtcbkcblkecmjnaaGreat
namespace Go.Proofs.YtcbkcblkecmjnaaGreat
open Go
set_option linter.unusedVariables false
noncomputable section
def ziB (wire:Int):Option Bool:=
 if (wire==0) then (
  if (wire==0) then (
   some true
  ) else (
   some false
  )
 ) else (
  if (wire==1) then (
   if (wire==1) then (
    some true
   ) else (
    some false
   )
  ) else (
   if (wire==2) then (
    if (wire==2) then (
     some true
    ) else (
     some false
    )
   ) else (
    if (wire==5) then (
     some true
    ) else (
     some false
    )
   )
  )
 )
def znI (t:zbS):Option Bool:=
 (
  if (decide (t.Number≥1)) then (
   if (decide (t.Number≤536870911)) then (
    ziB t.Wire>>=fun rv=>
    some rv
   ) else (
    some false
   )
  ) else (
   some false
  )
 )>>=fun g=>
 some g
def zpH (b:(List UInt8)):Option (zbS×Int×Int):=
 zgj b>>=fun rv=>
 if (rv.2.2 !=0) then (
  some ((⟨0,0⟩:zbS),0,rv.2.2)
 ) else (
  znI (⟨(IntKind.i64.wrap (if (536870912:Int)<(shrI .u64 rv.1 3) then 536870912 else (shrI .u64 rv.1 3))),(IntKind.i64.wrap (andI .u64 rv.1 7))⟩:zbS)>>=fun rv2=>
  if (!rv2) then (
   some ((⟨0,0⟩:zbS),0,5)
  ) else (
   some ((⟨(IntKind.i64.wrap (if (536870912:Int)<(shrI .u64 rv.1 3) then 536870912 else (shrI .u64 rv.1 3))),(IntKind.i64.wrap (andI .u64 rv.1 7))⟩:zbS),rv.2.1,0)
  )
 )
def zfv (number:Int) (wire:Int):Option Bool:=
 some ((decide (number≥1))&&((decide (number≤536870911))&&((wire==0)|| ((wire==1)|| ((wire==2)|| (wire==5))))))
def zfW (b:(List UInt8)) (atv:Int):Option (Int×Int×Int×Int):=
 zdW b atv>>=fun rv=>
 if (rv.2.2 !=0) then (
  some (0,0,0,rv.2.2)
 ) else (
  (
   if (decide (rv.1>4294967295)) then (
    some true
   ) else (
    zfv (IntKind.i64.wrap (IntKind.u64.wrap (Int.tdiv rv.1 8))) (IntKind.i64.wrap (Int.tmod rv.1 8))>>=fun rv2=>
    some (!rv2)
   )
  )>>=fun g=>
  if g then (
   some (0,0,0,5)
  ) else (
   some ((IntKind.i64.wrap (IntKind.u64.wrap (Int.tdiv rv.1 8))),(IntKind.i64.wrap (Int.tmod rv.1 8)),rv.2.1,0)
  )
 )
end
end Go.Proofs.YtcbkcblkecmjnaaGreat
namespace Go.Proofs.YtcbkcblkecmjnaaGreat
open Go
set_option linter.unusedVariables false
noncomputable section
def zso (c:Int):Option (Int×Int):=
 if ((shrI .u8 c 7)==0) then (
  some (1,(IntKind.u32.wrap c))
 ) else (
  if ((shrI .u8 c 5)==6) then (
   some (2,(IntKind.u32.wrap (andI .u8 c 31)))
  ) else (
   if ((shrI .u8 c 4)==14) then (
    some (3,(IntKind.u32.wrap (andI .u8 c 15)))
   ) else (
    if ((shrI .u8 c 3)==30) then (
     some (4,(IntKind.u32.wrap (andI .u8 c 7)))
    ) else (
     some (0,0)
    )
   )
  )
 )
def znR (wv:Int):Option Int:=
 if ((shrI .u32 wv 7)==0) then (
  some 1
 ) else (
  if ((shrI .u32 wv 11)==0) then (
   some 2
  ) else (
   if ((shrI .u32 wv 11)==27) then (
    some 0
   ) else (
    if ((shrI .u32 wv 16)==0) then (
     some 3
    ) else (
     if (decide (wv≤1114111)) then (
      some 4
     ) else (
      some 0
     )
    )
   )
  )
 )
def zeL (v2:(List UInt8)) (wv:Int) (v3:Int):Option ((Int×Int)⊕(Int⊕Unit)):=
 if (decide (v3<(v2.length:Int))) then (
  idx v2 v3>>=fun x2=>
  if ((shrI .u8 (x2.toNat:Int) 6) !=2) then (
   some (.inr (.inr ()))
  ) else (
   some (.inl ((orI .u32 (shlI .u32 wv 6) (IntKind.u32.wrap (andI .u8 (x2.toNat:Int) 63))),(IntKind.i64.wrap (v3+1))))
  )
 ) else (
  some (.inr (.inl wv))
 )
def zdc (v2:(List UInt8)) (wv:Int) (v3:Int):Option (Int⊕Unit):=zap (fun s:(Int×Int)=>zeL v2 s.1 s.2) (wv,v3)
def znQ (b:(List UInt8)):Option Int:=
 if ((b.length:Int)==0) then (
  some 0
 ) else (
  idx b 0>>=fun x=>
  zso (x.toNat:Int)>>=fun rv=>
  if ((rv.1==0)|| (decide (rv.1>(b.length:Int)))) then (
   some 0
  ) else (
   cut b 1 rv.1>>=fun v2=>
   zdc v2 rv.2 0>>=fun q=>
   match q with
   | .inl u=>(
    znR u>>=fun rv2=>
    if (rv.1 !=rv2) then (
     some 0
    ) else (
     some rv.1
    )
   )
   | .inr u2=>(
    some 0
   )
  )
 )
theorem ztV {v2:(List UInt8)} {wv:Int} {v3:Int} {wv':Int} {v3':Int} (h:zeL v2 wv v3=some (.inl (wv',v3'))):zdc v2 wv v3=zdc v2 wv' v3':=zO (body:=fun s:(Int×Int)=>zeL v2 s.1 s.2) h
theorem zoC {v2:(List UInt8)} {wv:Int} {v3:Int} {oo_:(Int⊕Unit)} (h:zeL v2 wv v3=some (.inr oo_)):zdc v2 wv v3=some oo_:=zN (body:=fun s:(Int×Int)=>zeL v2 s.1 s.2) h
def zfp (b:(List UInt8)) (atv:Int) (points:Int) (size:Int):Option ((Int×Int×Int)⊕(Int×Int)):=
 if (decide (size>0)) then (
  cut b (IntKind.i64.wrap (atv+size)) (b.length:Int)>>=fun v=>
  znQ v>>=fun rv2=>
  some (.inl ((IntKind.i64.wrap (atv+size)),(IntKind.i64.wrap (points+1)),rv2))
 ) else (
  some (.inr (atv,points))
 )
def zhQ (b:(List UInt8)) (atv:Int) (points:Int) (size:Int):Option (Int×Int):=zap (fun s:(Int×Int×Int)=>zfp b s.1 s.2.1 s.2.2) (atv,points,size)
def zpP (b:(List UInt8)):Option (Int×Int):=
 znQ b>>=fun rv=>
 zhQ b 0 0 rv>>=fun q=>
 some (q.1,q.2)
theorem ztW {b:(List UInt8)} {atv:Int} {points:Int} {size:Int} {atv':Int} {points':Int} {size':Int} (h:zfp b atv points size=some (.inl (atv',points',size'))):zhQ b atv points size=zhQ b atv' points' size':=zO (body:=fun s:(Int×Int×Int)=>zfp b s.1 s.2.1 s.2.2) h
theorem ztX {b:(List UInt8)} {atv:Int} {points:Int} {size:Int} {oo_:(Int×Int)} (h:zfp b atv points size=some (.inr oo_)):zhQ b atv points size=some oo_:=zN (body:=fun s:(Int×Int×Int)=>zfp b s.1 s.2.1 s.2.2) h
def znP (b:(List UInt8)):Option Int:=
 zpP b>>=fun rv=>
 some rv.1
def zkf (b:(List UInt8)):Option Bool:=
 znP b>>=fun rv=>
 some (rv==(b.length:Int))
def zgx (rv:Int):Option (List UInt8):=
 if ((decide (rv<0))|| ((decide (rv>1114111))|| ((decide (rv≥55296))&&(decide (rv≤57343))))) then (
  some []
 ) else (
  if (decide (rv<128)) then (
   zkY (IntKind.u8.wrap rv)>>=fun y=>
   some ([y]:List UInt8)
  ) else (
   if (decide (rv<2048)) then (
    zkY (IntKind.u8.wrap (IntKind.i64.wrap (192+(IntKind.i64.wrap (Int.tdiv rv 64)))))>>=fun y2=>
    zkY (IntKind.u8.wrap (IntKind.i64.wrap (128+(Int.tmod rv 64))))>>=fun y3=>
    some ([y2,y3]:List UInt8)
   ) else (
    if (decide (rv<65536)) then (
     zkY (IntKind.u8.wrap (IntKind.i64.wrap (224+(IntKind.i64.wrap (Int.tdiv rv 4096)))))>>=fun y4=>
     zkY (IntKind.u8.wrap (IntKind.i64.wrap (128+(Int.tmod (IntKind.i64.wrap (Int.tdiv rv 64)) 64))))>>=fun y5=>
     zkY (IntKind.u8.wrap (IntKind.i64.wrap (128+(Int.tmod rv 64))))>>=fun y6=>
     some ([y4,y5,y6]:List UInt8)
    ) else (
     zkY (IntKind.u8.wrap (IntKind.i64.wrap (240+(IntKind.i64.wrap (Int.tdiv rv 262144)))))>>=fun y7=>
     zkY (IntKind.u8.wrap (IntKind.i64.wrap (128+(Int.tmod (IntKind.i64.wrap (Int.tdiv rv 4096)) 64))))>>=fun y8=>
     zkY (IntKind.u8.wrap (IntKind.i64.wrap (128+(Int.tmod (IntKind.i64.wrap (Int.tdiv rv 64)) 64))))>>=fun y9=>
     zkY (IntKind.u8.wrap (IntKind.i64.wrap (128+(Int.tmod rv 64))))>>=fun y10=>
     some ([y7,y8,y9,y10]:List UInt8)
    )
   )
  )
 )
def zbH (atv:Int) (b:(List UInt8)) (n:Int) (rv2:Int) (i:Int):Option ((Int×Int)⊕Int):=
 if (decide (i<n)) then (
  idx b (IntKind.i64.wrap (atv+i))>>=fun x3=>
  some (.inl ((IntKind.i64.wrap ((IntKind.i64.wrap (64*rv2))+(Int.tmod (IntKind.i64.wrap (x3.toNat:Int)) 64))),(IntKind.i64.wrap (i+1))))
 ) else (
  some (.inr rv2)
 )
def zbZ (atv:Int) (b:(List UInt8)) (n:Int) (rv2:Int) (i:Int):Option Int:=zap (fun s:(Int×Int)=>zbH atv b n s.1 s.2) (rv2,i)
def zbG (atv:Int) (b:(List UInt8)) (n:Int):Option (Int⊕(Unit⊕Int)):=
 if ((decide (n≤4))&&(decide ((IntKind.i64.wrap (atv+n))≤(b.length:Int)))) then (
  idx b atv>>=fun x=>
  ((
   if (decide (n>1)) then (
    idx ([0,0,32,16,8]:(List Int)) n>>=fun x2=>
    remI (IntKind.i64.wrap (x.toNat:Int)) x2>>=fun v3=>
    some v3
   ) else (
    some (IntKind.i64.wrap (x.toNat:Int))
   )
   :Option Int))>>=fun p=>
  zbZ atv b n p 1>>=fun q=>
  zgx q>>=fun rv4=>
  cut b atv (IntKind.i64.wrap (atv+n))>>=fun v4=>
  if (rv4==v4) then (
   some (.inr (.inr n))
  ) else (
   some (.inl (IntKind.i64.wrap (n+1)))
  )
 ) else (
  some (.inr (.inl ()))
 )
def zdw (atv:Int) (b:(List UInt8)) (n:Int):Option (Unit⊕Int):=zap (fun s:Int=>zbG atv b s) n
def zfX (b:(List UInt8)) (atv:Int):Option Int:=
 zdw atv b 1>>=fun q2=>
 match q2 with
 | .inl u=>(
  some 0
 )
 | .inr u2=>(
  some u2
 )
theorem zmL {atv:Int} {b:(List UInt8)} {n:Int} {rv2:Int} {i:Int} {rv2':Int} {i':Int} (h:zbH atv b n rv2 i=some (.inl (rv2',i'))):zbZ atv b n rv2 i=zbZ atv b n rv2' i':=zO (body:=fun s:(Int×Int)=>zbH atv b n s.1 s.2) h
theorem zmM {atv:Int} {b:(List UInt8)} {n:Int} {rv2:Int} {i:Int} {oo_:Int} (h:zbH atv b n rv2 i=some (.inr oo_)):zbZ atv b n rv2 i=some oo_:=zN (body:=fun s:(Int×Int)=>zbH atv b n s.1 s.2) h
theorem zmK {atv:Int} {b:(List UInt8)} {n:Int} {n':Int} (h:zbG atv b n=some (.inl n')):zdw atv b n=zdw atv b n':=zO (body:=fun s:Int=>zbG atv b s) h
theorem zgm {atv:Int} {b:(List UInt8)} {n:Int} {oo_:(Unit⊕Int)} (h:zbG atv b n=some (.inr oo_)):zdw atv b n=some oo_:=zN (body:=fun s:Int=>zbG atv b s) h
def zbq (b:(List UInt8)) (most:Int) (atv:Int) (count:Int):Option ((Int×Int)⊕(Int×Int)):=
 zfX b atv>>=fun rv=>
 if ((rv==0)|| (decide ((IntKind.i64.wrap (atv+rv))>most))) then (
  some (.inr (atv,count))
 ) else (
  some (.inl ((IntKind.i64.wrap (atv+rv)),(IntKind.i64.wrap (count+1))))
 )
def zcJ (b:(List UInt8)) (most:Int) (atv:Int) (count:Int):Option (Int×Int):=zap (fun s:(Int×Int)=>zbq b most s.1 s.2) (atv,count)
def zfw (b:(List UInt8)) (most:Int):Option (Int×Int):=
 zcJ b most 0 0>>=fun q=>
 some (q.1,q.2)
theorem zma {b:(List UInt8)} {most:Int} {atv:Int} {count:Int} {atv':Int} {count':Int} (h:zbq b most atv count=some (.inl (atv',count'))):zcJ b most atv count=zcJ b most atv' count':=zO (body:=fun s:(Int×Int)=>zbq b most s.1 s.2) h
theorem zmb {b:(List UInt8)} {most:Int} {atv:Int} {count:Int} {oo_:(Int×Int)} (h:zbq b most atv count=some (.inr oo_)):zcJ b most atv count=some oo_:=zN (body:=fun s:(Int×Int)=>zbq b most s.1 s.2) h
def zfx (b:(List UInt8)):Option Bool:=
 zfw b (b.length:Int)>>=fun rv=>
 some (rv.1==(b.length:Int))
end
end Go.Proofs.YtcbkcblkecmjnaaGreat
namespace Go.Proofs.YtcbkcblkecmjnaaGreat
open Go
set_option linter.unusedVariables false
noncomputable section
def zkC (wire:Int) (b:(List UInt8)):Option (Int×Int×Int):=
 if (wire==0) then (
  zjb b>>=fun rv=>
  some (0,rv.1,rv.2)
 ) else (
  ((
   if (wire==1) then (
    some (0,0,8)
   ) else (
    if (wire==5) then (
     some (0,0,4)
    ) else (
     if (wire==2) then (
      zgj b>>=fun rv2=>
      some (rv2.2.1,rv2.2.2,rv2.1)
     ) else (
      some (0,0,0)
     )
    )
   )
   :Option (Int×Int×Int)))>>=fun p=>
  if (p.2.1 !=0) then (
   some (0,0,p.2.1)
  ) else (
   if (decide (p.2.2>(IntKind.u64.wrap (IntKind.i64.wrap ((b.length:Int) - p.1))))) then (
    some (0,0,3)
   ) else (
    some (p.1,(IntKind.i64.wrap (p.1+(IntKind.i64.wrap p.2.2))),0)
   )
  )
 )
def zhJ (b:(List UInt8)) (fromv:Int):Option (zu×Int):=
 if ((decide (fromv<0))|| (decide (fromv≥(b.length:Int)))) then (
  some ((⟨0,0,0,0,0⟩:zu),2)
 ) else (
  cut b fromv (b.length:Int)>>=fun v2=>
  zpH v2>>=fun rv=>
  if (rv.2.2 !=0) then (
   some ((⟨0,0,0,0,0⟩:zu),rv.2.2)
  ) else (
   cut b (IntKind.i64.wrap (fromv+rv.2.1)) (b.length:Int)>>=fun v3=>
   zkC rv.1.Wire v3>>=fun rv2=>
   if (rv2.2.2 !=0) then (
    some ((⟨0,0,0,0,0⟩:zu),rv2.2.2)
   ) else (
    some ((⟨rv.1.Number,rv.1.Wire,fromv,(IntKind.i64.wrap ((IntKind.i64.wrap (fromv+rv.2.1))+rv2.1)),(IntKind.i64.wrap ((IntKind.i64.wrap (fromv+rv.2.1))+rv2.2.1))⟩:zu),0)
   )
  )
 )
def zfY (b:(List UInt8)) (fromv:Int):Option (zu×Int):=
 if ((decide (fromv<0))|| (decide (fromv≥(b.length:Int)))) then (
  some ((⟨0,0,0,0,0⟩:zu),2)
 ) else (
  zfW b fromv>>=fun rv=>
  if (rv.2.2.2 !=0) then (
   some ((⟨0,0,0,0,0⟩:zu),rv.2.2.2)
  ) else (
   ((
    if (rv.2.1==5) then (
     some 4
    ) else (
     some 8
    )
    :Option Int))>>=fun p=>
   ((
    if (rv.2.1==0) then (
     zdW b (IntKind.i64.wrap (fromv+rv.2.2.1))>>=fun rv2=>
     if (rv2.2.2 !=0) then (
      some (.inr rv2.2.2)
     ) else (
      some (.inl rv2.2.1)
     )
    ) else (
     some (.inl p)
    )
    :Option (Int⊕Int)))>>=fun p2=>
   match p2 with
   | .inl u=>(
    ((
     if (rv.2.1==2) then (
      zdW b (IntKind.i64.wrap (fromv+rv.2.2.1))>>=fun rv3=>
      if (rv3.2.2 !=0) then (
       some (.inr rv3.2.2)
      ) else (
       if (decide (rv3.1>(IntKind.u64.wrap (IntKind.i64.wrap ((IntKind.i64.wrap ((b.length:Int) - (IntKind.i64.wrap (fromv+rv.2.2.1)))) - rv3.2.1))))) then (
        some (.inr 3)
       ) else (
        some (.inl ((IntKind.i64.wrap ((IntKind.i64.wrap ((b.length:Int) - (IntKind.i64.wrap (fromv+rv.2.2.1)))) - rv3.2.1)),(IntKind.i64.wrap rv3.1),(IntKind.i64.wrap ((IntKind.i64.wrap (fromv+rv.2.2.1))+rv3.2.1))))
       )
      )
     ) else (
      some (.inl ((IntKind.i64.wrap ((b.length:Int) - (IntKind.i64.wrap (fromv+rv.2.2.1)))),u,(IntKind.i64.wrap (fromv+rv.2.2.1))))
     )
     :Option ((Int×Int×Int)⊕Int)))>>=fun p3=>
    match p3 with
    | .inl u2=>(
     if (decide (u2.2.1>u2.1)) then (
      some ((⟨0,0,0,0,0⟩:zu),3)
     ) else (
      some ((⟨rv.1,rv.2.1,fromv,u2.2.2,(IntKind.i64.wrap (u2.2.2+u2.2.1))⟩:zu),0)
     )
    )
    | .inr u3=>(
     some ((⟨0,0,0,0,0⟩:zu),u3)
    )
   )
   | .inr u4=>(
    some ((⟨0,0,0,0,0⟩:zu),u4)
   )
  )
 )
end
end Go.Proofs.YtcbkcblkecmjnaaGreat
namespace Go.Proofs.YtcbkcblkecmjnaaGreat
open Go
set_option linter.unusedVariables false
noncomputable section
def zod (wv:Int):Option Int:=
 some (if (1:Int)<wv then 1 else wv)
def ziK (k:Int) (wv:Int):Option (Int×Int):=
 ((
  if (k==1) then (
   some (k==1)
  ) else (
   some (k==8)
  )
  :Option Bool))>>=fun p=>
 if p then (
  zkm wv>>=fun rv=>
  zkn rv>>=fun rv2=>
  some (rv2,0)
 ) else (
  ((
   if (k==3) then (
    some (k==3)
   ) else (
    if (k==5) then (
     some (k==5)
    ) else (
     if (k==9) then (
      some (k==9)
     ) else (
      if (k==10) then (
       some (k==10)
      ) else (
       some (k==11)
      )
     )
    )
   )
   :Option Bool))>>=fun p2=>
  if p2 then (
   zjM wv>>=fun rv3=>
   some ((IntKind.u64.wrap rv3),0)
  ) else (
   if (k==7) then (
    zod wv>>=fun rv4=>
    some (rv4,0)
   ) else (
    ((
     if (k==2) then (
      some (k==2)
     ) else (
      if (k==4) then (
       some (k==4)
      ) else (
       if (k==6) then (
        some (k==6)
       ) else (
        if (k==12) then (
         some (k==12)
        ) else (
         if (k==13) then (
          some (k==13)
         ) else (
          some (k==14)
         )
        )
       )
      )
     )
     :Option Bool))>>=fun p3=>
    if p3 then (
     some (wv,0)
    ) else (
     some (0,2)
    )
   )
  )
 )
def zlI:Option (List (Int×zB)):=
 some (mput (mput (mput (mput (mput (mput (mput (mput (mput (mput (mput (mput (mput (mput (mput (mput (mput ([]:(List (Int×zB))) 1 (⟨[105,110,116,51,50],0⟩:zB)) 2 (⟨[105,110,116,54,52],0⟩:zB)) 3 (⟨[117,105,110,116,51,50],0⟩:zB)) 4 (⟨[117,105,110,116,54,52],0⟩:zB)) 5 (⟨[115,105,110,116,51,50],0⟩:zB)) 6 (⟨[115,105,110,116,54,52],0⟩:zB)) 7 (⟨[98,111,111,108],0⟩:zB)) 8 (⟨[101,110,117,109],0⟩:zB)) 9 (⟨[102,105,120,101,100,51,50],5⟩:zB)) 10 (⟨[115,102,105,120,101,100,51,50],5⟩:zB)) 11 (⟨[102,108,111,97,116],5⟩:zB)) 12 (⟨[102,105,120,101,100,54,52],1⟩:zB)) 13 (⟨[115,102,105,120,101,100,54,52],1⟩:zB)) 14 (⟨[100,111,117,98,108,101],1⟩:zB)) 15 (⟨[115,116,114,105,110,103],2⟩:zB)) 16 (⟨[98,121,116,101,115],2⟩:zB)) 17 (⟨[109,101,115,115,97,103,101],2⟩:zB))
def zpo:Option (List Int):=
 zlI>>=fun rv=>
 zrC rv>>=fun v=>
 some v
def zlr (k:Int):Option (Int×Int):=
 zlI>>=fun rv=>
 if (!(mget rv k).isSome) then (
  some (0,2)
 ) else (
  some (((mget rv k).getD (⟨[],0⟩:zB)).wire,0)
 )
def zcC (k:Int):Option Bool:=
 some ((decide (k≥1))&&(decide (k≤17)))
def ziU (k:Int):Option Bool:=
 zlr k>>=fun rv=>
 some ((rv.2==0)&&(rv.1 !=2))
def zcX (k:Int):Option Bool:=
 some ((decide (k≥1))&&(decide (k≤14)))
def zfy (k:Int) (wv:Int):Option Int:=
 ((
  if (k==1) then (
   some (k==1)
  ) else (
   some (k==8)
  )
  :Option Bool))>>=fun p=>
 if p then (
  zfa wv>>=fun rv=>
  zfV rv>>=fun rv2=>
  some rv2
 ) else (
  ((
   if (k==3) then (
    some (k==3)
   ) else (
    if (k==5) then (
     some (k==5)
    ) else (
     if (k==9) then (
      some (k==9)
     ) else (
      if (k==10) then (
       some (k==10)
      ) else (
       some (k==11)
      )
     )
    )
   )
   :Option Bool))>>=fun p2=>
  if p2 then (
   some (Int.tmod wv 4294967296)
  ) else (
   if (k==7) then (
    if (decide (wv>0)) then (
     some 1
    ) else (
     some 0
    )
   ) else (
    some wv
   )
  )
 )
end
end Go.Proofs.YtcbkcblkecmjnaaGreat
namespace Go.Proofs.YtcbkcblkecmjnaaGreat
open Go
set_option linter.unusedVariables false
noncomputable section
def zgD (c:Int):Option Bool:=
 some ((decide (c≥48))&&(decide (c≤57)))
def zhb (c:Int):Option Bool:=
 some (if (decide (c≥97)) then ((decide (c≤122))|| (if (decide (c≥65)) then ((decide (c≤90))|| (c==95)) else (c==95))) else (if (decide (c≥65)) then ((decide (c≤90))|| (c==95)) else (c==95)))
def zcp (name:Str) (v2:Int):Option (Int⊕(Unit⊕Unit)):=
 if (decide (v2<(name.length:Int))) then (
  (
   idx name v2>>=fun c2=>
   zhb (c2.toNat:Int)>>=fun rv2=>
   if (!rv2) then (
    idx name v2>>=fun c3=>
    zgD (c3.toNat:Int)>>=fun rv3=>
    some (!rv3)
   ) else (
    some false
   )
  )>>=fun g2=>
  if g2 then (
   some (.inr (.inr ()))
  ) else (
   some (.inl (IntKind.i64.wrap (v2+1)))
  )
 ) else (
  some (.inr (.inl ()))
 )
def zfr (name:Str) (v2:Int):Option (Unit⊕Unit):=zap (fun s:Int=>zcp name s) v2
def zhj (name:Str):Option Bool:=
 (
  if (name==[]) then (
   some true
  ) else (
   if (decide ((name.length:Int)>60)) then (
    some true
   ) else (
    idx name 0>>=fun c=>
    zgD (c.toNat:Int)>>=fun rv=>
    some rv
   )
  )
 )>>=fun g=>
 if g then (
  some false
 ) else (
  zfr name 0>>=fun q=>
  match q with
  | .inl u=>(
   some true
  )
  | .inr u2=>(
   some false
  )
 )
theorem zpD {name:Str} {v2:Int} {v2':Int} (h:zcp name v2=some (.inl v2')):zfr name v2=zfr name v2':=zO (body:=fun s:Int=>zcp name s) h
theorem zkG {name:Str} {v2:Int} {oo_:(Unit⊕Unit)} (h:zcp name v2=some (.inr oo_)):zfr name v2=some oo_:=zN (body:=fun s:Int=>zcp name s) h
def zhc (n:Int):Option Bool:=
 some ((decide (n≥1))&&((decide (n≤536870911))&&((decide (n<19000))|| (decide (n>19999)))))
def zhL (f:ze):Option Bool:=
 (
  if f.Repeated then (
   ziU f.Kind>>=fun rv=>
   some rv
  ) else (
   some false
  )
 )>>=fun g=>
 some g
def zfE (c:zbd) (f:ze):Option Bool:=
 if (f.Kind==17) then (
  some ((decide (f.Of≥0))&&(decide (f.Of<c.size)))
 ) else (
  some (f.Of==0)
 )
def zfD (c:zbd) (message:Int) (f:ze):Option (Int×(List (zr×Bool))×(List (zt×Bool))):=
 zhj f.Name>>=fun rv=>
 if (!rv) then (
  some (5,c.names,c.numbers)
 ) else (
  if ((mget c.names (⟨message,f.Name⟩:zr)).getD false) then (
   some (6,c.names,c.numbers)
  ) else (
   zhc f.Number>>=fun rv2=>
   if (!rv2) then (
    some (7,c.names,c.numbers)
   ) else (
    if ((mget c.numbers (⟨message,f.Number⟩:zt)).getD false) then (
     some (8,c.names,c.numbers)
    ) else (
     zcR c.kinds f.Kind>>=fun rv3=>
     if (!rv3) then (
      some (9,c.names,c.numbers)
     ) else (
      (
       if f.Packed then (
        zhL f>>=fun rv4=>
        some (!rv4)
       ) else (
        some false
       )
      )>>=fun g=>
      if g then (
       some (10,c.names,c.numbers)
      ) else (
       zfE c f>>=fun rv5=>
       if (!rv5) then (
        some (11,c.names,c.numbers)
       ) else (
        some (0,(mput c.names (⟨message,f.Name⟩:zr) true),(mput c.numbers (⟨message,f.Number⟩:zt) true))
       )
      )
     )
    )
   )
  )
 )
def zeH (c:zbd) (m:zh):Option (Int×(List (zr×Bool))×(List (zt×Bool))):=
 zhj m.Name>>=fun rv=>
 if (!rv) then (
  some (2,c.names,c.numbers)
 ) else (
  if ((mget c.names (⟨(-1),m.Name⟩:zr)).getD false) then (
   some (3,c.names,c.numbers)
  ) else (
   if (decide ((m.Fields.length:Int)>200)) then (
    some (4,c.names,c.numbers)
   ) else (
    some (0,(mput c.names (⟨(-1),m.Name⟩:zr) true),c.numbers)
   )
  )
 )
def zbU (i:Int) (sv:(List zh)) (n3:Int) (k:Int):Option ((Int×Int)⊕Int):=
 idx sv i>>=fun x3=>
 if (decide (k<(x3.Fields.length:Int))) then (
  idx sv i>>=fun x4=>
  idx x4.Fields k>>=fun x5=>
  some (.inl ((IntKind.i64.wrap (n3+(IntKind.i64.wrap (Int.tdiv (x5.Name.length:Int) 100)))),(IntKind.i64.wrap (k+1))))
 ) else (
  some (.inr n3)
 )
def zee (i:Int) (sv:(List zh)) (n3:Int) (k:Int):Option Int:=zap (fun s:(Int×Int)=>zbU i sv s.1 s.2) (n3,k)
def zbT (sv:(List zh)) (n:Int) (i:Int):Option ((Int×Int)⊕Int):=
 if (decide (i<(sv.length:Int))) then (
  idx sv i>>=fun x=>
  idx sv i>>=fun x2=>
  zee i sv (IntKind.i64.wrap ((IntKind.i64.wrap ((IntKind.i64.wrap (n+1))+(IntKind.i64.wrap (Int.tdiv (x.Name.length:Int) 100))))+(x2.Fields.length:Int))) 0>>=fun q=>
  some (.inl (q,(IntKind.i64.wrap (i+1))))
 ) else (
  some (.inr n)
 )
def zed (sv:(List zh)) (n:Int) (i:Int):Option Int:=zap (fun s:(Int×Int)=>zbT sv s.1 s.2) (n,i)
def zgv (sv:(List zh)):Option Bool:=
 zed sv 0 0>>=fun q2=>
 some (decide (q2≤500))
theorem znn {i:Int} {sv:(List zh)} {n3:Int} {k:Int} {n3':Int} {k':Int} (h:zbU i sv n3 k=some (.inl (n3',k'))):zee i sv n3 k=zee i sv n3' k':=zO (body:=fun s:(Int×Int)=>zbU i sv s.1 s.2) h
theorem zno {i:Int} {sv:(List zh)} {n3:Int} {k:Int} {oo_:Int} (h:zbU i sv n3 k=some (.inr oo_)):zee i sv n3 k=some oo_:=zN (body:=fun s:(Int×Int)=>zbU i sv s.1 s.2) h
theorem znl {sv:(List zh)} {n:Int} {i:Int} {n':Int} {i':Int} (h:zbT sv n i=some (.inl (n',i'))):zed sv n i=zed sv n' i':=zO (body:=fun s:(Int×Int)=>zbT sv s.1 s.2) h
theorem znm {sv:(List zh)} {n:Int} {i:Int} {oo_:Int} (h:zbT sv n i=some (.inr oo_)):zed sv n i=some oo_:=zN (body:=fun s:(Int×Int)=>zbT sv s.1 s.2) h
def zco (rv:(List Int)) (sv:(List zh)) (v2:Int) (x:zh) (v3:Int) (f6:(List (zr×Bool))) (f7:(List (zt×Bool))):Option ((Int×(List (zr×Bool))×(List (zt×Bool)))⊕(((List (zr×Bool))×(List (zt×Bool)))⊕(Int×Int))):=
 if (decide (v3<(x.Fields.length:Int))) then (
  idx x.Fields v3>>=fun x2=>
  zfD (⟨(sv.length:Int),rv,f6,f7⟩:zbd) v2 x2>>=fun rv5=>
  if (rv5.1 !=0) then (
   some (.inr (.inr (v3,rv5.1)))
  ) else (
   some (.inl ((IntKind.i64.wrap (v3+1)),rv5.2.1,rv5.2.2))
  )
 ) else (
  some (.inr (.inl (f6,f7)))
 )
def zel (rv:(List Int)) (sv:(List zh)) (v2:Int) (x:zh) (v3:Int) (f6:(List (zr×Bool))) (f7:(List (zt×Bool))):Option (((List (zr×Bool))×(List (zt×Bool)))⊕(Int×Int)):=zap (fun s:(Int×(List (zr×Bool))×(List (zt×Bool)))=>zco rv sv v2 x s.1 s.2.1 s.2.2) (v3,f6,f7)
def zbw (rv:(List Int)) (sv:(List zh)) (v2:Int) (f:(List (zr×Bool))) (f2:(List (zt×Bool))):Option ((Int×(List (zr×Bool))×(List (zt×Bool)))⊕(Unit⊕(Int×Int×Int))):=
 if (decide (v2<(sv.length:Int))) then (
  idx sv v2>>=fun x=>
  zeH (⟨(sv.length:Int),rv,f,f2⟩:zbd) x>>=fun rv3=>
  if (rv3.1 !=0) then (
   some (.inr (.inr (v2,(-1),rv3.1)))
  ) else (
   zel rv sv v2 x 0 rv3.2.1 rv3.2.2>>=fun q=>
   match q with
   | .inl u=>(
    some (.inl ((IntKind.i64.wrap (v2+1)),u.1,u.2))
   )
   | .inr u2=>(
    some (.inr (.inr (v2,u2.1,u2.2)))
   )
  )
 ) else (
  some (.inr (.inl ()))
 )
def zfQ (rv:(List Int)) (sv:(List zh)) (v2:Int) (f:(List (zr×Bool))) (f2:(List (zt×Bool))):Option (Unit⊕(Int×Int×Int)):=zap (fun s:(Int×(List (zr×Bool))×(List (zt×Bool)))=>zbw rv sv s.1 s.2.1 s.2.2) (v2,f,f2)
def zjr (sv:(List zh)):Option (zbC×Int):=
 if ((decide ((sv.length:Int)<1))|| (decide ((sv.length:Int)>100))) then (
  some ((⟨(-1),(-1),1⟩:zbC),9)
 ) else (
  zpo>>=fun rv=>
  zfQ rv sv 0 ([]:(List (zr×Bool))) ([]:(List (zt×Bool)))>>=fun q2=>
  match q2 with
  | .inl u3=>(
   some ((⟨0,0,0⟩:zbC),0)
  )
  | .inr u4=>(
   some ((⟨u4.1,u4.2.1,u4.2.2⟩:zbC),9)
  )
 )
theorem zqv {rv:(List Int)} {sv:(List zh)} {v2:Int} {x:zh} {v3:Int} {f6:(List (zr×Bool))} {f7:(List (zt×Bool))} {v3':Int} {f6':(List (zr×Bool))} {f7':(List (zt×Bool))} (h:zco rv sv v2 x v3 f6 f7=some (.inl (v3',f6',f7'))):zel rv sv v2 x v3 f6 f7=zel rv sv v2 x v3' f6' f7':=zO (body:=fun s:(Int×(List (zr×Bool))×(List (zt×Bool)))=>zco rv sv v2 x s.1 s.2.1 s.2.2) h
theorem zla {rv:(List Int)} {sv:(List zh)} {v2:Int} {x:zh} {v3:Int} {f6:(List (zr×Bool))} {f7:(List (zt×Bool))} {oo_:(((List (zr×Bool))×(List (zt×Bool)))⊕(Int×Int))} (h:zco rv sv v2 x v3 f6 f7=some (.inr oo_)):zel rv sv v2 x v3 f6 f7=some oo_:=zN (body:=fun s:(Int×(List (zr×Bool))×(List (zt×Bool)))=>zco rv sv v2 x s.1 s.2.1 s.2.2) h
theorem zqu {rv:(List Int)} {sv:(List zh)} {v2:Int} {f:(List (zr×Bool))} {f2:(List (zt×Bool))} {v2':Int} {f':(List (zr×Bool))} {f2':(List (zt×Bool))} (h:zbw rv sv v2 f f2=some (.inl (v2',f',f2'))):zfQ rv sv v2 f f2=zfQ rv sv v2' f' f2':=zO (body:=fun s:(Int×(List (zr×Bool))×(List (zt×Bool)))=>zbw rv sv s.1 s.2.1 s.2.2) h
theorem zff {rv:(List Int)} {sv:(List zh)} {v2:Int} {f:(List (zr×Bool))} {f2:(List (zt×Bool))} {oo_:(Unit⊕(Int×Int×Int))} (h:zbw rv sv v2 f f2=some (.inr oo_)):zfQ rv sv v2 f f2=some oo_:=zN (body:=fun s:(Int×(List (zr×Bool))×(List (zt×Bool)))=>zbw rv sv s.1 s.2.1 s.2.2) h
def zjs (sv:(List zh)):Option Bool:=
 zjr sv>>=fun rv=>
 some (rv.2==0)
def zbi (sv:Str) (i:Int):Option (Int⊕(Unit⊕Unit)):=
 if (decide (i<(sv.length:Int))) then (
  idx sv i>>=fun c=>
  if (!(if (decide ((c.toNat:Int)≥65)) then ((decide ((c.toNat:Int)≤90))|| (if (decide ((c.toNat:Int)≥97)) then ((decide ((c.toNat:Int)≤122))|| (((c.toNat:Int)==95)|| ((decide (i>0))&&((decide ((c.toNat:Int)≥48))&&(decide ((c.toNat:Int)≤57)))))) else (((c.toNat:Int)==95)|| ((decide (i>0))&&((decide ((c.toNat:Int)≥48))&&(decide ((c.toNat:Int)≤57))))))) else (if (decide ((c.toNat:Int)≥97)) then ((decide ((c.toNat:Int)≤122))|| (((c.toNat:Int)==95)|| ((decide (i>0))&&((decide ((c.toNat:Int)≥48))&&(decide ((c.toNat:Int)≤57)))))) else (((c.toNat:Int)==95)|| ((decide (i>0))&&((decide ((c.toNat:Int)≥48))&&(decide ((c.toNat:Int)≤57)))))))) then (
   some (.inr (.inr ()))
  ) else (
   some (.inl (IntKind.i64.wrap (i+1)))
  )
 ) else (
  some (.inr (.inl ()))
 )
def zdx (sv:Str) (i:Int):Option (Unit⊕Unit):=zap (fun s:Int=>zbi sv s) i
def zeN (sv:Str):Option Bool:=
 zdx sv 0>>=fun q=>
 match q with
 | .inl u=>(
  some ((decide ((sv.length:Int)≥1))&&(decide ((sv.length:Int)≤60)))
 )
 | .inr u2=>(
  some false
 )
theorem zmN {sv:Str} {i:Int} {i':Int} (h:zbi sv i=some (.inl i')):zdx sv i=zdx sv i':=zO (body:=fun s:Int=>zbi sv s) h
theorem zis {sv:Str} {i:Int} {oo_:(Unit⊕Unit)} (h:zbi sv i=some (.inr oo_)):zdx sv i=some oo_:=zN (body:=fun s:Int=>zbi sv s) h
def zbs (i:Int) (k:Int) (sv:(List zh)) (x2:ze) (name:Bool) (number:Bool) (j:Int):Option ((Bool×Bool×Int)⊕(Bool×Bool)):=
 if (decide (j<k)) then (
  (
   if name then (
    some true
   ) else (
    idx sv i>>=fun x3=>
    idx x3.Fields j>>=fun x4=>
    some (x4.Name==x2.Name)
   )
  )>>=fun g=>
  (
   if number then (
    some true
   ) else (
    idx sv i>>=fun x5=>
    idx x5.Fields j>>=fun x6=>
    some (x6.Number==x2.Number)
   )
  )>>=fun g2=>
  some (.inl (g,g2,(IntKind.i64.wrap (j+1))))
 ) else (
  some (.inr (name,number))
 )
def zdg (i:Int) (k:Int) (sv:(List zh)) (x2:ze) (name:Bool) (number:Bool) (j:Int):Option (Bool×Bool):=zap (fun s:(Bool×Bool×Int)=>zbs i k sv x2 s.1 s.2.1 s.2.2) (name,number,j)
def zfA (sv:(List zh)) (i:Int) (k:Int):Option Int:=
 idx sv i>>=fun x=>
 idx x.Fields k>>=fun x2=>
 zdg i k sv x2 false false 0>>=fun q=>
 zeN x2.Name>>=fun rv=>
 if (!rv) then (
  some 5
 ) else (
  if q.1 then (
   some 6
  ) else (
   if ((decide (x2.Number<1))|| ((decide (x2.Number>536870911))|| ((decide (x2.Number≥19000))&&(decide (x2.Number<20000))))) then (
    some 7
   ) else (
    if q.2 then (
     some 8
    ) else (
     zcC x2.Kind>>=fun rv2=>
     if (!rv2) then (
      some 9
     ) else (
      (
       if x2.Packed then (
        if x2.Repeated then (
         zcX x2.Kind>>=fun rv3=>
         some (!rv3)
        ) else (
         some (!false)
        )
       ) else (
        some false
       )
      )>>=fun g3=>
      if g3 then (
       some 10
      ) else (
       if (if (x2.Kind==17) then ((decide (x2.Of<0))|| ((decide (x2.Of≥(sv.length:Int)))|| ((x2.Kind !=17)&&(x2.Of !=0)))) else ((x2.Kind !=17)&&(x2.Of !=0))) then (
        some 11
       ) else (
        some 0
       )
      )
     )
    )
   )
  )
 )
theorem zmg {i:Int} {k:Int} {sv:(List zh)} {x2:ze} {name:Bool} {number:Bool} {j:Int} {name':Bool} {number':Bool} {j':Int} (h:zbs i k sv x2 name number j=some (.inl (name',number',j'))):zdg i k sv x2 name number j=zdg i k sv x2 name' number' j':=zO (body:=fun s:(Bool×Bool×Int)=>zbs i k sv x2 s.1 s.2.1 s.2.2) h
theorem zmh {i:Int} {k:Int} {sv:(List zh)} {x2:ze} {name:Bool} {number:Bool} {j:Int} {oo_:(Bool×Bool)} (h:zbs i k sv x2 name number j=some (.inr oo_)):zdg i k sv x2 name number j=some oo_:=zN (body:=fun s:(Bool×Bool×Int)=>zbs i k sv x2 s.1 s.2.1 s.2.2) h
def zbr (i:Int) (sv:(List zh)) (twice:Bool) (k:Int):Option ((Bool×Int)⊕Bool):=
 if (decide (k<i)) then (
  (
   if twice then (
    some true
   ) else (
    idx sv k>>=fun x=>
    idx sv i>>=fun x2=>
    some (x.Name==x2.Name)
   )
  )>>=fun g=>
  some (.inl (g,(IntKind.i64.wrap (k+1))))
 ) else (
  some (.inr twice)
 )
def zde (i:Int) (sv:(List zh)) (twice:Bool) (k:Int):Option Bool:=zap (fun s:(Bool×Int)=>zbr i sv s.1 s.2) (twice,k)
def zaV (i:Int) (sv:(List zh)) (k2:Int):Option (Int⊕(Unit⊕(Int×Int))):=
 idx sv i>>=fun x5=>
 if (decide (k2<(x5.Fields.length:Int))) then (
  zfA sv i k2>>=fun rv2=>
  if (decide (rv2>0)) then (
   some (.inr (.inr (k2,rv2)))
  ) else (
   some (.inl (IntKind.i64.wrap (k2+1)))
  )
 ) else (
  some (.inr (.inl ()))
 )
def zdf (i:Int) (sv:(List zh)) (k2:Int):Option (Unit⊕(Int×Int)):=zap (fun s:Int=>zaV i sv s) k2
def zaU (sv:(List zh)) (i:Int):Option (Int⊕(Unit⊕(Int×Int×Int))):=
 if (decide (i<(sv.length:Int))) then (
  zde i sv false 0>>=fun q=>
  idx sv i>>=fun x3=>
  zeN x3.Name>>=fun rv=>
  if (!rv) then (
   some (.inr (.inr (i,(-1),2)))
  ) else (
   if q then (
    some (.inr (.inr (i,(-1),3)))
   ) else (
    idx sv i>>=fun x4=>
    if (decide ((x4.Fields.length:Int)>200)) then (
     some (.inr (.inr (i,(-1),4)))
    ) else (
     zdf i sv 0>>=fun q2=>
     match q2 with
     | .inl u=>(
      some (.inl (IntKind.i64.wrap (i+1)))
     )
     | .inr u2=>(
      some (.inr (.inr (i,u2.1,u2.2)))
     )
    )
   )
  )
 ) else (
  some (.inr (.inl ()))
 )
def zdd (sv:(List zh)) (i:Int):Option (Unit⊕(Int×Int×Int)):=zap (fun s:Int=>zaU sv s) i
def zfz (sv:(List zh)):Option (Int×Int×Int):=
 if (((sv.length:Int)==0)|| (decide ((sv.length:Int)>100))) then (
  some ((-1),(-1),1)
 ) else (
  zdd sv 0>>=fun q3=>
  match q3 with
  | .inl u3=>(
   some (0,0,0)
  )
  | .inr u4=>(
   some (u4.1,u4.2.1,u4.2.2)
  )
 )
theorem zmd {i:Int} {sv:(List zh)} {twice:Bool} {k:Int} {twice':Bool} {k':Int} (h:zbr i sv twice k=some (.inl (twice',k'))):zde i sv twice k=zde i sv twice' k':=zO (body:=fun s:(Bool×Int)=>zbr i sv s.1 s.2) h
theorem zme {i:Int} {sv:(List zh)} {twice:Bool} {k:Int} {oo_:Bool} (h:zbr i sv twice k=some (.inr oo_)):zde i sv twice k=some oo_:=zN (body:=fun s:(Bool×Int)=>zbr i sv s.1 s.2) h
theorem zmf {i:Int} {sv:(List zh)} {k2:Int} {k2':Int} (h:zaV i sv k2=some (.inl k2')):zdf i sv k2=zdf i sv k2':=zO (body:=fun s:Int=>zaV i sv s) h
theorem zia {i:Int} {sv:(List zh)} {k2:Int} {oo_:(Unit⊕(Int×Int))} (h:zaV i sv k2=some (.inr oo_)):zdf i sv k2=some oo_:=zN (body:=fun s:Int=>zaV i sv s) h
theorem zmc {sv:(List zh)} {i:Int} {i':Int} (h:zaU sv i=some (.inl i')):zdd sv i=zdd sv i':=zO (body:=fun s:Int=>zaU sv s) h
theorem zcV {sv:(List zh)} {i:Int} {oo_:(Unit⊕(Int×Int×Int))} (h:zaU sv i=some (.inr oo_)):zdd sv i=some oo_:=zN (body:=fun s:Int=>zaU sv s) h
def zgd (f:ze) (v:Int):Option Bool:=
 some (f.Number==v)
def zH (sv:(List ze)) (v:Int) (v2:Int):Option (Int⊕(Unit⊕Int)):=
 if (decide (v2<(sv.length:Int))) then (
  idx sv v2>>=fun x=>
  zgd x v>>=fun rv=>
  if rv then (
   some (.inr (.inr v2))
  ) else (
   some (.inl (IntKind.i64.wrap (v2+1)))
  )
 ) else (
  some (.inr (.inl ()))
 )
def zab (sv:(List ze)) (v:Int) (v2:Int):Option (Unit⊕Int):=zap (fun s:Int=>zH sv v s) v2
def zay (sv:(List ze)) (v:Int):Option Int:=
 zab sv v 0>>=fun q=>
 match q with
 | .inl u=>(
  some (-1)
 )
 | .inr u2=>(
  some u2
 )
theorem zdH {sv:(List ze)} {v:Int} {v2:Int} {v2':Int} (h:zH sv v v2=some (.inl v2')):zab sv v v2=zab sv v v2':=zO (body:=fun s:Int=>zH sv v s) h
theorem zbR {sv:(List ze)} {v:Int} {v2:Int} {oo_:(Unit⊕Int)} (h:zH sv v v2=some (.inr oo_)):zab sv v v2=some oo_:=zN (body:=fun s:Int=>zH sv v s) h
def zcP (m:zh) (v:Int):Option (Int×Bool):=
 zay m.Fields v>>=fun rv=>
 some ((if rv<0 then 0 else rv),(decide (rv≥0)))
def zfP (m:zh) (number:Int):Option (Int×Bool):=
 zcP m number>>=fun rv=>
 some (rv.1,rv.2)
def zaW (m:zh) (number:Int) (i:Int):Option (Int⊕(Unit⊕Int)):=
 if (decide (i<(m.Fields.length:Int))) then (
  idx m.Fields i>>=fun x=>
  if (x.Number==number) then (
   some (.inr (.inr i))
  ) else (
   some (.inl (IntKind.i64.wrap (i+1)))
  )
 ) else (
  some (.inr (.inl ()))
 )
def zdh (m:zh) (number:Int) (i:Int):Option (Unit⊕Int):=zap (fun s:Int=>zaW m number s) i
def zes (m:zh) (number:Int):Option Int:=
 zdh m number 0>>=fun q=>
 match q with
 | .inl u=>(
  some (-1)
 )
 | .inr u2=>(
  some u2
 )
theorem zmi {m:zh} {number:Int} {i:Int} {i':Int} (h:zaW m number i=some (.inl i')):zdh m number i=zdh m number i':=zO (body:=fun s:Int=>zaW m number s) h
theorem zib {m:zh} {number:Int} {i:Int} {oo_:(Unit⊕Int)} (h:zaW m number i=some (.inr oo_)):zdh m number i=some oo_:=zN (body:=fun s:Int=>zaW m number s) h
def zfB (sv:(List zh)):Option Bool:=
 zfz sv>>=fun rv=>
 some (rv.2.2==0)
end
end Go.Proofs.YtcbkcblkecmjnaaGreat
namespace Go.Proofs.YtcbkcblkecmjnaaGreat
open Go
set_option linter.unusedVariables false
noncomputable section
def zhW (k:Int):Option (Int×Int):=
 ((
  if (k==1) then (
   some (k==1)
  ) else (
   if (k==2) then (
    some (k==2)
   ) else (
    if (k==3) then (
     some (k==3)
    ) else (
     if (k==4) then (
      some (k==4)
     ) else (
      if (k==5) then (
       some (k==5)
      ) else (
       if (k==6) then (
        some (k==6)
       ) else (
        if (k==7) then (
         some (k==7)
        ) else (
         some (k==8)
        )
       )
      )
     )
    )
   )
  )
  :Option Bool))>>=fun p=>
 if p then (
  some (0,0)
 ) else (
  ((
   if (k==9) then (
    some (k==9)
   ) else (
    if (k==10) then (
     some (k==10)
    ) else (
     some (k==11)
    )
   )
   :Option Bool))>>=fun p2=>
  if p2 then (
   some (4,0)
  ) else (
   if (k==12) then (
    if (k==12) then (
     some (8,0)
    ) else (
     some (0,2)
    )
   ) else (
    if (k==13) then (
     if (k==13) then (
      some (8,0)
     ) else (
      some (0,2)
     )
    ) else (
     if (k==14) then (
      some (8,0)
     ) else (
      some (0,2)
     )
    )
   )
  )
 )
def zjq (b:(List UInt8)):Option (Int×Int):=
 zgj b>>=fun rv=>
 if ((rv.2.2 !=0)|| (rv.2.1 !=(b.length:Int))) then (
  some (0,12)
 ) else (
  some (rv.1,0)
 )
def zjp (k:Int) (b:(List UInt8)):Option (Int×Int):=
 zhW k>>=fun rv=>
 if (rv.2 !=0) then (
  some (0,rv.2)
 ) else (
  if (rv.1==0) then (
   zjq b>>=fun rv2=>
   some (rv2.1,rv2.2)
  ) else (
   if (rv.1 !=(b.length:Int)) then (
    some (0,12)
   ) else (
    znk b>>=fun rv3=>
    some (rv3,0)
   )
  )
 )
def zkE (k:Int) (b:(List UInt8)):Option (Int×Int):=
 zjp k b>>=fun rv=>
 if (rv.2 !=0) then (
  some (0,rv.2)
 ) else (
  ziK k rv.1>>=fun rv2=>
  some (rv2.1,rv2.2)
 )
def zkF (k:Int) (wv:Int):Option Int:=
 zhW k>>=fun rv=>
 if ((rv.2 !=0)|| (rv.1 !=0)) then (
  some rv.1
 ) else (
  ziK k wv>>=fun rv2=>
  zpc rv2.1>>=fun rv3=>
  some rv3
 )
end
end Go.Proofs.YtcbkcblkecmjnaaGreat
namespace Go.Proofs.YtcbkcblkecmjnaaGreat
open Go
set_option linter.unusedVariables false
noncomputable section
def znF (k:Int):Option Int:=
 zkF k 0>>=fun rv=>
 some rv
def znE (wide:Int) (b:(List UInt8)):Option (Int×Int):=
 if (wide==1) then (
  zjb b>>=fun rv=>
  some (rv.1,rv.2)
 ) else (
  if (decide (wide>(b.length:Int))) then (
   some (0,3)
  ) else (
   some (wide,0)
  )
 )
def zcn {σ:Type} (kf:(Rnd σ ((List UInt8)×Int))) (rv:Int) (rest:(List UInt8)) (sg2:σ):Option (((List UInt8)×σ)⊕(σ⊕σ)):=
 if (decide ((rest.length:Int)>0)) then (
  znE rv rest>>=fun rv2=>
  cut rest 0 rv2.1>>=fun v3=>
  kf sg2 (v3,rv2.2)>>=fun y2=>
  if ((!y2.1)|| (rv2.2 !=0)) then (
   some (.inr (.inr y2.2))
  ) else (
   cut rest rv2.1 (rest.length:Int)>>=fun v5=>
   some (.inl (v5,y2.2))
  )
 ) else (
  some (.inr (.inl sg2))
 )
def zfO {σ:Type} (kf:(Rnd σ ((List UInt8)×Int))) (rv:Int) (rest:(List UInt8)) (sg2:σ):Option (σ⊕σ):=zap (fun s:((List UInt8)×σ)=>zcn kf rv s.1 s.2) (rest,sg2)
def zfl {σ:Type} (v:Int) (v2:(List UInt8)) (kf:Rnd σ ((List UInt8)×Int)) (sg:σ):Option σ:=
 znF v>>=fun rv=>
 if (rv==0) then (
  kf sg (([]:(List UInt8)),2)>>=fun y=>
  some y.2
 ) else (
  zfO kf rv v2 sg>>=fun q=>
  match q with
  | .inl u=>(
   some u
  )
  | .inr u2=>(
   some u2
  )
 )
theorem zqt {σ:Type} {kf:(Rnd σ ((List UInt8)×Int))} {rv:Int} {rest:(List UInt8)} {sg2:σ} {rest':(List UInt8)} {sg2':σ} (h:zcn kf rv rest sg2=some (.inl (rest',sg2'))):zfO kf rv rest sg2=zfO kf rv rest' sg2':=zO (body:=fun s:((List UInt8)×σ)=>zcn kf rv s.1 s.2) h
theorem zil {σ:Type} {kf:(Rnd σ ((List UInt8)×Int))} {rv:Int} {rest:(List UInt8)} {sg2:σ} {oo_:(σ⊕σ)} (h:zcn kf rv rest sg2=some (.inr oo_)):zfO kf rv rest sg2=some oo_:=zN (body:=fun s:((List UInt8)×σ)=>zcn kf rv s.1 s.2) h
def zjY (k:Int) (b:(List UInt8)):Option (Int×(List UInt8)):=
 some (k,b)
def zey (k:Int) (f:(List Int)) (x:(List UInt8)) (x2:Int):Option ((List Int)⊕(Int×(List Int))):=
 if (x2 !=0) then (
  some (.inr (x2,f))
 ) else (
  zkE k x>>=fun rv2=>
  app 8 f ([rv2.1]:(List Int))>>=fun v=>
  some (.inl v)
 )
def znD (k:Int) (b:(List UInt8)):Option ((List Int)×Int):=
 zjY k b>>=fun rv=>
 zfl rv.1 rv.2 (rnd (fun (s:(List Int)) (x:((List UInt8)×Int))=>zey k s x.1 x.2)) (.inl [])>>=fun q=>
 match q with
 | .inl u=>(
  some (u,0)
 )
 | .inr j=>(
  some ([],j.1)
 )
def zgc (f:Int) (x:(List UInt8)) (x2:Int):Option (Int⊕(Int×Int)):=
 if (x2 !=0) then (
  some (.inr (x2,f))
 ) else (
  some (.inl (IntKind.i64.wrap (f+1)))
 )
def znC (k:Int) (b:(List UInt8)):Option (Int×Int):=
 zjY k b>>=fun rv=>
 zfl rv.1 rv.2 (rnd (fun (s:Int) (x:((List UInt8)×Int))=>zgc s x.1 x.2)) (.inl 0)>>=fun q=>
 match q with
 | .inl u=>(
  some (u,0)
 )
 | .inr j=>(
  some (0,j.1)
 )
end
end Go.Proofs.YtcbkcblkecmjnaaGreat
namespace Go.Proofs.YtcbkcblkecmjnaaGreat
open Go
set_option linter.unusedVariables false
noncomputable section
def zjA (f:ze) (v:Int):Option Bool:=
 some (f.Number==v)
def zK (sv:(List ze)) (v:Int) (v2:Int):Option (Int⊕(Unit⊕Int)):=
 if (decide (v2<(sv.length:Int))) then (
  idx sv v2>>=fun x=>
  zjA x v>>=fun rv=>
  if rv then (
   some (.inr (.inr v2))
  ) else (
   some (.inl (IntKind.i64.wrap (v2+1)))
  )
 ) else (
  some (.inr (.inl ()))
 )
def zah (sv:(List ze)) (v:Int) (v2:Int):Option (Unit⊕Int):=zap (fun s:Int=>zK sv v s) v2
def zaL (sv:(List ze)) (v:Int):Option Int:=
 zah sv v 0>>=fun q=>
 match q with
 | .inl u=>(
  some (-1)
 )
 | .inr u2=>(
  some u2
 )
theorem zeo {sv:(List ze)} {v:Int} {v2:Int} {v2':Int} (h:zK sv v v2=some (.inl v2')):zah sv v v2=zah sv v v2':=zO (body:=fun s:Int=>zK sv v s) h
theorem zck {sv:(List ze)} {v:Int} {v2:Int} {oo_:(Unit⊕Int)} (h:zK sv v v2=some (.inr oo_)):zah sv v v2=some oo_:=zN (body:=fun s:Int=>zK sv v s) h
def zlW (m:zh) (number:Int):Option Int:=
 zaL m.Fields number>>=fun rv=>
 some rv
def zlX (f:ze) (wire:Int):Option Bool:=
 (
  if f.Repeated then (
   if (wire==2) then (
    ziU f.Kind>>=fun rv=>
    some rv
   ) else (
    some false
   )
  ) else (
   some false
  )
 )>>=fun g=>
 some g
def znT (k:Int) (wire:Int):Option Bool:=
 zlr k>>=fun rv=>
 some ((rv.2==0)&&(rv.1==wire))
def zjc (m:zh) (hv:zS):Option zX:=
 zlW m hv.number>>=fun rv=>
 if (rv==(-1)) then (
  some (⟨(-1),false,0⟩:zX)
 ) else (
  idx m.Fields rv>>=fun x=>
  zlX x hv.wire>>=fun rv2=>
  (
   if (!rv2) then (
    znT x.Kind hv.wire>>=fun rv3=>
    some (!rv3)
   ) else (
    some false
   )
  )>>=fun g=>
  if g then (
   some (⟨0,false,6⟩:zX)
  ) else (
   some (⟨rv,rv2,0⟩:zX)
  )
 )
def zlu (m:zh) (b:(List UInt8)) (fromv:Int) (met:(List (zS×zX))):Option (zg×Int×(List (zS×zX))):=
 zhJ b fromv>>=fun rv=>
 if (rv.2 !=0) then (
  some ((⟨(⟨0,0,0,0,0⟩:zu),0,false⟩:zg),rv.2,met)
 ) else (
  ((
   if (!(mget met (⟨rv.1.Number,rv.1.Wire⟩:zS)).isSome) then (
    zjc m (⟨rv.1.Number,rv.1.Wire⟩:zS)>>=fun rv2=>
    some ((mput met (⟨rv.1.Number,rv.1.Wire⟩:zS) rv2),rv2.field,rv2.run,rv2.e)
   ) else (
    some (met,((mget met (⟨rv.1.Number,rv.1.Wire⟩:zS)).getD (⟨0,false,0⟩:zX)).field,((mget met (⟨rv.1.Number,rv.1.Wire⟩:zS)).getD (⟨0,false,0⟩:zX)).run,((mget met (⟨rv.1.Number,rv.1.Wire⟩:zS)).getD (⟨0,false,0⟩:zX)).e)
   )
   :Option ((List (zS×zX))×Int×Bool×Int)))>>=fun p=>
  if (p.2.2.2 !=0) then (
   some ((⟨(⟨0,0,0,0,0⟩:zu),0,false⟩:zg),p.2.2.2,p.1)
  ) else (
   some ((⟨rv.1,p.2.1,p.2.2.1⟩:zg),0,p.1)
  )
 )
def zdK (b:(List UInt8)) (m:zh) (l:(List zg)) (met:(List (zS×zX))) (fromv:Int):Option (((List zg)×(List (zS×zX))×Int)⊕((List zg)⊕(Int×Int))):=
 if (decide (fromv<(b.length:Int))) then (
  zlu m b fromv met>>=fun rv2=>
  if (rv2.2.1 !=0) then (
   some (.inr (.inr (fromv,rv2.2.1)))
  ) else (
   app 56 l ([rv2.1]:(List zg))>>=fun v=>
   some (.inl (v,rv2.2.2,rv2.1.Record.To))
  )
 ) else (
  some (.inr (.inl l))
 )
def zhR (b:(List UInt8)) (m:zh) (l:(List zg)) (met:(List (zS×zX))) (fromv:Int):Option ((List zg)⊕(Int×Int)):=zap (fun s:((List zg)×(List (zS×zX))×Int)=>zdK b m s.1 s.2.1 s.2.2) (l,met,fromv)
def zpS (m:zh) (b:(List UInt8)):Option ((List zg)×Int×Int):=
 zhR b m [] ([]:(List (zS×zX))) 0>>=fun q=>
 match q with
 | .inl u=>(
  some (u,0,0)
 )
 | .inr u2=>(
  some ([],u2.1,u2.2)
 )
theorem zoD {b:(List UInt8)} {m:zh} {l:(List zg)} {met:(List (zS×zX))} {fromv:Int} {l':(List zg)} {met':(List (zS×zX))} {fromv':Int} (h:zdK b m l met fromv=some (.inl (l',met',fromv'))):zhR b m l met fromv=zhR b m l' met' fromv':=zO (body:=fun s:((List zg)×(List (zS×zX))×Int)=>zdK b m s.1 s.2.1 s.2.2) h
theorem zkX {b:(List UInt8)} {m:zh} {l:(List zg)} {met:(List (zS×zX))} {fromv:Int} {oo_:((List zg)⊕(Int×Int))} (h:zdK b m l met fromv=some (.inr oo_)):zhR b m l met fromv=some oo_:=zN (body:=fun s:((List zg)×(List (zS×zX))×Int)=>zdK b m s.1 s.2.1 s.2.2) h
def znS (m:zh) (b:(List UInt8)) (fromv:Int):Option (zg×Int):=
 zlu m b fromv ([]:(List (zS×zX)))>>=fun rv2=>
 some (rv2.1,rv2.2.1)
end
end Go.Proofs.YtcbkcblkecmjnaaGreat
namespace Go.Proofs.YtcbkcblkecmjnaaGreat
open Go
set_option linter.unusedVariables false
noncomputable section
def zhd (wv:zaF) (message:Int) (fromv:Int) (tov:Int):Option (zg×Int×(List (zn×zg))):=
 cut wv.b 0 tov>>=fun v=>
 zhJ v fromv>>=fun rv=>
 if (rv.2 !=0) then (
  some ((⟨(⟨0,0,0,0,0⟩:zu),0,false⟩:zg),rv.2,wv.met)
 ) else (
  if (!(mget wv.met (⟨message,rv.1.Number,rv.1.Wire⟩:zn)).isSome) then (
   idx wv.s message>>=fun x=>
   znS x v fromv>>=fun rv2=>
   if (rv2.2 !=0) then (
    some ((⟨(⟨0,0,0,0,0⟩:zu),0,false⟩:zg),rv2.2,wv.met)
   ) else (
    some ((⟨rv.1,rv2.1.Field,rv2.1.Run⟩:zg),0,(mput wv.met (⟨message,rv.1.Number,rv.1.Wire⟩:zn) rv2.1))
   )
  ) else (
   some ((⟨rv.1,(((mget wv.met (⟨message,rv.1.Number,rv.1.Wire⟩:zn)).getD (⟨(⟨0,0,0,0,0⟩:zu),0,false⟩:zg)).Field),(((mget wv.met (⟨message,rv.1.Number,rv.1.Wire⟩:zn)).getD (⟨(⟨0,0,0,0,0⟩:zu),0,false⟩:zg)).Run)⟩:zg),0,wv.met)
  )
 )
def zkP (f:ze) (isRun:Bool) (value:(List UInt8)):Option Int:=
 if isRun then (
  znC f.Kind value>>=fun rv=>
  some rv.2
 ) else (
  (
   if (f.Kind==15) then (
    zkf value>>=fun rv2=>
    some (!rv2)
   ) else (
    some false
   )
  )>>=fun g=>
  if g then (
   some 7
  ) else (
   if (f.Kind==17) then (
    some 8
   ) else (
    some 0
   )
  )
 )
def zaI (d:Int) (message:Int) (rec_valid_walk_value:zaF→Int→zg→Int→Option (zF×(List (zn×zg)))) (tov:Int) (wv:zaF) (wv2:(List (zn×zg))) (fromv2:Int) (depth:Int):Option (((List (zn×zg))×Int×Int)⊕(((List (zn×zg))×Int)⊕((List (zn×zg))×Int×Int×Int))):=
 if (decide (fromv2<tov)) then (
  zhd (⟨wv.s,wv.b,wv2⟩:zaF) message fromv2 tov>>=fun rv2=>
  if (rv2.2.1 !=0) then (
   some (.inr (.inr (rv2.2.2,0,fromv2,rv2.2.1)))
  ) else (
   rec_valid_walk_value (⟨wv.s,wv.b,rv2.2.2⟩:zaF) message rv2.1 d>>=fun rv4=>
   if (rv4.1.e !=0) then (
    some (.inr (.inr (rv4.2,rv4.1.depth,rv4.1.place,rv4.1.e)))
   ) else (
    some (.inl (rv4.2,rv2.1.Record.To,(if depth<rv4.1.depth then rv4.1.depth else depth)))
   )
  )
 ) else (
  some (.inr (.inl (wv2,depth)))
 )
def zcL (d:Int) (message:Int) (rec_valid_walk_value:zaF→Int→zg→Int→Option (zF×(List (zn×zg)))) (tov:Int) (wv:zaF) (wv2:(List (zn×zg))) (fromv2:Int) (depth:Int):Option (((List (zn×zg))×Int)⊕((List (zn×zg))×Int×Int×Int)):=zap (fun s:((List (zn×zg))×Int×Int)=>zaI d message rec_valid_walk_value tov wv s.1 s.2.1 s.2.2) (wv2,fromv2,depth)
def zeM (rec_valid_walk_message:zaF→Int→Int→Int→Int→Option (zF×(List (zn×zg)))) (rec_valid_walk_value:zaF→Int→zg→Int→Option (zF×(List (zn×zg)))) (wv:zaF) (message:Int) (fromv:Int) (tov:Int) (d:Int):Option (zF×(List (zn×zg))):=
 zcL d message rec_valid_walk_value tov wv wv.met fromv 0>>=fun q=>
 match q with
 | .inl u=>(
  some ((⟨u.2,0,0⟩:zF),u.1)
 )
 | .inr u2=>(
  some ((⟨u2.2.1,u2.2.2.1,u2.2.2.2⟩:zF),u2.1)
 )
def zeu (rec_valid_walk_message:zaF→Int→Int→Int→Int→Option (zF×(List (zn×zg)))) (rec_valid_walk_value:zaF→Int→zg→Int→Option (zF×(List (zn×zg)))) (wv:zaF) (message:Int) (v:zg) (d:Int):Option (zF×(List (zn×zg))):=
 if (v.Field==(-1)) then (
  some ((⟨0,0,0⟩:zF),wv.met)
 ) else (
  idx wv.s message>>=fun x=>
  idx x.Fields v.Field>>=fun x2=>
  if ((x2.Kind==17)&&(decide (d>0))) then (
   rec_valid_walk_message wv x2.Of v.Record.At v.Record.To (IntKind.i64.wrap (d - 1))>>=fun rv2=>
   some ((⟨(IntKind.i64.wrap (rv2.1.depth+1)),rv2.1.place,rv2.1.e⟩:zF),rv2.2)
  ) else (
   cut wv.b v.Record.At v.Record.To>>=fun v3=>
   zkP x2 v.Run v3>>=fun rv3=>
   if (rv3 !=0) then (
    some ((⟨0,v.Record.From,rv3⟩:zF),wv.met)
   ) else (
    some ((⟨0,0,0⟩:zF),wv.met)
   )
  )
 )
def zaJ:Nat→(zaF→Int→Int→Int→Int→Option (zF×(List (zn×zg))))×(zaF→Int→zg→Int→Option (zF×(List (zn×zg))))
  | 0=>(fun _ _ _ _ _=>none,fun _ _ _ _=>none)
  | fuel+1=>(fun wv message fromv tov d=>zeM (zaJ fuel).1 (zaJ fuel).2 wv message fromv tov d,fun wv message v d=>zeu (zaJ fuel).1 (zaJ fuel).2 wv message v d)
def zbM (fuel:Nat):zaF→Int→Int→Int→Int→Option (zF×(List (zn×zg))):=(zaJ fuel).1
def zet (fuel:Nat):zaF→Int→zg→Int→Option (zF×(List (zn×zg))):=(zaJ fuel).2
theorem zmp {d:Int} {message:Int} {rec_valid_walk_value:zaF→Int→zg→Int→Option (zF×(List (zn×zg)))} {tov:Int} {wv:zaF} {wv2:(List (zn×zg))} {fromv2:Int} {depth:Int} {wv2':(List (zn×zg))} {fromv2':Int} {depth':Int} (h:zaI d message rec_valid_walk_value tov wv wv2 fromv2 depth=some (.inl (wv2',fromv2',depth'))):zcL d message rec_valid_walk_value tov wv wv2 fromv2 depth=zcL d message rec_valid_walk_value tov wv wv2' fromv2' depth':=zO (body:=fun s:((List (zn×zg))×Int×Int)=>zaI d message rec_valid_walk_value tov wv s.1 s.2.1 s.2.2) h
theorem zep {d:Int} {message:Int} {rec_valid_walk_value:zaF→Int→zg→Int→Option (zF×(List (zn×zg)))} {tov:Int} {wv:zaF} {wv2:(List (zn×zg))} {fromv2:Int} {depth:Int} {oo_:(((List (zn×zg))×Int)⊕((List (zn×zg))×Int×Int×Int))} (h:zaI d message rec_valid_walk_value tov wv wv2 fromv2 depth=some (.inr oo_)):zcL d message rec_valid_walk_value tov wv wv2 fromv2 depth=some oo_:=zN (body:=fun s:((List (zn×zg))×Int×Int)=>zaI d message rec_valid_walk_value tov wv s.1 s.2.1 s.2.2) h
def zkg (sv:(List zh)) (root:Int) (d:Int):Option Int:=
 zjs sv>>=fun rv=>
 if (!rv) then (
  some 9
 ) else (
  if ((decide (root<0))|| ((decide (root≥(sv.length:Int)))|| ((decide (d<0))|| (decide (d>64))))) then (
   some 2
  ) else (
   some 0
  )
 )
def zlV (fuel:Nat) (sv:(List zh)) (root:Int) (b:(List UInt8)) (d:Int):Option zF:=
 zkg sv root d>>=fun rv=>
 if (rv !=0) then (
  some (⟨0,0,rv⟩:zF)
 ) else (
  zbM fuel (⟨sv,b,([]:(List (zn×zg)))⟩:zaF) root 0 (b.length:Int) d>>=fun rv3=>
  some rv3.1
 )
def zkO (fuel:Nat) (sv:(List zh)) (root:Int) (b:(List UInt8)) (d:Int):Option (Int×Int):=
 zlV fuel sv root b d>>=fun rv=>
 some (rv.place,rv.e)
end
end Go.Proofs.YtcbkcblkecmjnaaGreat
namespace Go.Proofs.YtcbkcblkecmjnaaGreat
open Go
set_option linter.unusedVariables false
noncomputable section
def zeR (v:zb):Option Int:=
 some (IntKind.i64.wrap ((IntKind.i64.wrap ((v.Words.length:Int)+(v.Texts.length:Int)))+(v.Subs.length:Int)))
def zcf (rec_darninglaw14_OfValue:zb→Option zb) (x:zc) (i:Int) (f:(List zb)):Option ((Int×(List zb))⊕(List zb)):=
 if (decide (i<(x.Values.length:Int))) then (
  idx x.Values i>>=fun x2=>
  rec_darninglaw14_OfValue x2>>=fun rv=>
  app 80 f ([rv]:(List zb))>>=fun v2=>
  some (.inl ((IntKind.i64.wrap (i+1)),v2))
 ) else (
  some (.inr f)
 )
def zer (rec_darninglaw14_OfValue:zb→Option zb) (x:zc) (i:Int) (f:(List zb)):Option (List zb):=zap (fun s:(Int×(List zb))=>zcf rec_darninglaw14_OfValue x s.1 s.2) (i,f)
def zfT (rec_darninglaw14_Of:zc→Option zc) (rec_darninglaw14_OfValue:zb→Option zb) (x:zc):Option zc:=
 app 16 ([]:(List Str)) x.Unknown>>=fun v=>
 zer rec_darninglaw14_OfValue x 0 []>>=fun q=>
 some (⟨q,v⟩:zc)
def zaS (rec_darninglaw14_Of:zc→Option zc) (v:zb) (i:Int) (f:(List zc)):Option ((Int×(List zc))⊕(List zc)):=
 if (decide (i<(v.Subs.length:Int))) then (
  idx v.Subs i>>=fun x=>
  rec_darninglaw14_Of x>>=fun rv=>
  app 48 f ([rv]:(List zc))>>=fun v2=>
  some (.inl ((IntKind.i64.wrap (i+1)),v2))
 ) else (
  some (.inr f)
 )
def zcN (rec_darninglaw14_Of:zc→Option zc) (v:zb) (i:Int) (f:(List zc)):Option (List zc):=zap (fun s:(Int×(List zc))=>zaS rec_darninglaw14_Of v s.1 s.2) (i,f)
def zdU (rec_darninglaw14_Of:zc→Option zc) (rec_darninglaw14_OfValue:zb→Option zb) (v:zb):Option zb:=
 zcN rec_darninglaw14_Of v 0 []>>=fun q=>
 some (⟨v.Number,v.Words,v.Texts,q⟩:zb)
def zaG:Nat→(zc→Option zc)×(zb→Option zb)
  | 0=>(fun _=>none,fun _=>none)
  | fuel+1=>(fun x=>zfT (zaG fuel).1 (zaG fuel).2 x,fun v=>zdU (zaG fuel).1 (zaG fuel).2 v)
def zcm (fuel:Nat):zc→Option zc:=(zaG fuel).1
def zbD (fuel:Nat):zb→Option zb:=(zaG fuel).2
theorem znV {rec_darninglaw14_OfValue:zb→Option zb} {x:zc} {i:Int} {f:(List zb)} {i':Int} {f':(List zb)} (h:zcf rec_darninglaw14_OfValue x i f=some (.inl (i',f'))):zer rec_darninglaw14_OfValue x i f=zer rec_darninglaw14_OfValue x i' f':=zO (body:=fun s:(Int×(List zb))=>zcf rec_darninglaw14_OfValue x s.1 s.2) h
theorem znW {rec_darninglaw14_OfValue:zb→Option zb} {x:zc} {i:Int} {f:(List zb)} {oo_:(List zb)} (h:zcf rec_darninglaw14_OfValue x i f=some (.inr oo_)):zer rec_darninglaw14_OfValue x i f=some oo_:=zN (body:=fun s:(Int×(List zb))=>zcf rec_darninglaw14_OfValue x s.1 s.2) h
theorem zlf {rec_darninglaw14_Of:zc→Option zc} {v:zb} {i:Int} {f:(List zc)} {i':Int} {f':(List zc)} (h:zaS rec_darninglaw14_Of v i f=some (.inl (i',f'))):zcN rec_darninglaw14_Of v i f=zcN rec_darninglaw14_Of v i' f':=zO (body:=fun s:(Int×(List zc))=>zaS rec_darninglaw14_Of v s.1 s.2) h
theorem zlg {rec_darninglaw14_Of:zc→Option zc} {v:zb} {i:Int} {f:(List zc)} {oo_:(List zc)} (h:zaS rec_darninglaw14_Of v i f=some (.inr oo_)):zcN rec_darninglaw14_Of v i f=some oo_:=zN (body:=fun s:(Int×(List zc))=>zaS rec_darninglaw14_Of v s.1 s.2) h
def zbE (x:zc) (n:Int) (i:Int):Option ((Int×Int)⊕Int):=
 if (decide (i<(x.Unknown.length:Int))) then (
  idx x.Unknown i>>=fun x2=>
  some (.inl ((IntKind.i64.wrap ((IntKind.i64.wrap (n+1))+(x2.length:Int))),(IntKind.i64.wrap (i+1))))
 ) else (
  some (.inr n)
 )
def zds (x:zc) (n:Int) (i:Int):Option Int:=zap (fun s:(Int×Int)=>zbE x s.1 s.2) (n,i)
def zbg (deep:Int) (rec_darninglaw14_SizeValue:zb→Int→Option Int) (x:zc) (n3:Int) (i2:Int):Option ((Int×Int)⊕(Int⊕Unit)):=
 if (decide (i2<(x.Values.length:Int))) then (
  idx x.Values i2>>=fun x3=>
  rec_darninglaw14_SizeValue x3 deep>>=fun rv=>
  if (decide ((IntKind.i64.wrap (n3+rv))≥5000)) then (
   some (.inr (.inr ()))
  ) else (
   some (.inl ((IntKind.i64.wrap (n3+rv)),(IntKind.i64.wrap (i2+1))))
  )
 ) else (
  some (.inr (.inl n3))
 )
def zdt (deep:Int) (rec_darninglaw14_SizeValue:zb→Int→Option Int) (x:zc) (n3:Int) (i2:Int):Option (Int⊕Unit):=zap (fun s:(Int×Int)=>zbg deep rec_darninglaw14_SizeValue x s.1 s.2) (n3,i2)
def zeZ (rec_darninglaw14_Size:zc→Int→Option Int) (rec_darninglaw14_SizeValue:zb→Int→Option Int) (x:zc) (deep:Int):Option Int:=
 if (decide (deep<0)) then (
  some 5000
 ) else (
  zds x 1 0>>=fun q=>
  zdt deep rec_darninglaw14_SizeValue x q 0>>=fun q2=>
  match q2 with
  | .inl u=>(
   some u
  )
  | .inr u2=>(
   some 5000
  )
 )
def zaM (v:zb) (n:Int) (k:Int):Option ((Int×Int)⊕Int):=
 if (decide (k<(v.Texts.length:Int))) then (
  idx v.Texts k>>=fun x=>
  some (.inl ((IntKind.i64.wrap ((IntKind.i64.wrap (n+1))+(x.length:Int))),(IntKind.i64.wrap (k+1))))
 ) else (
  some (.inr n)
 )
def zcx (v:zb) (n:Int) (k:Int):Option Int:=zap (fun s:(Int×Int)=>zaM v s.1 s.2) (n,k)
def zaz (deep:Int) (rec_darninglaw14_Size:zc→Int→Option Int) (v:zb) (n3:Int) (k2:Int):Option ((Int×Int)⊕(Int⊕Unit)):=
 if (decide (k2<(v.Subs.length:Int))) then (
  idx v.Subs k2>>=fun x2=>
  rec_darninglaw14_Size x2 (IntKind.i64.wrap (deep - 1))>>=fun rv=>
  if (decide ((IntKind.i64.wrap (n3+rv))≥5000)) then (
   some (.inr (.inr ()))
  ) else (
   some (.inl ((IntKind.i64.wrap (n3+rv)),(IntKind.i64.wrap (k2+1))))
  )
 ) else (
  some (.inr (.inl n3))
 )
def zcy (deep:Int) (rec_darninglaw14_Size:zc→Int→Option Int) (v:zb) (n3:Int) (k2:Int):Option (Int⊕Unit):=zap (fun s:(Int×Int)=>zaz deep rec_darninglaw14_Size v s.1 s.2) (n3,k2)
def zdm (rec_darninglaw14_Size:zc→Int→Option Int) (rec_darninglaw14_SizeValue:zb→Int→Option Int) (v:zb) (deep:Int):Option Int:=
 zcx v (IntKind.i64.wrap (1+(v.Words.length:Int))) 0>>=fun q=>
 zcy deep rec_darninglaw14_Size v q 0>>=fun q2=>
 match q2 with
 | .inl u=>(
  some u
 )
 | .inr u2=>(
  some 5000
 )
def zav:Nat→(zc→Int→Option Int)×(zb→Int→Option Int)
  | 0=>(fun _ _=>none,fun _ _=>none)
  | fuel+1=>(fun x deep=>zeZ (zav fuel).1 (zav fuel).2 x deep,fun v deep=>zdm (zav fuel).1 (zav fuel).2 v deep)
def zbL (fuel:Nat):zc→Int→Option Int:=(zav fuel).1
def zbA (fuel:Nat):zb→Int→Option Int:=(zav fuel).2
theorem zmD {x:zc} {n:Int} {i:Int} {n':Int} {i':Int} (h:zbE x n i=some (.inl (n',i'))):zds x n i=zds x n' i':=zO (body:=fun s:(Int×Int)=>zbE x s.1 s.2) h
theorem zmE {x:zc} {n:Int} {i:Int} {oo_:Int} (h:zbE x n i=some (.inr oo_)):zds x n i=some oo_:=zN (body:=fun s:(Int×Int)=>zbE x s.1 s.2) h
theorem zmF {deep:Int} {rec_darninglaw14_SizeValue:zb→Int→Option Int} {x:zc} {n3:Int} {i2:Int} {n3':Int} {i2':Int} (h:zbg deep rec_darninglaw14_SizeValue x n3 i2=some (.inl (n3',i2'))):zdt deep rec_darninglaw14_SizeValue x n3 i2=zdt deep rec_darninglaw14_SizeValue x n3' i2':=zO (body:=fun s:(Int×Int)=>zbg deep rec_darninglaw14_SizeValue x s.1 s.2) h
theorem ziq {deep:Int} {rec_darninglaw14_SizeValue:zb→Int→Option Int} {x:zc} {n3:Int} {i2:Int} {oo_:(Int⊕Unit)} (h:zbg deep rec_darninglaw14_SizeValue x n3 i2=some (.inr oo_)):zdt deep rec_darninglaw14_SizeValue x n3 i2=some oo_:=zN (body:=fun s:(Int×Int)=>zbg deep rec_darninglaw14_SizeValue x s.1 s.2) h
theorem zkp {v:zb} {n:Int} {k:Int} {n':Int} {k':Int} (h:zaM v n k=some (.inl (n',k'))):zcx v n k=zcx v n' k':=zO (body:=fun s:(Int×Int)=>zaM v s.1 s.2) h
theorem zkq {v:zb} {n:Int} {k:Int} {oo_:Int} (h:zaM v n k=some (.inr oo_)):zcx v n k=some oo_:=zN (body:=fun s:(Int×Int)=>zaM v s.1 s.2) h
theorem zkr {deep:Int} {rec_darninglaw14_Size:zc→Int→Option Int} {v:zb} {n3:Int} {k2:Int} {n3':Int} {k2':Int} (h:zaz deep rec_darninglaw14_Size v n3 k2=some (.inl (n3',k2'))):zcy deep rec_darninglaw14_Size v n3 k2=zcy deep rec_darninglaw14_Size v n3' k2':=zO (body:=fun s:(Int×Int)=>zaz deep rec_darninglaw14_Size v s.1 s.2) h
theorem zgN {deep:Int} {rec_darninglaw14_Size:zc→Int→Option Int} {v:zb} {n3:Int} {k2:Int} {oo_:(Int⊕Unit)} (h:zaz deep rec_darninglaw14_Size v n3 k2=some (.inr oo_)):zcy deep rec_darninglaw14_Size v n3 k2=some oo_:=zN (body:=fun s:(Int×Int)=>zaz deep rec_darninglaw14_Size v s.1 s.2) h
def zdQ (b:(List UInt8)) (l:(List zg)) (all:(List Str)) (v2:Int):Option (((List Str)×Int)⊕(List Str)):=
 if (decide (v2<(l.length:Int))) then (
  idx l v2>>=fun x=>
  cut b x.Record.At x.Record.To>>=fun v3=>
  idx all v2>>=fun x2=>
  some (.inl ((all.set (Int.toNat v2) v3),(IntKind.i64.wrap (v2+1))))
 ) else (
  some (.inr all)
 )
def zhn (b:(List UInt8)) (l:(List zg)) (all:(List Str)) (v2:Int):Option (List Str):=zap (fun s:((List Str)×Int)=>zdQ b l s.1 s.2) (all,v2)
def zlT (b:(List UInt8)) (l:(List zg)):Option (List Str):=
 mkO 16 ([]:Str) (l.length:Int) (l.length:Int)>>=fun v=>
 zhn b l v 0>>=fun q=>
 some q
theorem zsj {b:(List UInt8)} {l:(List zg)} {all:(List Str)} {v2:Int} {all':(List Str)} {v2':Int} (h:zdQ b l all v2=some (.inl (all',v2'))):zhn b l all v2=zhn b l all' v2':=zO (body:=fun s:((List Str)×Int)=>zdQ b l s.1 s.2) h
theorem zsk {b:(List UInt8)} {l:(List zg)} {all:(List Str)} {v2:Int} {oo_:(List Str)} (h:zdQ b l all v2=some (.inr oo_)):zhn b l all v2=some oo_:=zN (body:=fun s:((List Str)×Int)=>zdQ b l s.1 s.2) h
def zdR (b:(List UInt8)) (k:Int) (l:(List zg)) (all:(List Int)) (v:Int):Option (((List Int)×Int)⊕(List Int)):=
 if (decide (v<(l.length:Int))) then (
  idx l v>>=fun x=>
  cut b x.Record.At x.Record.To>>=fun v2=>
  znD k v2>>=fun rv=>
  app 8 all rv.1>>=fun v3=>
  some (.inl (v3,(IntKind.i64.wrap (v+1))))
 ) else (
  some (.inr all)
 )
def zho (b:(List UInt8)) (k:Int) (l:(List zg)) (all:(List Int)) (v:Int):Option (List Int):=zap (fun s:((List Int)×Int)=>zdR b k l s.1 s.2) (all,v)
def zlU (k:Int) (b:(List UInt8)) (l:(List zg)):Option (List Int):=
 zho b k l [] 0>>=fun q=>
 some q
theorem zsl {b:(List UInt8)} {k:Int} {l:(List zg)} {all:(List Int)} {v:Int} {all':(List Int)} {v':Int} (h:zdR b k l all v=some (.inl (all',v'))):zho b k l all v=zho b k l all' v':=zO (body:=fun s:((List Int)×Int)=>zdR b k l s.1 s.2) h
theorem zsm {b:(List UInt8)} {k:Int} {l:(List zg)} {all:(List Int)} {v:Int} {oo_:(List Int)} (h:zdR b k l all v=some (.inr oo_)):zho b k l all v=some oo_:=zN (body:=fun s:((List Int)×Int)=>zdR b k l s.1 s.2) h
def zcD (b:(List UInt8)) (rv:((List zg)×Int×Int)) (known:(List (Int×(List zg)))) (v:Int) (f:(List Str)):Option (((List (Int×(List zg)))×Int×(List Str))⊕((List (Int×(List zg)))×(List Str))):=
 if (decide (v<(rv.1.length:Int))) then (
  idx rv.1 v>>=fun x2=>
  if (x2.Field==(-1)) then (
   cut b x2.Record.From x2.Record.To>>=fun v2=>
   app 16 f ([v2]:(List Str))>>=fun v3=>
   some (.inl (known,(IntKind.i64.wrap (v+1)),v3))
  ) else (
   app 56 ((mget known x2.Record.Number).getD []) ([x2]:(List zg))>>=fun v4=>
   some (.inl ((mput known x2.Record.Number v4),(IntKind.i64.wrap (v+1)),f))
  )
 ) else (
  some (.inr (known,f))
 )
def zfR (b:(List UInt8)) (rv:((List zg)×Int×Int)) (known:(List (Int×(List zg)))) (v:Int) (f:(List Str)):Option ((List (Int×(List zg)))×(List Str)):=zap (fun s:((List (Int×(List zg)))×Int×(List Str))=>zcD b rv s.1 s.2.1 s.2.2) (known,v,f)
def zcE (b:(List UInt8)) (q:((List (Int×(List zg)))×(List Str))) (rec_tree_value:(List zh)→ze→(List UInt8)→(List zg)→Option zb) (sv:(List zh)) (v5:(List Int)) (x:zh) (v6:Int) (f3:(List zb)):Option ((Int×(List zb))⊕(List zb)):=
 if (decide (v6<(v5.length:Int))) then (
  idx v5 v6>>=fun x3=>
  idx ((mget q.1 x3).getD []) 0>>=fun x4=>
  idx x.Fields x4.Field>>=fun x5=>
  rec_tree_value sv x5 b ((mget q.1 x3).getD [])>>=fun rv2=>
  zeR rv2>>=fun rv3=>
  if (decide (rv3>0)) then (
   app 80 f3 ([rv2]:(List zb))>>=fun v7=>
   some (.inl ((IntKind.i64.wrap (v6+1)),v7))
  ) else (
   some (.inl ((IntKind.i64.wrap (v6+1)),f3))
  )
 ) else (
  some (.inr f3)
 )
def zfS (b:(List UInt8)) (q:((List (Int×(List zg)))×(List Str))) (rec_tree_value:(List zh)→ze→(List UInt8)→(List zg)→Option zb) (sv:(List zh)) (v5:(List Int)) (x:zh) (v6:Int) (f3:(List zb)):Option (List zb):=zap (fun s:(Int×(List zb))=>zcE b q rec_tree_value sv v5 x s.1 s.2) (v6,f3)
def zhP (rec_tree_meaning:(List zh)→Int→(List UInt8)→Option zc) (rec_tree_subs:(List zh)→ze→(List UInt8)→(List zg)→Option (List zc)) (rec_tree_value:(List zh)→ze→(List UInt8)→(List zg)→Option zb) (sv:(List zh)) (message:Int) (b:(List UInt8)):Option zc:=
 idx sv message>>=fun x=>
 zpS x b>>=fun rv=>
 zfR b rv ([]:(List (Int×(List zg)))) 0 []>>=fun q=>
 zrC q.1>>=fun v5=>
 zfS b q rec_tree_value sv v5 x 0 []>>=fun q2=>
 some (⟨q2,q.2⟩:zc)
def zez (b:(List UInt8)) (l:(List zg)) (pieces:(List (List UInt8))) (v2:Int):Option (((List (List UInt8))×Int)⊕(List (List UInt8))):=
 if (decide (v2<(l.length:Int))) then (
  idx l v2>>=fun x=>
  cut b x.Record.At x.Record.To>>=fun v3=>
  idx pieces v2>>=fun x2=>
  some (.inl ((pieces.set (Int.toNat v2) v3),(IntKind.i64.wrap (v2+1))))
 ) else (
  some (.inr pieces)
 )
def zhY (b:(List UInt8)) (l:(List zg)) (pieces:(List (List UInt8))) (v2:Int):Option (List (List UInt8)):=zap (fun s:((List (List UInt8))×Int)=>zez b l s.1 s.2) (pieces,v2)
def zeA (f:ze) (p:(List (List UInt8))) (rec_tree_meaning:(List zh)→Int→(List UInt8)→Option zc) (sv:(List zh)) (all:(List zc)) (v6:Int):Option (((List zc)×Int)⊕(List zc)):=
 if (decide (v6<(p.length:Int))) then (
  idx p v6>>=fun x3=>
  rec_tree_meaning sv f.Of x3>>=fun rv2=>
  idx all v6>>=fun x4=>
  some (.inl ((all.set (Int.toNat v6) rv2),(IntKind.i64.wrap (v6+1))))
 ) else (
  some (.inr all)
 )
def zgi (f:ze) (p:(List (List UInt8))) (rec_tree_meaning:(List zh)→Int→(List UInt8)→Option zc) (sv:(List zh)) (all:(List zc)) (v6:Int):Option (List zc):=zap (fun s:((List zc)×Int)=>zeA f p rec_tree_meaning sv s.1 s.2) (all,v6)
def zja (rec_tree_meaning:(List zh)→Int→(List UInt8)→Option zc) (rec_tree_subs:(List zh)→ze→(List UInt8)→(List zg)→Option (List zc)) (rec_tree_value:(List zh)→ze→(List UInt8)→(List zg)→Option zb) (sv:(List zh)) (f:ze) (b:(List UInt8)) (l:(List zg)):Option (List zc):=
 mkO 24 ([]:(List UInt8)) (l.length:Int) (l.length:Int)>>=fun v=>
 zhY b l v 0>>=fun q=>
 ((
  if ((!f.Repeated)&&(decide ((q.length:Int)>1))) then (
   zcQ q>>=fun rv=>
   some ([rv]:(List (List UInt8)))
  ) else (
   some q
  )
  :Option (List (List UInt8))))>>=fun p=>
 mkO 48 ((⟨[],[]⟩:zc):zc) (p.length:Int) (p.length:Int)>>=fun v5=>
 zgi f p rec_tree_meaning sv v5 0>>=fun q2=>
 some q2
def zhZ (rec_tree_meaning:(List zh)→Int→(List UInt8)→Option zc) (rec_tree_subs:(List zh)→ze→(List UInt8)→(List zg)→Option (List zc)) (rec_tree_value:(List zh)→ze→(List UInt8)→(List zg)→Option zb) (sv:(List zh)) (f:ze) (b:(List UInt8)) (l:(List zg)):Option zb:=
 ((
  if ((!f.Repeated)&&(f.Kind !=17)) then (
   cut l (IntKind.i64.wrap ((l.length:Int) - 1)) (l.length:Int)>>=fun v2=>
   some v2
  ) else (
   some l
  )
  :Option (List zg)))>>=fun p=>
 if (f.Kind==17) then (
  rec_tree_subs sv f b p>>=fun rv=>
  some (⟨f.Number,[],[],rv⟩:zb)
 ) else (
  ((
   if (f.Kind==15) then (
    some (f.Kind==15)
   ) else (
    some (f.Kind==16)
   )
   :Option Bool))>>=fun p2=>
  if p2 then (
   zlT b p>>=fun rv2=>
   some (⟨f.Number,[],rv2,[]⟩:zb)
  ) else (
   zlU f.Kind b p>>=fun rv3=>
   some (⟨f.Number,rv3,[],[]⟩:zb)
  )
 )
def zar:Nat→((List zh)→Int→(List UInt8)→Option zc)×((List zh)→ze→(List UInt8)→(List zg)→Option (List zc))×((List zh)→ze→(List UInt8)→(List zg)→Option zb)
  | 0=>(fun _ _ _=>none,fun _ _ _ _=>none,fun _ _ _ _=>none)
  | fuel+1=>(fun sv message b=>zhP (zar fuel).1 (zar fuel).2.1 (zar fuel).2.2 sv message b,fun sv f b l=>zja (zar fuel).1 (zar fuel).2.1 (zar fuel).2.2 sv f b l,fun sv f b l=>zhZ (zar fuel).1 (zar fuel).2.1 (zar fuel).2.2 sv f b l)
def zfm (fuel:Nat):(List zh)→Int→(List UInt8)→Option zc:=(zar fuel).1
def zqn (fuel:Nat):(List zh)→ze→(List UInt8)→(List zg)→Option (List zc):=(zar fuel).2.1
def zke (fuel:Nat):(List zh)→ze→(List UInt8)→(List zg)→Option zb:=(zar fuel).2.2
theorem zlb {b:(List UInt8)} {rv:((List zg)×Int×Int)} {known:(List (Int×(List zg)))} {v:Int} {f:(List Str)} {known':(List (Int×(List zg)))} {v':Int} {f':(List Str)} (h:zcD b rv known v f=some (.inl (known',v',f'))):zfR b rv known v f=zfR b rv known' v' f':=zO (body:=fun s:((List (Int×(List zg)))×Int×(List Str))=>zcD b rv s.1 s.2.1 s.2.2) h
theorem zqw {b:(List UInt8)} {rv:((List zg)×Int×Int)} {known:(List (Int×(List zg)))} {v:Int} {f:(List Str)} {oo_:((List (Int×(List zg)))×(List Str))} (h:zcD b rv known v f=some (.inr oo_)):zfR b rv known v f=some oo_:=zN (body:=fun s:((List (Int×(List zg)))×Int×(List Str))=>zcD b rv s.1 s.2.1 s.2.2) h
theorem zlc {b:(List UInt8)} {q:((List (Int×(List zg)))×(List Str))} {rec_tree_value:(List zh)→ze→(List UInt8)→(List zg)→Option zb} {sv:(List zh)} {v5:(List Int)} {x:zh} {v6:Int} {f3:(List zb)} {v6':Int} {f3':(List zb)} (h:zcE b q rec_tree_value sv v5 x v6 f3=some (.inl (v6',f3'))):zfS b q rec_tree_value sv v5 x v6 f3=zfS b q rec_tree_value sv v5 x v6' f3':=zO (body:=fun s:(Int×(List zb))=>zcE b q rec_tree_value sv v5 x s.1 s.2) h
theorem zqx {b:(List UInt8)} {q:((List (Int×(List zg)))×(List Str))} {rec_tree_value:(List zh)→ze→(List UInt8)→(List zg)→Option zb} {sv:(List zh)} {v5:(List Int)} {x:zh} {v6:Int} {f3:(List zb)} {oo_:(List zb)} (h:zcE b q rec_tree_value sv v5 x v6 f3=some (.inr oo_)):zfS b q rec_tree_value sv v5 x v6 f3=some oo_:=zN (body:=fun s:(Int×(List zb))=>zcE b q rec_tree_value sv v5 x s.1 s.2) h
theorem ztk {b:(List UInt8)} {l:(List zg)} {pieces:(List (List UInt8))} {v2:Int} {pieces':(List (List UInt8))} {v2':Int} (h:zez b l pieces v2=some (.inl (pieces',v2'))):zhY b l pieces v2=zhY b l pieces' v2':=zO (body:=fun s:((List (List UInt8))×Int)=>zez b l s.1 s.2) h
theorem ztl {b:(List UInt8)} {l:(List zg)} {pieces:(List (List UInt8))} {v2:Int} {oo_:(List (List UInt8))} (h:zez b l pieces v2=some (.inr oo_)):zhY b l pieces v2=some oo_:=zN (body:=fun s:((List (List UInt8))×Int)=>zez b l s.1 s.2) h
theorem ztm {f:ze} {p:(List (List UInt8))} {rec_tree_meaning:(List zh)→Int→(List UInt8)→Option zc} {sv:(List zh)} {all:(List zc)} {v6:Int} {all':(List zc)} {v6':Int} (h:zeA f p rec_tree_meaning sv all v6=some (.inl (all',v6'))):zgi f p rec_tree_meaning sv all v6=zgi f p rec_tree_meaning sv all' v6':=zO (body:=fun s:((List zc)×Int)=>zeA f p rec_tree_meaning sv s.1 s.2) h
theorem ztn {f:ze} {p:(List (List UInt8))} {rec_tree_meaning:(List zh)→Int→(List UInt8)→Option zc} {sv:(List zh)} {all:(List zc)} {v6:Int} {oo_:(List zc)} (h:zeA f p rec_tree_meaning sv all v6=some (.inr oo_)):zgi f p rec_tree_meaning sv all v6=some oo_:=zN (body:=fun s:((List zc)×Int)=>zeA f p rec_tree_meaning sv s.1 s.2) h
def zmA (fuel:Nat) (sv:(List zh)) (root:Int) (b:(List UInt8)) (d:Int):Option (zc×Int):=
 zkO fuel sv root b d>>=fun rv=>
 if (rv.2 !=0) then (
  some ((⟨[],[]⟩:zc),rv.2)
 ) else (
  zfm fuel sv root b>>=fun rv2=>
  some (rv2,0)
 )
def zfu (fuel:Nat):Option Bool:=
 zmA fuel ([(⟨[109],([(⟨[97],1,3,false,false,0⟩:ze)]:(List ze))⟩:zh)]:List zh) 0 ([(8:UInt8),(1:UInt8),(8:UInt8),(2:UInt8)]:List UInt8) 0>>=fun rv=>
 idx ([(⟨[97],1,3,false,false,0⟩:ze)]:(List ze)) 0>>=fun x=>
 zmA fuel ([(⟨[109],(([(⟨[97],1,3,false,false,0⟩:ze)]:(List ze)).set (Int.toNat 0) (⟨x.Name,x.Number,x.Kind,true,x.Packed,x.Of⟩:ze))⟩:zh)]:List zh) 0 ([(8:UInt8),(1:UInt8),(8:UInt8),(2:UInt8)]:List UInt8) 0>>=fun rv2=>
 (
  if ((IntKind.i64.wrap ((IntKind.i64.wrap rv.2)+(IntKind.i64.wrap rv2.2)))==0) then (
   if ((rv.1.Values.length:Int)==1) then (
    idx rv.1.Values 0>>=fun x2=>
    zcY x2.Words ([2]:(List Int))>>=fun rv3=>
    if rv3 then (
     if ((rv2.1.Values.length:Int)==1) then (
      idx rv2.1.Values 0>>=fun x3=>
      zcY x3.Words ([1,2]:(List Int))>>=fun rv4=>
      some rv4
     ) else (
      some false
     )
    ) else (
     some false
    )
   ) else (
    some false
   )
  ) else (
   some false
  )
 )>>=fun g=>
 some g
def zdP (most:Int) (rec_tree_depth:zc→Int→Option Int) (x2:zb) (deep3:Int) (v3:Int):Option ((Int×Int)⊕(Int⊕Int)):=
 if (decide (v3<(x2.Subs.length:Int))) then (
  idx x2.Subs v3>>=fun x3=>
  if (decide (most≤0)) then (
   some (.inr (.inr 1))
  ) else (
   rec_tree_depth x3 (IntKind.i64.wrap (most - 1))>>=fun rv=>
   if (decide ((if deep3<(IntKind.i64.wrap (1+rv)) then (IntKind.i64.wrap (1+rv)) else deep3)>most)) then (
    some (.inr (.inr (if deep3<(IntKind.i64.wrap (1+rv)) then (IntKind.i64.wrap (1+rv)) else deep3)))
   ) else (
    some (.inl ((if deep3<(IntKind.i64.wrap (1+rv)) then (IntKind.i64.wrap (1+rv)) else deep3),(IntKind.i64.wrap (v3+1))))
   )
  )
 ) else (
  some (.inr (.inl deep3))
 )
def zhm (most:Int) (rec_tree_depth:zc→Int→Option Int) (x2:zb) (deep3:Int) (v3:Int):Option (Int⊕Int):=zap (fun s:(Int×Int)=>zdP most rec_tree_depth x2 s.1 s.2) (deep3,v3)
def zdO (most:Int) (rec_tree_depth:zc→Int→Option Int) (x:zc) (deep:Int) (v:Int):Option ((Int×Int)⊕(Int⊕Int)):=
 if (decide (v<(x.Values.length:Int))) then (
  idx x.Values v>>=fun x2=>
  zhm most rec_tree_depth x2 deep 0>>=fun q=>
  match q with
  | .inl u=>(
   some (.inl (u,(IntKind.i64.wrap (v+1))))
  )
  | .inr u2=>(
   some (.inr (.inr u2))
  )
 ) else (
  some (.inr (.inl deep))
 )
def zhl (most:Int) (rec_tree_depth:zc→Int→Option Int) (x:zc) (deep:Int) (v:Int):Option (Int⊕Int):=zap (fun s:(Int×Int)=>zdO most rec_tree_depth x s.1 s.2) (deep,v)
def zjy (rec_tree_depth:zc→Int→Option Int) (x:zc) (most:Int):Option Int:=
 zhl most rec_tree_depth x 0 0>>=fun q2=>
 match q2 with
 | .inl u3=>(
  some u3
 )
 | .inr u4=>(
  some u4
 )
def zgq:Nat→zc→Int→Option Int
  | 0,_,_=>none
  | fuel+1,x,most=>zjy (zgq fuel) x most
theorem zsf {most:Int} {rec_tree_depth:zc→Int→Option Int} {x2:zb} {deep3:Int} {v3:Int} {deep3':Int} {v3':Int} (h:zdP most rec_tree_depth x2 deep3 v3=some (.inl (deep3',v3'))):zhm most rec_tree_depth x2 deep3 v3=zhm most rec_tree_depth x2 deep3' v3':=zO (body:=fun s:(Int×Int)=>zdP most rec_tree_depth x2 s.1 s.2) h
theorem zsg {most:Int} {rec_tree_depth:zc→Int→Option Int} {x2:zb} {deep3:Int} {v3:Int} {oo_:(Int⊕Int)} (h:zdP most rec_tree_depth x2 deep3 v3=some (.inr oo_)):zhm most rec_tree_depth x2 deep3 v3=some oo_:=zN (body:=fun s:(Int×Int)=>zdP most rec_tree_depth x2 s.1 s.2) h
theorem zsd {most:Int} {rec_tree_depth:zc→Int→Option Int} {x:zc} {deep:Int} {v:Int} {deep':Int} {v':Int} (h:zdO most rec_tree_depth x deep v=some (.inl (deep',v'))):zhl most rec_tree_depth x deep v=zhl most rec_tree_depth x deep' v':=zO (body:=fun s:(Int×Int)=>zdO most rec_tree_depth x s.1 s.2) h
theorem zse {most:Int} {rec_tree_depth:zc→Int→Option Int} {x:zc} {deep:Int} {v:Int} {oo_:(Int⊕Int)} (h:zdO most rec_tree_depth x deep v=some (.inr oo_)):zhl most rec_tree_depth x deep v=some oo_:=zN (body:=fun s:(Int×Int)=>zdO most rec_tree_depth x s.1 s.2) h
def ziN (fuel:Nat) (x:zc):Option Int:=
 zgq fuel x 131072>>=fun rv=>
 some rv
def zkd (fuel:Nat) (x:zc):Option Bool:=
 ziN fuel x>>=fun rv=>
 some (decide (rv≤131072))
def zcr (l:(List Str)) (v:Int):Option (Int⊕(Unit⊕Unit)):=
 if (decide (v<(l.length:Int))) then (
  idx l v>>=fun x=>
  lenO x>>=fun v2=>
  zkf v2>>=fun rv=>
  if (!rv) then (
   some (.inr (.inr ()))
  ) else (
   some (.inl (IntKind.i64.wrap (v+1)))
  )
 ) else (
  some (.inr (.inl ()))
 )
def zfs (l:(List Str)) (v:Int):Option (Unit⊕Unit):=zap (fun s:Int=>zcr l s) v
def ziC (l:(List Str)):Option Bool:=
 zfs l 0>>=fun q=>
 match q with
 | .inl u=>(
  some true
 )
 | .inr u2=>(
  some false
 )
theorem zpM {l:(List Str)} {v:Int} {v':Int} (h:zcr l v=some (.inl v')):zfs l v=zfs l v':=zO (body:=fun s:Int=>zcr l s) h
theorem zkK {l:(List Str)} {v:Int} {oo_:(Unit⊕Unit)} (h:zcr l v=some (.inr oo_)):zfs l v=some oo_:=zN (body:=fun s:Int=>zcr l s) h
def zhO (m:zh) (text:Str):Option Bool:=
 lenO text>>=fun v=>
 zhJ v 0>>=fun rv=>
 if ((rv.2 !=0)|| (rv.1.To !=(text.length:Int))) then (
  some false
 ) else (
  zfP m rv.1.Number>>=fun rv2=>
  some (!rv2.2)
 )
def zaR (k:Int) (l:(List Int)) (v:Int):Option (Int⊕(Unit⊕Unit)):=
 if (decide (v<(l.length:Int))) then (
  idx l v>>=fun x=>
  ziK k x>>=fun rv=>
  if ((rv.2 !=0)|| (rv.1 !=x)) then (
   some (.inr (.inr ()))
  ) else (
   some (.inl (IntKind.i64.wrap (v+1)))
  )
 ) else (
  some (.inr (.inl ()))
 )
def zdJ (k:Int) (l:(List Int)) (v:Int):Option (Unit⊕Unit):=zap (fun s:Int=>zaR k l s) v
def zgh (k:Int) (l:(List Int)):Option Bool:=
 zdJ k l 0>>=fun q=>
 match q with
 | .inl u=>(
  some true
 )
 | .inr u2=>(
  some false
 )
theorem zng {k:Int} {l:(List Int)} {v:Int} {v':Int} (h:zaR k l v=some (.inl v')):zdJ k l v=zdJ k l v':=zO (body:=fun s:Int=>zaR k l s) h
theorem zgp {k:Int} {l:(List Int)} {v:Int} {oo_:(Unit⊕Unit)} (h:zaR k l v=some (.inr oo_)):zdJ k l v=some oo_:=zN (body:=fun s:Int=>zaR k l s) h
def zbz (l:(List zc)) (message:Int) (rec_tree_isMeaning:(List zh)→Int→zc→Option Bool) (sv:(List zh)) (v2:Int):Option (Int⊕(Unit⊕Unit)):=
 if (decide (v2<(l.length:Int))) then (
  idx l v2>>=fun x=>
  rec_tree_isMeaning sv message x>>=fun rv=>
  if (!rv) then (
   some (.inr (.inr ()))
  ) else (
   some (.inl (IntKind.i64.wrap (v2+1)))
  )
 ) else (
  some (.inr (.inl ()))
 )
def zeg (l:(List zc)) (message:Int) (rec_tree_isMeaning:(List zh)→Int→zc→Option Bool) (sv:(List zh)) (v2:Int):Option (Unit⊕Unit):=zap (fun s:Int=>zbz l message rec_tree_isMeaning sv s) v2
def zfF (rec_tree_areMeanings:(List zh)→Int→(List zc)→Option Bool) (rec_tree_fits:ze→(List zh)→zb→Option Bool) (rec_tree_isMeaning:(List zh)→Int→zc→Option Bool) (sv:(List zh)) (message:Int) (l:(List zc)):Option Bool:=
 if ((decide (message<0))|| (decide (message≥(sv.length:Int)))) then (
  some false
 ) else (
  zeg l message rec_tree_isMeaning sv 0>>=fun q=>
  match q with
  | .inl u=>(
   some true
  )
  | .inr u2=>(
   some false
  )
 )
def zkL (rec_tree_areMeanings:(List zh)→Int→(List zc)→Option Bool) (rec_tree_fits:ze→(List zh)→zb→Option Bool) (rec_tree_isMeaning:(List zh)→Int→zc→Option Bool) (f:ze) (sv:(List zh)) (v:zb):Option Bool:=
 zeR v>>=fun rv=>
 if ((rv==0)|| ((decide (rv>1))&&(!f.Repeated))) then (
  some false
 ) else (
  if (f.Kind==15) then (
   (
    if ((v.Texts.length:Int)==rv) then (
     ziC v.Texts>>=fun rv2=>
     some rv2
    ) else (
     some false
    )
   )>>=fun g=>
   some g
  ) else (
   if (f.Kind==16) then (
    some ((v.Texts.length:Int)==rv)
   ) else (
    if (f.Kind==17) then (
     (
      if ((v.Subs.length:Int)==rv) then (
       rec_tree_areMeanings sv f.Of v.Subs>>=fun rv3=>
       some rv3
      ) else (
       some false
      )
     )>>=fun g2=>
     some g2
    ) else (
     (
      if ((v.Words.length:Int)==rv) then (
       zgh f.Kind v.Words>>=fun rv4=>
       some rv4
      ) else (
       some false
      )
     )>>=fun g3=>
     some g3
    )
   )
  )
 )
def zcd (rec_tree_fits:ze→(List zh)→zb→Option Bool) (sv:(List zh)) (x:zc) (x2:zh) (last:Int) (v:Int):Option ((Int×Int)⊕(Unit⊕Unit)):=
 if (decide (v<(x.Values.length:Int))) then (
  idx x.Values v>>=fun x3=>
  zfP x2 x3.Number>>=fun rv=>
  (
   if (!rv.2) then (
    some true
   ) else (
    if (decide (x3.Number≤last)) then (
     some true
    ) else (
     idx x2.Fields rv.1>>=fun x4=>
     rec_tree_fits x4 sv x3>>=fun rv2=>
     some (!rv2)
    )
   )
  )>>=fun g=>
  if g then (
   some (.inr (.inr ()))
  ) else (
   some (.inl (x3.Number,(IntKind.i64.wrap (v+1))))
  )
 ) else (
  some (.inr (.inl ()))
 )
def zeS (rec_tree_fits:ze→(List zh)→zb→Option Bool) (sv:(List zh)) (x:zc) (x2:zh) (last:Int) (v:Int):Option (Unit⊕Unit):=zap (fun s:(Int×Int)=>zcd rec_tree_fits sv x x2 s.1 s.2) (last,v)
def zce (x:zc) (x2:zh) (v3:Int):Option (Int⊕(Unit⊕Unit)):=
 if (decide (v3<(x.Unknown.length:Int))) then (
  idx x.Unknown v3>>=fun x5=>
  zhO x2 x5>>=fun rv3=>
  if (!rv3) then (
   some (.inr (.inr ()))
  ) else (
   some (.inl (IntKind.i64.wrap (v3+1)))
  )
 ) else (
  some (.inr (.inl ()))
 )
def zeT (x:zc) (x2:zh) (v3:Int):Option (Unit⊕Unit):=zap (fun s:Int=>zce x x2 s) v3
def zgI (rec_tree_areMeanings:(List zh)→Int→(List zc)→Option Bool) (rec_tree_fits:ze→(List zh)→zb→Option Bool) (rec_tree_isMeaning:(List zh)→Int→zc→Option Bool) (sv:(List zh)) (message:Int) (x:zc):Option Bool:=
 idx sv message>>=fun x2=>
 zeS rec_tree_fits sv x x2 0 0>>=fun q=>
 match q with
 | .inl u=>(
  zeT x x2 0>>=fun q2=>
  match q2 with
  | .inl u2=>(
   some true
  )
  | .inr u3=>(
   some false
  )
 )
 | .inr u4=>(
  some false
 )
def zai:Nat→((List zh)→Int→(List zc)→Option Bool)×(ze→(List zh)→zb→Option Bool)×((List zh)→Int→zc→Option Bool)
  | 0=>(fun _ _ _=>none,fun _ _ _=>none,fun _ _ _=>none)
  | fuel+1=>(fun sv message l=>zfF (zai fuel).1 (zai fuel).2.1 (zai fuel).2.2 sv message l,fun f sv v=>zkL (zai fuel).1 (zai fuel).2.1 (zai fuel).2.2 f sv v,fun sv message x=>zgI (zai fuel).1 (zai fuel).2.1 (zai fuel).2.2 sv message x)
def zgG (fuel:Nat):(List zh)→Int→(List zc)→Option Bool:=(zai fuel).1
def ziZ (fuel:Nat):ze→(List zh)→zb→Option Bool:=(zai fuel).2.1
def zeb (fuel:Nat):(List zh)→Int→zc→Option Bool:=(zai fuel).2.2
theorem znL {l:(List zc)} {message:Int} {rec_tree_isMeaning:(List zh)→Int→zc→Option Bool} {sv:(List zh)} {v2:Int} {v2':Int} (h:zbz l message rec_tree_isMeaning sv v2=some (.inl v2')):zeg l message rec_tree_isMeaning sv v2=zeg l message rec_tree_isMeaning sv v2':=zO (body:=fun s:Int=>zbz l message rec_tree_isMeaning sv s) h
theorem ziY {l:(List zc)} {message:Int} {rec_tree_isMeaning:(List zh)→Int→zc→Option Bool} {sv:(List zh)} {v2:Int} {oo_:(Unit⊕Unit)} (h:zbz l message rec_tree_isMeaning sv v2=some (.inr oo_)):zeg l message rec_tree_isMeaning sv v2=some oo_:=zN (body:=fun s:Int=>zbz l message rec_tree_isMeaning sv s) h
theorem zoV {rec_tree_fits:ze→(List zh)→zb→Option Bool} {sv:(List zh)} {x:zc} {x2:zh} {last:Int} {v:Int} {last':Int} {v':Int} (h:zcd rec_tree_fits sv x x2 last v=some (.inl (last',v'))):zeS rec_tree_fits sv x x2 last v=zeS rec_tree_fits sv x x2 last' v':=zO (body:=fun s:(Int×Int)=>zcd rec_tree_fits sv x x2 s.1 s.2) h
theorem zjG {rec_tree_fits:ze→(List zh)→zb→Option Bool} {sv:(List zh)} {x:zc} {x2:zh} {last:Int} {v:Int} {oo_:(Unit⊕Unit)} (h:zcd rec_tree_fits sv x x2 last v=some (.inr oo_)):zeS rec_tree_fits sv x x2 last v=some oo_:=zN (body:=fun s:(Int×Int)=>zcd rec_tree_fits sv x x2 s.1 s.2) h
theorem zoW {x:zc} {x2:zh} {v3:Int} {v3':Int} (h:zce x x2 v3=some (.inl v3')):zeT x x2 v3=zeT x x2 v3':=zO (body:=fun s:Int=>zce x x2 s) h
theorem zjH {x:zc} {x2:zh} {v3:Int} {oo_:(Unit⊕Unit)} (h:zce x x2 v3=some (.inr oo_)):zeT x x2 v3=some oo_:=zN (body:=fun s:Int=>zce x x2 s) h
def zcZ (v:zb):Option Int:=
 some (IntKind.i64.wrap ((IntKind.i64.wrap ((v.Words.length:Int)+(v.Texts.length:Int)))+(v.Subs.length:Int)))
def zbI (f:ze) (v:zb) (ok:Bool) (i:Int):Option ((Bool×Int)⊕Bool):=
 if (decide (i<(v.Words.length:Int))) then (
  (
   if ok then (
    zcX f.Kind>>=fun rv5=>
    if rv5 then (
     idx v.Words i>>=fun x=>
     zfy f.Kind x>>=fun rv6=>
     idx v.Words i>>=fun x2=>
     some (rv6==x2)
    ) else (
     some false
    )
   ) else (
    some false
   )
  )>>=fun g2=>
  some (.inl (g2,(IntKind.i64.wrap (i+1))))
 ) else (
  some (.inr ok)
 )
def zdy (f:ze) (v:zb) (ok:Bool) (i:Int):Option Bool:=zap (fun s:(Bool×Int)=>zbI f v s.1 s.2) (ok,i)
def zbJ (f:ze) (v:zb) (ok4:Bool) (i2:Int):Option ((Bool×Int)⊕Bool):=
 if (decide (i2<(v.Texts.length:Int))) then (
  (
   if ok4 then (
    if (f.Kind==16) then (
     some true
    ) else (
     if (f.Kind==15) then (
      idx v.Texts i2>>=fun x3=>
      lenO x3>>=fun v3=>
      zfx v3>>=fun rv7=>
      some rv7
     ) else (
      some false
     )
    )
   ) else (
    some false
   )
  )>>=fun g3=>
  some (.inl (g3,(IntKind.i64.wrap (i2+1))))
 ) else (
  some (.inr ok4)
 )
def zdz (f:ze) (v:zb) (ok4:Bool) (i2:Int):Option Bool:=zap (fun s:(Bool×Int)=>zbJ f v s.1 s.2) (ok4,i2)
def zbK (f:ze) (rec_darningref14_Right:(List zh)→Int→zc→Option Bool) (sv:(List zh)) (v:zb) (ok7:Bool) (i3:Int):Option ((Bool×Int)⊕Bool):=
 if (decide (i3<(v.Subs.length:Int))) then (
  (
   if ok7 then (
    if (f.Kind==17) then (
     idx v.Subs i3>>=fun x4=>
     rec_darningref14_Right sv f.Of x4>>=fun rv8=>
     some rv8
    ) else (
     some false
    )
   ) else (
    some false
   )
  )>>=fun g4=>
  some (.inl (g4,(IntKind.i64.wrap (i3+1))))
 ) else (
  some (.inr ok7)
 )
def zdA (f:ze) (rec_darningref14_Right:(List zh)→Int→zc→Option Bool) (sv:(List zh)) (v:zb) (ok7:Bool) (i3:Int):Option Bool:=zap (fun s:(Bool×Int)=>zbK f rec_darningref14_Right sv v s.1 s.2) (ok7,i3)
def zfb (rec_darningref14_Fits:(List zh)→ze→zb→Option Bool) (rec_darningref14_Right:(List zh)→Int→zc→Option Bool) (sv:(List zh)) (f:ze) (v:zb):Option Bool:=
 (
  zcZ v>>=fun rv=>
  if (rv==0) then (
   some true
  ) else (
   zcZ v>>=fun rv2=>
   if (decide (rv2>1)) then (
    if (!f.Repeated) then (
     some true
    ) else (
     zcC f.Kind>>=fun rv3=>
     some (!rv3)
    )
   ) else (
    zcC f.Kind>>=fun rv4=>
    some (!rv4)
   )
  )
 )>>=fun g=>
 if g then (
  some false
 ) else (
  zdy f v true 0>>=fun q=>
  zdz f v q 0>>=fun q2=>
  zdA f rec_darningref14_Right sv v q2 0>>=fun q3=>
  some q3
 )
def zaX (rec_darningref14_Fits:(List zh)→ze→zb→Option Bool) (root:Int) (sv:(List zh)) (x:zc) (i:Int):Option (Int⊕(Unit⊕Unit)):=
 if (decide (i<(x.Values.length:Int))) then (
  idx sv root>>=fun x2=>
  idx x.Values i>>=fun x3=>
  zes x2 x3.Number>>=fun rv=>
  (
   if (decide (rv<0)) then (
    some true
   ) else (
    if (decide (i>0)) then (
     idx x.Values (IntKind.i64.wrap (i - 1))>>=fun x4=>
     idx x.Values i>>=fun x5=>
     if (decide (x4.Number≥x5.Number)) then (
      some true
     ) else (
      idx sv root>>=fun x6=>
      idx x6.Fields rv>>=fun x7=>
      idx x.Values i>>=fun x8=>
      rec_darningref14_Fits sv x7 x8>>=fun rv2=>
      some (!rv2)
     )
    ) else (
     idx sv root>>=fun x9=>
     idx x9.Fields rv>>=fun x10=>
     idx x.Values i>>=fun x11=>
     rec_darningref14_Fits sv x10 x11>>=fun rv3=>
     some (!rv3)
    )
   )
  )>>=fun g=>
  if g then (
   some (.inr (.inr ()))
  ) else (
   some (.inl (IntKind.i64.wrap (i+1)))
  )
 ) else (
  some (.inr (.inl ()))
 )
def zdk (rec_darningref14_Fits:(List zh)→ze→zb→Option Bool) (root:Int) (sv:(List zh)) (x:zc) (i:Int):Option (Unit⊕Unit):=zap (fun s:Int=>zaX rec_darningref14_Fits root sv x s) i
def zaY (root:Int) (sv:(List zh)) (x:zc) (i2:Int):Option (Int⊕(Unit⊕Unit)):=
 if (decide (i2<(x.Unknown.length:Int))) then (
  idx x.Unknown i2>>=fun x12=>
  lenO x12>>=fun v3=>
  zfY v3 0>>=fun rv4=>
  (
   if (rv4.2 !=0) then (
    some true
   ) else (
    idx x.Unknown i2>>=fun x13=>
    if (rv4.1.To !=(x13.length:Int)) then (
     some true
    ) else (
     idx sv root>>=fun x14=>
     zes x14 rv4.1.Number>>=fun rv5=>
     some (decide (rv5≥0))
    )
   )
  )>>=fun g2=>
  if g2 then (
   some (.inr (.inr ()))
  ) else (
   some (.inl (IntKind.i64.wrap (i2+1)))
  )
 ) else (
  some (.inr (.inl ()))
 )
def zdl (root:Int) (sv:(List zh)) (x:zc) (i2:Int):Option (Unit⊕Unit):=zap (fun s:Int=>zaY root sv x s) i2
def zeE (rec_darningref14_Fits:(List zh)→ze→zb→Option Bool) (rec_darningref14_Right:(List zh)→Int→zc→Option Bool) (sv:(List zh)) (root:Int) (x:zc):Option Bool:=
 if ((decide (root<0))|| (decide (root≥(sv.length:Int)))) then (
  some false
 ) else (
  zdk rec_darningref14_Fits root sv x 0>>=fun q=>
  match q with
  | .inl u=>(
   zdl root sv x 0>>=fun q2=>
   match q2 with
   | .inl u2=>(
    some true
   )
   | .inr u3=>(
    some false
   )
  )
  | .inr u4=>(
   some false
  )
 )
def zaH:Nat→((List zh)→ze→zb→Option Bool)×((List zh)→Int→zc→Option Bool)
  | 0=>(fun _ _ _=>none,fun _ _ _=>none)
  | fuel+1=>(fun sv f v=>zfb (zaH fuel).1 (zaH fuel).2 sv f v,fun sv root x=>zeE (zaH fuel).1 (zaH fuel).2 sv root x)
def zdX (fuel:Nat):(List zh)→ze→zb→Option Bool:=(zaH fuel).1
def zch (fuel:Nat):(List zh)→Int→zc→Option Bool:=(zaH fuel).2
theorem zmO {f:ze} {v:zb} {ok:Bool} {i:Int} {ok':Bool} {i':Int} (h:zbI f v ok i=some (.inl (ok',i'))):zdy f v ok i=zdy f v ok' i':=zO (body:=fun s:(Bool×Int)=>zbI f v s.1 s.2) h
theorem zmP {f:ze} {v:zb} {ok:Bool} {i:Int} {oo_:Bool} (h:zbI f v ok i=some (.inr oo_)):zdy f v ok i=some oo_:=zN (body:=fun s:(Bool×Int)=>zbI f v s.1 s.2) h
theorem zmQ {f:ze} {v:zb} {ok4:Bool} {i2:Int} {ok4':Bool} {i2':Int} (h:zbJ f v ok4 i2=some (.inl (ok4',i2'))):zdz f v ok4 i2=zdz f v ok4' i2':=zO (body:=fun s:(Bool×Int)=>zbJ f v s.1 s.2) h
theorem zmR {f:ze} {v:zb} {ok4:Bool} {i2:Int} {oo_:Bool} (h:zbJ f v ok4 i2=some (.inr oo_)):zdz f v ok4 i2=some oo_:=zN (body:=fun s:(Bool×Int)=>zbJ f v s.1 s.2) h
theorem zmS {f:ze} {rec_darningref14_Right:(List zh)→Int→zc→Option Bool} {sv:(List zh)} {v:zb} {ok7:Bool} {i3:Int} {ok7':Bool} {i3':Int} (h:zbK f rec_darningref14_Right sv v ok7 i3=some (.inl (ok7',i3'))):zdA f rec_darningref14_Right sv v ok7 i3=zdA f rec_darningref14_Right sv v ok7' i3':=zO (body:=fun s:(Bool×Int)=>zbK f rec_darningref14_Right sv v s.1 s.2) h
theorem zmT {f:ze} {rec_darningref14_Right:(List zh)→Int→zc→Option Bool} {sv:(List zh)} {v:zb} {ok7:Bool} {i3:Int} {oo_:Bool} (h:zbK f rec_darningref14_Right sv v ok7 i3=some (.inr oo_)):zdA f rec_darningref14_Right sv v ok7 i3=some oo_:=zN (body:=fun s:(Bool×Int)=>zbK f rec_darningref14_Right sv v s.1 s.2) h
theorem zmn {rec_darningref14_Fits:(List zh)→ze→zb→Option Bool} {root:Int} {sv:(List zh)} {x:zc} {i:Int} {i':Int} (h:zaX rec_darningref14_Fits root sv x i=some (.inl i')):zdk rec_darningref14_Fits root sv x i=zdk rec_darningref14_Fits root sv x i':=zO (body:=fun s:Int=>zaX rec_darningref14_Fits root sv x s) h
theorem zic {rec_darningref14_Fits:(List zh)→ze→zb→Option Bool} {root:Int} {sv:(List zh)} {x:zc} {i:Int} {oo_:(Unit⊕Unit)} (h:zaX rec_darningref14_Fits root sv x i=some (.inr oo_)):zdk rec_darningref14_Fits root sv x i=some oo_:=zN (body:=fun s:Int=>zaX rec_darningref14_Fits root sv x s) h
theorem zmo {root:Int} {sv:(List zh)} {x:zc} {i2:Int} {i2':Int} (h:zaY root sv x i2=some (.inl i2')):zdl root sv x i2=zdl root sv x i2':=zO (body:=fun s:Int=>zaY root sv x s) h
theorem zid {root:Int} {sv:(List zh)} {x:zc} {i2:Int} {oo_:(Unit⊕Unit)} (h:zaY root sv x i2=some (.inr oo_)):zdl root sv x i2=some oo_:=zN (body:=fun s:Int=>zaY root sv x s) h
def zkc (fuel:Nat) (sv:(List zh)) (root:Int) (x:zc):Option Bool:=
 (
  zkg sv root 0>>=fun rv=>
  if (rv==0) then (
   zkd fuel x>>=fun rv2=>
   if rv2 then (
    zeb fuel sv root x>>=fun rv3=>
    some rv3
   ) else (
    some false
   )
  ) else (
   some false
  )
 )>>=fun g=>
 some g
def zdq (rec_tree_copiedValue:zb→Option zb) (rv:(List zb)) (v:(List zb)) (v2:Int):Option (((List zb)×Int)⊕(List zb)):=
 if (decide (v2<(rv.length:Int))) then (
  idx v v2>>=fun x2=>
  rec_tree_copiedValue x2>>=fun rv3=>
  idx v v2>>=fun x3=>
  some (.inl ((v.set (Int.toNat v2) rv3),(IntKind.i64.wrap (v2+1))))
 ) else (
  some (.inr v)
 )
def zgH (rec_tree_copiedValue:zb→Option zb) (rv:(List zb)) (v:(List zb)) (v2:Int):Option (List zb):=zap (fun s:((List zb)×Int)=>zdq rec_tree_copiedValue rv s.1 s.2) (v,v2)
def ziD (rec_tree_copied:zc→Option zc) (rec_tree_copiedValue:zb→Option zb) (x:zc):Option zc:=
 zbm x.Values>>=fun rv=>
 zbN x.Unknown>>=fun rv2=>
 zgH rec_tree_copiedValue rv rv 0>>=fun q=>
 some (⟨q,rv2⟩:zc)
def zbV (rec_tree_copied:zc→Option zc) (rv3:(List zc)) (v2:(List zc)) (v3:Int):Option (((List zc)×Int)⊕(List zc)):=
 if (decide (v3<(rv3.length:Int))) then (
  idx v2 v3>>=fun x=>
  rec_tree_copied x>>=fun rv4=>
  idx v2 v3>>=fun x2=>
  some (.inl ((v2.set (Int.toNat v3) rv4),(IntKind.i64.wrap (v3+1))))
 ) else (
  some (.inr v2)
 )
def zeh (rec_tree_copied:zc→Option zc) (rv3:(List zc)) (v2:(List zc)) (v3:Int):Option (List zc):=zap (fun s:((List zc)×Int)=>zbV rec_tree_copied rv3 s.1 s.2) (v2,v3)
def zfG (rec_tree_copied:zc→Option zc) (rec_tree_copiedValue:zb→Option zb) (v:zb):Option zb:=
 zcv v.Words>>=fun rv=>
 zbN v.Texts>>=fun rv2=>
 zbW v.Subs>>=fun rv3=>
 zeh rec_tree_copied rv3 rv3 0>>=fun q=>
 some (⟨v.Number,rv,rv2,q⟩:zb)
def zbp:Nat→(zc→Option zc)×(zb→Option zb)
  | 0=>(fun _=>none,fun _=>none)
  | fuel+1=>(fun x=>ziD (zbp fuel).1 (zbp fuel).2 x,fun v=>zfG (zbp fuel).1 (zbp fuel).2 v)
def zgU (fuel:Nat):zc→Option zc:=(zbp fuel).1
def zft (fuel:Nat):zb→Option zb:=(zbp fuel).2
theorem zrg {rec_tree_copiedValue:zb→Option zb} {rv:(List zb)} {v:(List zb)} {v2:Int} {v':(List zb)} {v2':Int} (h:zdq rec_tree_copiedValue rv v v2=some (.inl (v',v2'))):zgH rec_tree_copiedValue rv v v2=zgH rec_tree_copiedValue rv v' v2':=zO (body:=fun s:((List zb)×Int)=>zdq rec_tree_copiedValue rv s.1 s.2) h
theorem zrh {rec_tree_copiedValue:zb→Option zb} {rv:(List zb)} {v:(List zb)} {v2:Int} {oo_:(List zb)} (h:zdq rec_tree_copiedValue rv v v2=some (.inr oo_)):zgH rec_tree_copiedValue rv v v2=some oo_:=zN (body:=fun s:((List zb)×Int)=>zdq rec_tree_copiedValue rv s.1 s.2) h
theorem znM {rec_tree_copied:zc→Option zc} {rv3:(List zc)} {v2:(List zc)} {v3:Int} {v2':(List zc)} {v3':Int} (h:zbV rec_tree_copied rv3 v2 v3=some (.inl (v2',v3'))):zeh rec_tree_copied rv3 v2 v3=zeh rec_tree_copied rv3 v2' v3':=zO (body:=fun s:((List zc)×Int)=>zbV rec_tree_copied rv3 s.1 s.2) h
theorem znN {rec_tree_copied:zc→Option zc} {rv3:(List zc)} {v2:(List zc)} {v3:Int} {oo_:(List zc)} (h:zbV rec_tree_copied rv3 v2 v3=some (.inr oo_)):zeh rec_tree_copied rv3 v2 v3=some oo_:=zN (body:=fun s:((List zc)×Int)=>zbV rec_tree_copied rv3 s.1 s.2) h
def ziW (fuel:Nat) (x:zc):Option zc:=
 zkd fuel x>>=fun rv=>
 if (!rv) then (
  some (⟨[],[]⟩:zc)
 ) else (
  zgU fuel x>>=fun rv2=>
  some rv2
 )
def zkN (rec_tree_same:zc→zc→Option Bool) (rec_tree_sameValue:zb→zb→Option Bool) (rec_slices_EqualFunc___tree_Value___tree_Value_tree_Value_tree_Value___tree_sameValue:(List zb)→(List zb)→Option Bool) (rec_slices_EqualFunc___tree_Msg___tree_Msg_tree_Msg_tree_Msg___tree_same:(List zc)→(List zc)→Option Bool) (av:zc) (b:zc):Option Bool:=
 (
  rec_slices_EqualFunc___tree_Value___tree_Value_tree_Value_tree_Value___tree_sameValue av.Values b.Values>>=fun rv=>
  if rv then (
   zbQ av.Unknown b.Unknown>>=fun rv2=>
   some rv2
  ) else (
   some false
  )
 )>>=fun g=>
 some g
def zgK (rec_tree_same:zc→zc→Option Bool) (rec_tree_sameValue:zb→zb→Option Bool) (rec_slices_EqualFunc___tree_Value___tree_Value_tree_Value_tree_Value___tree_sameValue:(List zb)→(List zb)→Option Bool) (rec_slices_EqualFunc___tree_Msg___tree_Msg_tree_Msg_tree_Msg___tree_same:(List zc)→(List zc)→Option Bool) (v:zb) (wv:zb):Option Bool:=
 (
  if (v.Number==wv.Number) then (
   zcw v.Words wv.Words>>=fun rv=>
   if rv then (
    zbQ v.Texts wv.Texts>>=fun rv2=>
    if rv2 then (
     rec_slices_EqualFunc___tree_Msg___tree_Msg_tree_Msg_tree_Msg___tree_same v.Subs wv.Subs>>=fun rv3=>
     some rv3
    ) else (
     some false
    )
   ) else (
    some false
   )
  ) else (
   some false
  )
 )>>=fun g=>
 some g
def zy (rec_tree_sameValue:zb→zb→Option Bool) (s1:(List zb)) (s2:(List zb)) (v:Int):Option (Int⊕(Unit⊕Unit)):=
 if (decide (v<(s1.length:Int))) then (
  idx s1 v>>=fun x=>
  idx s2 v>>=fun x2=>
  rec_tree_sameValue x x2>>=fun rv=>
  if (!rv) then (
   some (.inr (.inr ()))
  ) else (
   some (.inl (IntKind.i64.wrap (v+1)))
  )
 ) else (
  some (.inr (.inl ()))
 )
def zM (rec_tree_sameValue:zb→zb→Option Bool) (s1:(List zb)) (s2:(List zb)) (v:Int):Option (Unit⊕Unit):=zap (fun s:Int=>zy rec_tree_sameValue s1 s2 s) v
def zT (rec_tree_same:zc→zc→Option Bool) (rec_tree_sameValue:zb→zb→Option Bool) (rec_slices_EqualFunc___tree_Value___tree_Value_tree_Value_tree_Value___tree_sameValue:(List zb)→(List zb)→Option Bool) (rec_slices_EqualFunc___tree_Msg___tree_Msg_tree_Msg_tree_Msg___tree_same:(List zc)→(List zc)→Option Bool) (s1:(List zb)) (s2:(List zb)):Option Bool:=
 if ((s1.length:Int) !=(s2.length:Int)) then (
  some false
 ) else (
  zM rec_tree_sameValue s1 s2 0>>=fun q=>
  match q with
  | .inl u=>(
   some true
  )
  | .inr u2=>(
   some false
  )
 )
def zE (rec_tree_same:zc→zc→Option Bool) (s1:(List zc)) (s2:(List zc)) (v:Int):Option (Int⊕(Unit⊕Unit)):=
 if (decide (v<(s1.length:Int))) then (
  idx s1 v>>=fun x=>
  idx s2 v>>=fun x2=>
  rec_tree_same x x2>>=fun rv=>
  if (!rv) then (
   some (.inr (.inr ()))
  ) else (
   some (.inl (IntKind.i64.wrap (v+1)))
  )
 ) else (
  some (.inr (.inl ()))
 )
def zU (rec_tree_same:zc→zc→Option Bool) (s1:(List zc)) (s2:(List zc)) (v:Int):Option (Unit⊕Unit):=zap (fun s:Int=>zE rec_tree_same s1 s2 s) v
def zac (rec_tree_same:zc→zc→Option Bool) (rec_tree_sameValue:zb→zb→Option Bool) (rec_slices_EqualFunc___tree_Value___tree_Value_tree_Value_tree_Value___tree_sameValue:(List zb)→(List zb)→Option Bool) (rec_slices_EqualFunc___tree_Msg___tree_Msg_tree_Msg_tree_Msg___tree_same:(List zc)→(List zc)→Option Bool) (s1:(List zc)) (s2:(List zc)):Option Bool:=
 if ((s1.length:Int) !=(s2.length:Int)) then (
  some false
 ) else (
  zU rec_tree_same s1 s2 0>>=fun q=>
  match q with
  | .inl u=>(
   some true
  )
  | .inr u2=>(
   some false
  )
 )
def zQ:Nat→(zc→zc→Option Bool)×(zb→zb→Option Bool)×((List zb)→(List zb)→Option Bool)×((List zc)→(List zc)→Option Bool)
  | 0=>(fun _ _=>none,fun _ _=>none,fun _ _=>none,fun _ _=>none)
  | fuel+1=>(fun av b=>zkN (zQ fuel).1 (zQ fuel).2.1 (zQ fuel).2.2.1 (zQ fuel).2.2.2 av b,fun v wv=>zgK (zQ fuel).1 (zQ fuel).2.1 (zQ fuel).2.2.1 (zQ fuel).2.2.2 v wv,fun s1 s2=>zT (zQ fuel).1 (zQ fuel).2.1 (zQ fuel).2.2.1 (zQ fuel).2.2.2 s1 s2,fun s1 s2=>zac (zQ fuel).1 (zQ fuel).2.1 (zQ fuel).2.2.1 (zQ fuel).2.2.2 s1 s2)
def zgJ (fuel:Nat):zc→zc→Option Bool:=(zQ fuel).1
def zec (fuel:Nat):zb→zb→Option Bool:=(zQ fuel).2.1
def zP (fuel:Nat):(List zb)→(List zb)→Option Bool:=(zQ fuel).2.2.1
def zV (fuel:Nat):(List zc)→(List zc)→Option Bool:=(zQ fuel).2.2.2
theorem zcl {rec_tree_sameValue:zb→zb→Option Bool} {s1:(List zb)} {s2:(List zb)} {v:Int} {v':Int} (h:zy rec_tree_sameValue s1 s2 v=some (.inl v')):zM rec_tree_sameValue s1 s2 v=zM rec_tree_sameValue s1 s2 v':=zO (body:=fun s:Int=>zy rec_tree_sameValue s1 s2 s) h
theorem zaK {rec_tree_sameValue:zb→zb→Option Bool} {s1:(List zb)} {s2:(List zb)} {v:Int} {oo_:(Unit⊕Unit)} (h:zy rec_tree_sameValue s1 s2 v=some (.inr oo_)):zM rec_tree_sameValue s1 s2 v=some oo_:=zN (body:=fun s:Int=>zy rec_tree_sameValue s1 s2 s) h
theorem zcO {rec_tree_same:zc→zc→Option Bool} {s1:(List zc)} {s2:(List zc)} {v:Int} {v':Int} (h:zE rec_tree_same s1 s2 v=some (.inl v')):zU rec_tree_same s1 s2 v=zU rec_tree_same s1 s2 v':=zO (body:=fun s:Int=>zE rec_tree_same s1 s2 s) h
theorem zbc {rec_tree_same:zc→zc→Option Bool} {s1:(List zc)} {s2:(List zc)} {v:Int} {oo_:(Unit⊕Unit)} (h:zE rec_tree_same s1 s2 v=some (.inr oo_)):zU rec_tree_same s1 s2 v=some oo_:=zN (body:=fun s:Int=>zE rec_tree_same s1 s2 s) h
def zlt (fuel:Nat) (av:zc) (b:zc):Option Bool:=
 (
  zkd fuel av>>=fun rv=>
  if rv then (
   zgJ fuel av b>>=fun rv2=>
   some rv2
  ) else (
   some false
  )
 )>>=fun g=>
 some g
def zbj (av:zc) (b:zc) (rec_darningref14_SameValue:zb→zb→Option Bool) (i:Int):Option (Int⊕(Unit⊕Unit)):=
 if (decide (i<(av.Values.length:Int))) then (
  idx av.Values i>>=fun x=>
  idx b.Values i>>=fun x2=>
  rec_darningref14_SameValue x x2>>=fun rv=>
  if (!rv) then (
   some (.inr (.inr ()))
  ) else (
   some (.inl (IntKind.i64.wrap (i+1)))
  )
 ) else (
  some (.inr (.inl ()))
 )
def zdB (av:zc) (b:zc) (rec_darningref14_SameValue:zb→zb→Option Bool) (i:Int):Option (Unit⊕Unit):=zap (fun s:Int=>zbj av b rec_darningref14_SameValue s) i
def zbk (av:zc) (b:zc) (i2:Int):Option (Int⊕(Unit⊕Unit)):=
 if (decide (i2<(av.Unknown.length:Int))) then (
  idx av.Unknown i2>>=fun x3=>
  idx b.Unknown i2>>=fun x4=>
  if (!(x3==x4)) then (
   some (.inr (.inr ()))
  ) else (
   some (.inl (IntKind.i64.wrap (i2+1)))
  )
 ) else (
  some (.inr (.inl ()))
 )
def zdC (av:zc) (b:zc) (i2:Int):Option (Unit⊕Unit):=zap (fun s:Int=>zbk av b s) i2
def zfc (rec_darningref14_Same:zc→zc→Option Bool) (rec_darningref14_SameValue:zb→zb→Option Bool) (av:zc) (b:zc):Option Bool:=
 if (((av.Values.length:Int) !=(b.Values.length:Int))|| ((av.Unknown.length:Int) !=(b.Unknown.length:Int))) then (
  some false
 ) else (
  zdB av b rec_darningref14_SameValue 0>>=fun q=>
  match q with
  | .inl u=>(
   zdC av b 0>>=fun q2=>
   match q2 with
   | .inl u2=>(
    some true
   )
   | .inr u3=>(
    some false
   )
  )
  | .inr u4=>(
   some false
  )
 )
def zaA (av:zb) (b:zb) (i:Int):Option (Int⊕(Unit⊕Unit)):=
 if (decide (i<(av.Words.length:Int))) then (
  idx av.Words i>>=fun x=>
  idx b.Words i>>=fun x2=>
  if (x !=x2) then (
   some (.inr (.inr ()))
  ) else (
   some (.inl (IntKind.i64.wrap (i+1)))
  )
 ) else (
  some (.inr (.inl ()))
 )
def zcz (av:zb) (b:zb) (i:Int):Option (Unit⊕Unit):=zap (fun s:Int=>zaA av b s) i
def zaB (av:zb) (b:zb) (i2:Int):Option (Int⊕(Unit⊕Unit)):=
 if (decide (i2<(av.Texts.length:Int))) then (
  idx av.Texts i2>>=fun x3=>
  idx b.Texts i2>>=fun x4=>
  if (!(x3==x4)) then (
   some (.inr (.inr ()))
  ) else (
   some (.inl (IntKind.i64.wrap (i2+1)))
  )
 ) else (
  some (.inr (.inl ()))
 )
def zcA (av:zb) (b:zb) (i2:Int):Option (Unit⊕Unit):=zap (fun s:Int=>zaB av b s) i2
def zaC (av:zb) (b:zb) (rec_darningref14_Same:zc→zc→Option Bool) (i3:Int):Option (Int⊕(Unit⊕Unit)):=
 if (decide (i3<(av.Subs.length:Int))) then (
  idx av.Subs i3>>=fun x5=>
  idx b.Subs i3>>=fun x6=>
  rec_darningref14_Same x5 x6>>=fun rv=>
  if (!rv) then (
   some (.inr (.inr ()))
  ) else (
   some (.inl (IntKind.i64.wrap (i3+1)))
  )
 ) else (
  some (.inr (.inl ()))
 )
def zcB (av:zb) (b:zb) (rec_darningref14_Same:zc→zc→Option Bool) (i3:Int):Option (Unit⊕Unit):=zap (fun s:Int=>zaC av b rec_darningref14_Same s) i3
def zdn (rec_darningref14_Same:zc→zc→Option Bool) (rec_darningref14_SameValue:zb→zb→Option Bool) (av:zb) (b:zb):Option Bool:=
 if ((av.Number !=b.Number)|| (((av.Words.length:Int) !=(b.Words.length:Int))|| (((av.Texts.length:Int) !=(b.Texts.length:Int))|| ((av.Subs.length:Int) !=(b.Subs.length:Int))))) then (
  some false
 ) else (
  zcz av b 0>>=fun q=>
  match q with
  | .inl u=>(
   zcA av b 0>>=fun q2=>
   match q2 with
   | .inl u2=>(
    zcB av b rec_darningref14_Same 0>>=fun q3=>
    match q3 with
    | .inl u3=>(
     some true
    )
    | .inr u4=>(
     some false
    )
   )
   | .inr u5=>(
    some false
   )
  )
  | .inr u6=>(
   some false
  )
 )
def zaw:Nat→(zc→zc→Option Bool)×(zb→zb→Option Bool)
  | 0=>(fun _ _=>none,fun _ _=>none)
  | fuel+1=>(fun av b=>zfc (zaw fuel).1 (zaw fuel).2 av b,fun av b=>zdn (zaw fuel).1 (zaw fuel).2 av b)
def zbl (fuel:Nat):zc→zc→Option Bool:=(zaw fuel).1
def zaO (fuel:Nat):zb→zb→Option Bool:=(zaw fuel).2
theorem zmU {av:zc} {b:zc} {rec_darningref14_SameValue:zb→zb→Option Bool} {i:Int} {i':Int} (h:zbj av b rec_darningref14_SameValue i=some (.inl i')):zdB av b rec_darningref14_SameValue i=zdB av b rec_darningref14_SameValue i':=zO (body:=fun s:Int=>zbj av b rec_darningref14_SameValue s) h
theorem zit {av:zc} {b:zc} {rec_darningref14_SameValue:zb→zb→Option Bool} {i:Int} {oo_:(Unit⊕Unit)} (h:zbj av b rec_darningref14_SameValue i=some (.inr oo_)):zdB av b rec_darningref14_SameValue i=some oo_:=zN (body:=fun s:Int=>zbj av b rec_darningref14_SameValue s) h
theorem zmV {av:zc} {b:zc} {i2:Int} {i2':Int} (h:zbk av b i2=some (.inl i2')):zdC av b i2=zdC av b i2':=zO (body:=fun s:Int=>zbk av b s) h
theorem ziu {av:zc} {b:zc} {i2:Int} {oo_:(Unit⊕Unit)} (h:zbk av b i2=some (.inr oo_)):zdC av b i2=some oo_:=zN (body:=fun s:Int=>zbk av b s) h
theorem zkw {av:zb} {b:zb} {i:Int} {i':Int} (h:zaA av b i=some (.inl i')):zcz av b i=zcz av b i':=zO (body:=fun s:Int=>zaA av b s) h
theorem zgO {av:zb} {b:zb} {i:Int} {oo_:(Unit⊕Unit)} (h:zaA av b i=some (.inr oo_)):zcz av b i=some oo_:=zN (body:=fun s:Int=>zaA av b s) h
theorem zkx {av:zb} {b:zb} {i2:Int} {i2':Int} (h:zaB av b i2=some (.inl i2')):zcA av b i2=zcA av b i2':=zO (body:=fun s:Int=>zaB av b s) h
theorem zgP {av:zb} {b:zb} {i2:Int} {oo_:(Unit⊕Unit)} (h:zaB av b i2=some (.inr oo_)):zcA av b i2=some oo_:=zN (body:=fun s:Int=>zaB av b s) h
theorem zky {av:zb} {b:zb} {rec_darningref14_Same:zc→zc→Option Bool} {i3:Int} {i3':Int} (h:zaC av b rec_darningref14_Same i3=some (.inl i3')):zcB av b rec_darningref14_Same i3=zcB av b rec_darningref14_Same i3':=zO (body:=fun s:Int=>zaC av b rec_darningref14_Same s) h
theorem zgQ {av:zb} {b:zb} {rec_darningref14_Same:zc→zc→Option Bool} {i3:Int} {oo_:(Unit⊕Unit)} (h:zaC av b rec_darningref14_Same i3=some (.inr oo_)):zcB av b rec_darningref14_Same i3=some oo_:=zN (body:=fun s:Int=>zaC av b rec_darningref14_Same s) h
def zbu (i:Int) (rec_darningref14_Depth:zc→Option Int) (x:zc) (d3:Int) (k:Int):Option ((Int×Int)⊕Int):=
 idx x.Values i>>=fun x2=>
 if (decide (k<(x2.Subs.length:Int))) then (
  idx x.Values i>>=fun x3=>
  idx x3.Subs k>>=fun x4=>
  rec_darningref14_Depth x4>>=fun rv=>
  some (.inl ((if d3<(IntKind.i64.wrap (1+rv)) then (IntKind.i64.wrap (1+rv)) else d3),(IntKind.i64.wrap (k+1))))
 ) else (
  some (.inr d3)
 )
def zdj (i:Int) (rec_darningref14_Depth:zc→Option Int) (x:zc) (d3:Int) (k:Int):Option Int:=zap (fun s:(Int×Int)=>zbu i rec_darningref14_Depth x s.1 s.2) (d3,k)
def zbt (rec_darningref14_Depth:zc→Option Int) (x:zc) (d:Int) (i:Int):Option ((Int×Int)⊕Int):=
 if (decide (i<(x.Values.length:Int))) then (
  zdj i rec_darningref14_Depth x d 0>>=fun q=>
  some (.inl (q,(IntKind.i64.wrap (i+1))))
 ) else (
  some (.inr d)
 )
def zdi (rec_darningref14_Depth:zc→Option Int) (x:zc) (d:Int) (i:Int):Option Int:=zap (fun s:(Int×Int)=>zbt rec_darningref14_Depth x s.1 s.2) (d,i)
def zeD (rec_darningref14_Depth:zc→Option Int) (x:zc):Option Int:=
 zdi rec_darningref14_Depth x 0 0>>=fun q2=>
 some q2
def zcg:Nat→zc→Option Int
  | 0,_=>none
  | fuel+1,x=>zeD (zcg fuel) x
theorem zml {i:Int} {rec_darningref14_Depth:zc→Option Int} {x:zc} {d3:Int} {k:Int} {d3':Int} {k':Int} (h:zbu i rec_darningref14_Depth x d3 k=some (.inl (d3',k'))):zdj i rec_darningref14_Depth x d3 k=zdj i rec_darningref14_Depth x d3' k':=zO (body:=fun s:(Int×Int)=>zbu i rec_darningref14_Depth x s.1 s.2) h
theorem zmm {i:Int} {rec_darningref14_Depth:zc→Option Int} {x:zc} {d3:Int} {k:Int} {oo_:Int} (h:zbu i rec_darningref14_Depth x d3 k=some (.inr oo_)):zdj i rec_darningref14_Depth x d3 k=some oo_:=zN (body:=fun s:(Int×Int)=>zbu i rec_darningref14_Depth x s.1 s.2) h
theorem zmj {rec_darningref14_Depth:zc→Option Int} {x:zc} {d:Int} {i:Int} {d':Int} {i':Int} (h:zbt rec_darningref14_Depth x d i=some (.inl (d',i'))):zdi rec_darningref14_Depth x d i=zdi rec_darningref14_Depth x d' i':=zO (body:=fun s:(Int×Int)=>zbt rec_darningref14_Depth x s.1 s.2) h
theorem zmk {rec_darningref14_Depth:zc→Option Int} {x:zc} {d:Int} {i:Int} {oo_:Int} (h:zbt rec_darningref14_Depth x d i=some (.inr oo_)):zdi rec_darningref14_Depth x d i=some oo_:=zN (body:=fun s:(Int×Int)=>zbt rec_darningref14_Depth x s.1 s.2) h
def zri (x:zc):Option (zb×Bool):=
 if ((x.Values.length:Int)==0) then (
  some ((⟨0,[],[],[]⟩:zb),false)
 ) else (
  idx x.Values 0>>=fun x2=>
  some (x2,true)
 )
def zeK (fuel:Nat) (number:Int) (x:zc) (v:Int):Option (Int⊕(Unit⊕(Bool×Int×(List Int)×(List Str)×(List zc)))):=
 if (decide (v<(x.Values.length:Int))) then (
  idx x.Values v>>=fun x2=>
  if (x2.Number==number) then (
   ziW fuel (⟨([x2]:(List zb)),[]⟩:zc)>>=fun rv=>
   zri rv>>=fun rv2=>
   some (.inr (.inr (rv2.2,rv2.1.Number,rv2.1.Words,rv2.1.Texts,rv2.1.Subs)))
  ) else (
   some (.inl (IntKind.i64.wrap (v+1)))
  )
 ) else (
  some (.inr (.inl ()))
 )
def ziX (fuel:Nat) (number:Int) (x:zc) (v:Int):Option (Unit⊕(Bool×Int×(List Int)×(List Str)×(List zc))):=zap (fun s:Int=>zeK fuel number x s) v
def zpJ (fuel:Nat) (x:zc) (number:Int):Option (zb×Bool):=
 ziX fuel number x 0>>=fun q=>
 match q with
 | .inl u=>(
  some ((⟨0,[],[],[]⟩:zb),false)
 )
 | .inr u2=>(
  some ((⟨u2.2.1,u2.2.2.1,u2.2.2.2.1,u2.2.2.2.2⟩:zb),u2.1)
 )
theorem ztS {fuel:Nat} {number:Int} {x:zc} {v:Int} {v':Int} (h:zeK fuel number x v=some (.inl v')):ziX fuel number x v=ziX fuel number x v':=zO (body:=fun s:Int=>zeK fuel number x s) h
theorem zoB {fuel:Nat} {number:Int} {x:zc} {v:Int} {oo_:(Unit⊕(Bool×Int×(List Int)×(List Str)×(List zc)))} (h:zeK fuel number x v=some (.inr oo_)):ziX fuel number x v=some oo_:=zN (body:=fun s:Int=>zeK fuel number x s) h
def zbx (number:Int) (x:zc) (i:Int):Option (Int⊕(Unit⊕Int)):=
 if (decide (i<(x.Values.length:Int))) then (
  idx x.Values i>>=fun x2=>
  if (x2.Number==number) then (
   some (.inr (.inr i))
  ) else (
   some (.inl (IntKind.i64.wrap (i+1)))
  )
 ) else (
  some (.inr (.inl ()))
 )
def zef (number:Int) (x:zc) (i:Int):Option (Unit⊕Int):=zap (fun s:Int=>zbx number x s) i
def zgy (x:zc) (number:Int):Option Int:=
 zef number x 0>>=fun q=>
 match q with
 | .inl u=>(
  some (-1)
 )
 | .inr u2=>(
  some u2
 )
theorem znp {number:Int} {x:zc} {i:Int} {i':Int} (h:zbx number x i=some (.inl i')):zef number x i=zef number x i':=zO (body:=fun s:Int=>zbx number x s) h
theorem ziR {number:Int} {x:zc} {i:Int} {oo_:(Unit⊕Int)} (h:zbx number x i=some (.inr oo_)):zef number x i=some oo_:=zN (body:=fun s:Int=>zbx number x s) h
def zdV (fuel:Nat) (sv:(List zh)) (root:Int) (x:zc) (y:zc) (number:Int):Option Bool:=
 zfu fuel>>=fun rv=>
 if (!rv) then (
  some false
 ) else (
  (
   zgv sv>>=fun rv2=>
   if (!rv2) then (
    some true
   ) else (
    zbL fuel x 70>>=fun rv3=>
    if (decide (rv3>3000)) then (
     some true
    ) else (
     zbL fuel y 70>>=fun rv4=>
     some (decide (rv4>3000))
    )
   )
  )>>=fun g=>
  if g then (
   some true
  ) else (
   zcm fuel x>>=fun rv5=>
   zcm fuel y>>=fun rv6=>
   (
    zfB sv>>=fun rv7=>
    if rv7 then (
     zch fuel sv root rv5>>=fun rv8=>
     some rv8
    ) else (
     some false
    )
   )>>=fun g2=>
   zpJ fuel x number>>=fun rv9=>
   zgy rv5 number>>=fun rv10=>
   ((
    if (decide (rv10≥0)) then (
     idx rv5.Values rv10>>=fun x2=>
     some (x2.Number,x2.Words,x2.Texts,x2.Subs)
    ) else (
     some (0,[],[],[])
    )
    :Option (Int×(List Int)×(List Str)×(List zc))))>>=fun p=>
   (
    zkc fuel sv root x>>=fun rv11=>
    if (rv11==g2) then (
     zlt fuel x y>>=fun rv12=>
     zbl fuel rv5 rv6>>=fun rv13=>
     if (rv12==rv13) then (
      if (rv9.2==(decide (rv10≥0))) then (
       zbD fuel rv9.1>>=fun rv14=>
       zaO fuel rv14 (⟨p.1,p.2.1,p.2.2.1,p.2.2.2⟩:zb)>>=fun rv15=>
       if rv15 then (
        ziN fuel x>>=fun rv16=>
        zcg fuel rv5>>=fun rv17=>
        if (rv16==rv17) then (
         ziW fuel x>>=fun rv18=>
         zcm fuel rv18>>=fun rv19=>
         zbl fuel rv19 rv5>>=fun rv20=>
         some rv20
        ) else (
         some false
        )
       ) else (
        some false
       )
      ) else (
       some false
      )
     ) else (
      some false
     )
    ) else (
     some false
    )
   )>>=fun g3=>
   some g3
  )
 )
end
end Go.Proofs.YtcbkcblkecmjnaaGreat
