/-
  What the Go functions do, as plain functions. No condition.
-/
import Derived.Test.YtkgohoggipdokaaGreatx3K2
set_option autoImplicit true
set_option relaxedAutoImplicit true
namespace Go.Proofs.YtkgohoggipdokaaGreat
open Go.IntKind (i32 i64 u32 u64 u8)
open Go
set_option linter.unusedVariables false
abbrev Str:=List UInt8
structure zOf where
  a0:Str
  a1:Str
  a2:Str
  a3:Str
  a4:Str
  a5:Str
  a6:Str
  a7:Str
  a8:Str
  a9:Str
  a10:Str
  a11:Str
  a12:Str
  a13:Str
  a14:Str deriving DecidableEq
structure zu where
  Number:Int
  Wire:Int
  From:Int
  At:Int
  To:Int deriving DecidableEq
def zbc:Rp zu:=⟨5,true,fun x=>[.int .i64 x.Number,.int .i64 x.Wire,.int .i64 x.From,.int .i64 x.At,.int .i64 x.To],fun _=>rfl,by decide⟩
structure zh where
  Record:zu
  Field:Int
  Run:Bool deriving DecidableEq
def zi:Rp zh:=⟨7,true,fun x=>[.int .i64 x.Record.Number,.int .i64 x.Record.Wire,.int .i64 x.Record.From,.int .i64 x.Record.At,.int .i64 x.Record.To,.int .i64 x.Field,.bool x.Run],fun _=>rfl,by decide⟩
structure zv where
  name:Str
  wire:Int deriving DecidableEq
def zaY:Rp zv:=⟨2,true,fun x=>[.str x.name,.int .i64 x.wire],fun _=>rfl,by decide⟩
mutual
structure zb where
  Values:(List za)
  Unknown:(List Str)
structure za where
  Number:Int
  Words:(List Int)
  Texts:(List Str)
  Subs:(List zb)
end
mutual
def zhy:zb->List LV | ⟨x0,x1⟩=>[.sl x0.length 4 (zdC x0),.sl x1.length Rp.str.size (x1.flatMap Rp.str.lv)]
def zgQ:List zb->List LV | []=>[] | x::l=>zhy x++zgQ l
def zdN:za->List LV | ⟨x0,x1,x2,x3⟩=>[.int .i64 x0,.sl x1.length (Rp.int .u64).size (x1.flatMap (Rp.int .u64).lv),.sl x2.length Rp.str.size (x2.flatMap Rp.str.lv),.sl x3.length 2 (zgQ x3)]
def zdC:List za->List LV | []=>[] | x::l=>zdN x++zdC l
end
theorem zsc (l:List zb):zgQ l=l.flatMap zhy:=by
  induction l with
  | nil=>rfl
  | cons x l ih=>rw [zgQ,ih,xW]
def zg:Rp zb:=⟨2,true,zhy,fun x=>by cases x;rfl,by decide⟩
theorem zlE (l:List za):zdC l=l.flatMap zdN:=by
  induction l with
  | nil=>rfl
  | cons x l ih=>rw [zdC,ih,xW]
def zd:Rp za:=⟨4,true,zdN,fun x=>by cases x;rfl,by decide⟩
theorem zaq (x:zb):zg.lv x=[.sl x.Values.length zd.size (x.Values.flatMap zd.lv),.sl x.Unknown.length Rp.str.size (x.Unknown.flatMap Rp.str.lv)]:=by
  cases x;simp only [zg,zhy,zlE,zd]<;>rfl
theorem zG (x:za):zd.lv x=[.int .i64 x.Number,.sl x.Words.length (Rp.int .u64).size (x.Words.flatMap (Rp.int .u64).lv),.sl x.Texts.length Rp.str.size (x.Texts.flatMap Rp.str.lv),.sl x.Subs.length zg.size (x.Subs.flatMap zg.lv)]:=by
  cases x;simp only [zd,zdN,zsc,zg]<;>rfl
structure zc where
  Name:Str
  Number:Int
  Kind:Int
  Repeated:Bool
  Packed:Bool
  Of:Int deriving DecidableEq
def zf:Rp zc:=⟨6,true,fun x=>[.str x.Name,.int .i64 x.Number,.int .i64 x.Kind,.bool x.Repeated,.bool x.Packed,.int .i64 x.Of],fun _=>rfl,by decide⟩
structure ze where
  Name:Str
  Fields:(List zc) deriving DecidableEq
def zj:Rp ze:=⟨2,true,fun x=>[.str x.Name,.sl x.Fields.length zf.size (x.Fields.flatMap zf.lv)],fun _=>rfl,by decide⟩
structure zaA where
  Number:Int
  Wire:Int deriving DecidableEq
def zcD:Rp zaA:=⟨2,true,fun x=>[.int .i64 x.Number,.int .i64 x.Wire],fun _=>rfl,by decide⟩
structure zw where
  message:Int
  name:Str deriving DecidableEq
def zU:Rp zw:=⟨2,true,fun x=>[.int .i64 x.message,.str x.name],fun _=>rfl,by decide⟩
structure zx where
  message:Int
  number:Int deriving DecidableEq
def zV:Rp zx:=⟨2,true,fun x=>[.int .i64 x.message,.int .i64 x.number],fun _=>rfl,by decide⟩
structure zbf where
  size:Int
  kinds:(List Int)
  names:(List (zw×Bool))
  numbers:(List (zx×Bool))
structure zbe where
  Message:Int
  Field:Int
  What:Int deriving DecidableEq
def zeC:Rp zbe:=⟨3,true,fun x=>[.int .i64 x.Message,.int .i64 x.Field,.int .i64 x.What],fun _=>rfl,by decide⟩
structure zab where
  number:Int
  wire:Int deriving DecidableEq
def zau:Rp zab:=⟨2,true,fun x=>[.int .i64 x.number,.int .i64 x.wire],fun _=>rfl,by decide⟩
structure zaf where
  field:Int
  run:Bool
  e:Int deriving DecidableEq
def zaz:Rp zaf:=⟨3,true,fun x=>[.int .i64 x.field,.bool x.run,.int .u8 x.e],fun _=>rfl,by decide⟩
structure zyF where
  R:zu
  Field:Int
  Run:Bool deriving DecidableEq
structure zm where
  message:Int
  number:Int
  wire:Int deriving DecidableEq
def zn:Rp zm:=⟨3,true,fun x=>[.int .i64 x.message,.int .i64 x.number,.int .i64 x.wire],fun _=>rfl,by decide⟩
structure zaJ where
  s:(List ze)
  b:(List UInt8)
  met:(List (zm×zh))
structure zE where
  depth:Int
  place:Int
  e:Int deriving DecidableEq
def zaT:Rp zE:=⟨3,true,fun x=>[.int .i64 x.depth,.int .i64 x.place,.int .u8 x.e],fun _=>rfl,by decide⟩
structure zMu where
  a0:Int
  a1:Int deriving DecidableEq
structure zk where
  pieces:(List (List UInt8))
  size:Int deriving DecidableEq
def zir:Rp zk:=⟨2,true,fun x=>[.sl x.pieces.length (Rp.list Rp.byte).size (x.pieces.flatMap (Rp.list Rp.byte).lv),.int .i64 x.size],fun _=>rfl,by decide⟩
noncomputable section
def zbN (sv:List zb):Option (List zb):=nilO sv (some []) (app 48 ([]:List zb) sv>>=fun v=>some v)
def zbn (sv:List za):Option (List za):=nilO sv (some []) (app 80 ([]:List za) sv>>=fun v=>some v)
def zbW (n:Int):Option (List zb):=if (decide (n<0)) then none else if (decide ((i64.wrap (n - (i64.wrap (0 - 0))))>0)) then (mkO 48 ((⟨[],[]⟩:zb):zb) (i64.wrap (n - (i64.wrap (0 - 0)))) (i64.wrap (n - (i64.wrap (0 - 0))))>>=fun v=>cut v 0 0>>=fun v2=>some v2) else some []
def zR (wB:List (List zb)) (size:Int) (v:Int):Option ((Int×Int)⊕Int):=if (decide (v<(wB.length:Int))) then (idx wB v>>=fun x=>if (decide ((i64.wrap (size+(x.length:Int)))<0)) then none else some (.inl ((i64.wrap (size+(x.length:Int))),(i64.wrap (v+1))))) else some (.inr size)
def zbo (wB:List (List zb)) (size:Int) (v:Int):Option Int:=zaB (fun s:(Int×Int)=>zR wB s.1 s.2) (size,v)
def zai (wB:List (List zb)) (wQ:List zb) (v2:Int):Option (((List zb)×Int)⊕(List zb)):=if (decide (v2<(wB.length:Int))) then (idx wB v2>>=fun x2=>app 48 wQ x2>>=fun v3=>some (.inl (v3,(i64.wrap (v2+1))))) else some (.inr wQ)
def zbp (wB:List (List zb)) (wQ:List zb) (v2:Int):Option (List zb):=zaB (fun s:((List zb)×Int)=>zai wB s.1 s.2) (wQ,v2)
def zbC (wB:List (List zb)):Option (List zb):=zbo wB 0 0>>=fun q=>zbW q>>=fun rv=>zbp wB rv 0>>=fun q2=>some q2
theorem zea (h:zR wB size v=some (.inl (size',v'))):zbo wB size v=zbo wB size' v':=zW (body:=fun s:(Int×Int)=>zR wB s.1 s.2) h
theorem zhf (h:zR wB size v=some (.inr wC)):zbo wB size v=some wC:=zX (body:=fun s:(Int×Int)=>zR wB s.1 s.2) h
theorem zeb (h:zai wB wQ v2=some (.inl (wY,v2'))):zbp wB wQ v2=zbp wB wY v2':=zW (body:=fun s:((List zb)×Int)=>zai wB s.1 s.2) h
theorem zhg (h:zai wB wQ v2=some (.inr wC)):zbp wB wQ v2=some wC:=zX (body:=fun s:((List zb)×Int)=>zai wB s.1 s.2) h
def zdj (n:Int):Option (List UInt8):=if (decide (n<0)) then none else if (decide ((i64.wrap (n - (i64.wrap (0 - 0))))>0)) then (mkO 1 (0:UInt8) (i64.wrap (n - (i64.wrap (0 - 0)))) (i64.wrap (n - (i64.wrap (0 - 0))))>>=fun v=>cut v 0 0>>=fun v2=>some v2) else some []
def zaH (wB:List (List UInt8)) (size:Int) (v:Int):Option ((Int×Int)⊕Int):=if (decide (v<(wB.length:Int))) then (idx wB v>>=fun x=>if (decide ((i64.wrap (size+(x.length:Int)))<0)) then none else some (.inl ((i64.wrap (size+(x.length:Int))),(i64.wrap (v+1))))) else some (.inr size)
def zbI (wB:List (List UInt8)) (size:Int) (v:Int):Option Int:=zaB (fun s:(Int×Int)=>zaH wB s.1 s.2) (size,v)
def zaI (wB:List (List UInt8)) (wQ:List UInt8) (v2:Int):Option (((List UInt8)×Int)⊕(List UInt8)):=if (decide (v2<(wB.length:Int))) then (idx wB v2>>=fun x2=>app 1 wQ x2>>=fun v3=>some (.inl (v3,(i64.wrap (v2+1))))) else some (.inr wQ)
def zbJ (wB:List (List UInt8)) (wQ:List UInt8) (v2:Int):Option (List UInt8):=zaB (fun s:((List UInt8)×Int)=>zaI wB s.1 s.2) (wQ,v2)
def zaK (wB:List (List UInt8)):Option (List UInt8):=zbI wB 0 0>>=fun q=>zdj q>>=fun rv=>zbJ wB rv 0>>=fun q2=>some q2
theorem zjn (h:zaH wB size v=some (.inl (size',v'))):zbI wB size v=zbI wB size' v':=zW (body:=fun s:(Int×Int)=>zaH wB s.1 s.2) h
theorem zjo (h:zaH wB size v=some (.inr wC)):zbI wB size v=some wC:=zX (body:=fun s:(Int×Int)=>zaH wB s.1 s.2) h
theorem zjp (h:zaI wB wQ v2=some (.inl (wY,v2'))):zbJ wB wQ v2=zbJ wB wY v2':=zW (body:=fun s:((List UInt8)×Int)=>zaI wB s.1 s.2) h
theorem zjq (h:zaI wB wQ v2=some (.inr wC)):zbJ wB wQ v2=some wC:=zX (body:=fun s:((List UInt8)×Int)=>zaI wB s.1 s.2) h
def zaW (sv:List Int) (v:Int) (v2:Int):Option (Int⊕(Unit⊕Int)):=if (decide (v2<(sv.length:Int))) then (idx sv v2>>=fun x=>if (v==x) then some (.inr (.inr v2)) else some (.inl (i64.wrap (v2+1)))) else some (.inr (.inl ()))
def zcj (sv:List Int) (v:Int) (v2:Int):Option (Unit⊕Int):=zaB (fun s:Int=>zaW sv v s) v2
def zdz (sv:List Int) (v:Int):Option Int:=zcj sv v 0>>=fun q=>match q with | .inl u=>(some (-1)) | .inr u2=>(some u2)
theorem zku (h:zaW sv v v2=some (.inl v2')):zcj sv v v2=zcj sv v v2':=zW (body:=fun s:Int=>zaW sv v s) h
theorem zgA (h:zaW sv v v2=some (.inr wC)):zcj sv v v2=some wC:=zX (body:=fun s:Int=>zaW sv v s) h
def zcO (sv:List Int) (v:Int):Option Bool:=zdz sv v>>=fun rv=>some (decide (rv>=0))
def zbH (sv:List Str):Option (List Str):=nilO sv (some []) (app 16 ([]:List Str) sv>>=fun v=>some v)
def zco (sv:List Int):Option (List Int):=nilO sv (some []) (app 8 ([]:List Int) sv>>=fun v=>some v)
def zay (s1:List Int) (s2:List Int) (v:Int):Option (Int⊕(Unit⊕Unit)):=if (decide (v<(s1.length:Int))) then (idx s1 v>>=fun x=>idx s2 v>>=fun x2=>if (x !=x2) then some (.inr (.inr ())) else some (.inl (i64.wrap (v+1)))) else some (.inr (.inl ()))
def zbr (s1:List Int) (s2:List Int) (v:Int):Option (Unit⊕Unit):=zaB (fun s:Int=>zay s1 s2 s) v
def zcq (s1:List Int) (s2:List Int):Option Bool:=if ((s1.length:Int) !=(s2.length:Int)) then some false else (zbr s1 s2 0>>=fun q=>match q with | .inl u=>(some true) | .inr u2=>(some false))
theorem zio (h:zay s1 s2 v=some (.inl v')):zbr s1 s2 v=zbr s1 s2 v':=zW (body:=fun s:Int=>zay s1 s2 s) h
theorem zfb (h:zay s1 s2 v=some (.inr wC)):zbr s1 s2 v=some wC:=zX (body:=fun s:Int=>zay s1 s2 s) h
def zax (s1:List Str) (s2:List Str) (v:Int):Option (Int⊕(Unit⊕Unit)):=if (decide (v<(s1.length:Int))) then (idx s1 v>>=fun x=>idx s2 v>>=fun x2=>if (!(x==x2)) then some (.inr (.inr ())) else some (.inl (i64.wrap (v+1)))) else some (.inr (.inl ()))
def zbq (s1:List Str) (s2:List Str) (v:Int):Option (Unit⊕Unit):=zaB (fun s:Int=>zax s1 s2 s) v
def zbK (s1:List Str) (s2:List Str):Option Bool:=if ((s1.length:Int) !=(s2.length:Int)) then some false else (zbq s1 s2 0>>=fun q=>match q with | .inl u=>(some true) | .inr u2=>(some false))
theorem zin (h:zax s1 s2 v=some (.inl v')):zbq s1 s2 v=zbq s1 s2 v':=zW (body:=fun s:Int=>zax s1 s2 s) h
theorem zfa (h:zax s1 s2 v=some (.inr wC)):zbq s1 s2 v=some wC:=zX (body:=fun s:Int=>zax s1 s2 s) h
def zcz (n:Int):Option (List Int):=if (decide (n<0)) then none else if (decide ((i64.wrap (n - (i64.wrap (0 - 0))))>0)) then (mkO 8 (0:Int) (i64.wrap (n - (i64.wrap (0 - 0)))) (i64.wrap (n - (i64.wrap (0 - 0))))>>=fun v=>cut v 0 0>>=fun v2=>some v2) else some []
def zaa (wB:List (List Int)) (size:Int) (v:Int):Option ((Int×Int)⊕Int):=if (decide (v<(wB.length:Int))) then (idx wB v>>=fun x=>if (decide ((i64.wrap (size+(x.length:Int)))<0)) then none else some (.inl ((i64.wrap (size+(x.length:Int))),(i64.wrap (v+1))))) else some (.inr size)
def zbQ (wB:List (List Int)) (size:Int) (v:Int):Option Int:=zaB (fun s:(Int×Int)=>zaa wB s.1 s.2) (size,v)
def zap (wB:List (List Int)) (wQ:List Int) (v2:Int):Option (((List Int)×Int)⊕(List Int)):=if (decide (v2<(wB.length:Int))) then (idx wB v2>>=fun x2=>app 8 wQ x2>>=fun v3=>some (.inl (v3,(i64.wrap (v2+1))))) else some (.inr wQ)
def zbR (wB:List (List Int)) (wQ:List Int) (v2:Int):Option (List Int):=zaB (fun s:((List Int)×Int)=>zap wB s.1 s.2) (wQ,v2)
def zci (wB:List (List Int)):Option (List Int):=zbQ wB 0 0>>=fun q=>zcz q>>=fun rv=>zbR wB rv 0>>=fun q2=>some q2
theorem zeQ (h:zaa wB size v=some (.inl (size',v'))):zbQ wB size v=zbQ wB size' v':=zW (body:=fun s:(Int×Int)=>zaa wB s.1 s.2) h
theorem zia (h:zaa wB size v=some (.inr wC)):zbQ wB size v=some wC:=zX (body:=fun s:(Int×Int)=>zaa wB s.1 s.2) h
theorem zeR (h:zap wB wQ v2=some (.inl (wY,v2'))):zbR wB wQ v2=zbR wB wY v2':=zW (body:=fun s:((List Int)×Int)=>zap wB s.1 s.2) h
theorem zib (h:zap wB wQ v2=some (.inr wC)):zbR wB wQ v2=some wC:=zX (body:=fun s:((List Int)×Int)=>zap wB s.1 s.2) h
def zcy (n:Int):Option (List Str):=if (decide (n<0)) then none else if (decide ((i64.wrap (n - (i64.wrap (0 - 0))))>0)) then (mkO 16 ([]:Str) (i64.wrap (n - (i64.wrap (0 - 0)))) (i64.wrap (n - (i64.wrap (0 - 0))))>>=fun v=>cut v 0 0>>=fun v2=>some v2) else some []
def zZ (wB:List (List Str)) (size:Int) (v:Int):Option ((Int×Int)⊕Int):=if (decide (v<(wB.length:Int))) then (idx wB v>>=fun x=>if (decide ((i64.wrap (size+(x.length:Int)))<0)) then none else some (.inl ((i64.wrap (size+(x.length:Int))),(i64.wrap (v+1))))) else some (.inr size)
def zbO (wB:List (List Str)) (size:Int) (v:Int):Option Int:=zaB (fun s:(Int×Int)=>zZ wB s.1 s.2) (size,v)
def zao (wB:List (List Str)) (wQ:List Str) (v2:Int):Option (((List Str)×Int)⊕(List Str)):=if (decide (v2<(wB.length:Int))) then (idx wB v2>>=fun x2=>app 16 wQ x2>>=fun v3=>some (.inl (v3,(i64.wrap (v2+1))))) else some (.inr wQ)
def zbP (wB:List (List Str)) (wQ:List Str) (v2:Int):Option (List Str):=zaB (fun s:((List Str)×Int)=>zao wB s.1 s.2) (wQ,v2)
def zby (wB:List (List Str)):Option (List Str):=zbO wB 0 0>>=fun q=>zcy q>>=fun rv=>zbP wB rv 0>>=fun q2=>some q2
theorem zeO (h:zZ wB size v=some (.inl (size',v'))):zbO wB size v=zbO wB size' v':=zW (body:=fun s:(Int×Int)=>zZ wB s.1 s.2) h
theorem zhX (h:zZ wB size v=some (.inr wC)):zbO wB size v=some wC:=zX (body:=fun s:(Int×Int)=>zZ wB s.1 s.2) h
theorem zeP (h:zao wB wQ v2=some (.inl (wY,v2'))):zbP wB wQ v2=zbP wB wY v2':=zW (body:=fun s:((List Str)×Int)=>zao wB s.1 s.2) h
theorem zhY (h:zao wB wQ v2=some (.inr wC)):zbP wB wQ v2=some wC:=zX (body:=fun s:((List Str)×Int)=>zao wB s.1 s.2) h
def zfQ (wv2:Int) (n:Int):Option ((Int×Int)⊕Int):=if (wv2 !=0) then some (.inl ((shrI .u64 wv2 7),(i64.wrap (n+1)))) else some (.inr n)
def ziT (wv2:Int) (n:Int):Option Int:=zaB (fun s:(Int×Int)=>zfQ s.1 s.2) (wv2,n)
def znF (wv:Int):Option Int:=ziT (shrI .u64 wv 7) 1>>=fun q=>some q
theorem zvE (h:zfQ wv2 n=some (.inl (wv2',n'))):ziT wv2 n=ziT wv2' n':=zW (body:=fun s:(Int×Int)=>zfQ s.1 s.2) h
theorem zvF (h:zfQ wv2 n=some (.inr wC)):ziT wv2 n=some wC:=zX (body:=fun s:(Int×Int)=>zfQ s.1 s.2) h
def zdg (v:List UInt8) (wv:Int) (b:List UInt8) (v2:Int):Option (((List UInt8)×Int)⊕(List UInt8)):=if (decide (v2<(v.length:Int))) then (shrO .u64 wv (i64.wrap (8*v2))>>=fun v3=>idx b v2>>=fun x=>zrC (u8.wrap v3)>>=fun y2=>some (.inl ((b.set (Int.toNat v2) y2),(i64.wrap (v2+1))))) else some (.inr b)
def zgu (v:List UInt8) (wv:Int) (b:List UInt8) (v2:Int):Option (List UInt8):=zaB (fun s:((List UInt8)×Int)=>zdg v wv s.1 s.2) (b,v2)
def zkI (wv:Int) (n:Int):Option (List UInt8):=mkO 1 (0:UInt8) (if (8:Int)<(if n<0 then 0 else n) then 8 else if n<0 then 0 else n) (if (8:Int)<(if n<0 then 0 else n) then 8 else if n<0 then 0 else n)>>=fun v=>zgu v wv v 0>>=fun q=>some q
theorem zrU {v:List UInt8} {wv:Int} {b:List UInt8} {v2:Int} {b':List UInt8} {v2':Int} (h:zdg v wv b v2=some (.inl (b',v2'))):zgu v wv b v2=zgu v wv b' v2':=zW (body:=fun s:((List UInt8)×Int)=>zdg v wv s.1 s.2) h
theorem zrV {v:List UInt8} {wv:Int} {b:List UInt8} {v2:Int} {wC:List UInt8} (h:zdg v wv b v2=some (.inr wC)):zgu v wv b v2=some wC:=zX (body:=fun s:((List UInt8)×Int)=>zdg v wv s.1 s.2) h
def zkb (wv:Int):Option Int:=some (u32.wrap wv)
def zkJ (wv:Int):Option Int:=zkb wv>>=fun rv=>some (i32.wrap rv)
def zkK (n:Int):Option Int:=some (u64.wrap (i64.wrap n))
def zfc (v:List UInt8) (wv:Int) (v2:Int):Option ((Int×Int)⊕Int):=if (decide (v2<(v.length:Int))) then (idx v v2>>=fun x=>shlO .u64 (u64.wrap (x.toNat:Int)) (i64.wrap (8*v2))>>=fun v3=>some (.inl ((orI .u64 wv v3),(i64.wrap (v2+1))))) else some (.inr wv)
def zhT (v:List UInt8) (wv:Int) (v2:Int):Option Int:=zaB (fun s:(Int×Int)=>zfc v s.1 s.2) (wv,v2)
def znG (b:List UInt8):Option Int:=cut b 0 (if (8:Int)<(b.length:Int) then 8 else (b.length:Int))>>=fun v=>zhT v 0 0>>=fun q=>some q
theorem ztX (h:zfc v wv v2=some (.inl (wv',v2'))):zhT v wv v2=zhT v wv' v2':=zW (body:=fun s:(Int×Int)=>zfc v s.1 s.2) h
theorem ztY (h:zfc v wv v2=some (.inr wC)):zhT v wv v2=some wC:=zX (body:=fun s:(Int×Int)=>zfc v s.1 s.2) h
def zhx (av:List UInt8) (b:List UInt8):Option Bool:=some (av==b)
def zdl (v:List UInt8) (wv:Int) (v2:Int):Option ((Int×Int)⊕(Unit⊕(Int×Int×Int))):=if (decide (v2<(v.length:Int))) then (idx v v2>>=fun x=>if ((v2==9)&&(decide ((x.toNat:Int)>1))) then some (.inr (.inr (0,0,4))) else shlO .u64 (u64.wrap (andI .u8 (x.toNat:Int) 127)) (i64.wrap (7*v2))>>=fun v4=>if (decide ((x.toNat:Int)<128)) then some (.inr (.inr ((orI .u64 wv v4),(i64.wrap (v2+1)),0))) else some (.inl ((orI .u64 wv v4),(i64.wrap (v2+1))))) else some (.inr (.inl ()))
def zgG (v:List UInt8) (wv:Int) (v2:Int):Option (Unit⊕(Int×Int×Int)):=zaB (fun s:(Int×Int)=>zdl v s.1 s.2) (wv,v2)
def zgK (b:List UInt8):Option (Int×Int×Int):=cut b 0 (if (10:Int)<(b.length:Int) then 10 else (b.length:Int))>>=fun v=>zgG v 0 0>>=fun q=>match q with | .inl u=>(some (0,0,3)) | .inr u2=>(some (u2.1,u2.2.1,u2.2.2))
theorem zsv (h:zdl v wv v2=some (.inl (wv',v2'))):zgG v wv v2=zgG v wv' v2':=zW (body:=fun s:(Int×Int)=>zdl v s.1 s.2) h
theorem ziP (h:zdl v wv v2=some (.inr wC)):zgG v wv v2=some wC:=zX (body:=fun s:(Int×Int)=>zdl v s.1 s.2) h
def zeA (wv2:Int) (l:List UInt8):Option ((Int×(List UInt8))⊕(Int×(List UInt8))):=if (decide (wv2>=128)) then (zrC (orI .u8 (u8.wrap wv2) 128)>>=fun y=>app 1 l ([y]:List UInt8)>>=fun v3=>some (.inl ((shrI .u64 wv2 7),v3))) else some (.inr (wv2,l))
def ziD (wv2:Int) (l:List UInt8):Option (Int×(List UInt8)):=zaB (fun s:(Int×(List UInt8))=>zeA s.1 s.2) (wv2,l)
def ziO (b:List UInt8) (wv:Int):Option (List UInt8):=znF wv>>=fun rv=>mkO 1 (0:UInt8) 0 (i64.wrap ((b.length:Int)+rv))>>=fun v=>app 1 v b>>=fun v2=>ziD wv v2>>=fun q=>zrC (u8.wrap q.1)>>=fun y2=>app 1 q.2 ([y2]:List UInt8)>>=fun v4=>some v4
theorem ztK {wv2:Int} {l:List UInt8} {wv2':Int} {l':List UInt8} (h:zeA wv2 l=some (.inl (wv2',l'))):ziD wv2 l=ziD wv2' l':=zW (body:=fun s:(Int×(List UInt8))=>zeA s.1 s.2) h
theorem ztL {wv2:Int} {l:List UInt8} {wC:(Int×(List UInt8))} (h:zeA wv2 l=some (.inr wC)):ziD wv2 l=some wC:=zX (body:=fun s:(Int×(List UInt8))=>zeA s.1 s.2) h
def zjk (b:List UInt8):Option (Int×Int):=zgK b>>=fun rv=>some (rv.2.1,rv.2.2)
def ziz (wire:Int):Option Bool:=if (wire==0) then if (wire==0) then some true else (some false) else if (wire==1) then if (wire==1) then some true else (some false) else if (wire==2) then if (wire==2) then some true else (some false) else if (wire==5) then some true else some false
def zlS (t:zaA):Option Bool:=(if (decide (t.Number>=1)) then (if (decide (t.Number<=536870911)) then (ziz t.Wire>>=fun rv=>some rv) else some false) else some false)>>=fun g=>some g
def zqw (b:List UInt8):Option (zaA×Int×Int):=zgK b>>=fun rv=>if (rv.2.2 !=0) then some ((⟨0,0⟩:zaA),0,rv.2.2) else (zlS (⟨(i64.wrap (if (536870912:Int)<(shrI .u64 rv.1 3) then 536870912 else shrI .u64 rv.1 3)),(i64.wrap (andI .u64 rv.1 7))⟩:zaA)>>=fun wu=>if (!wu) then some ((⟨0,0⟩:zaA),0,5) else (some ((⟨(i64.wrap (if (536870912:Int)<(shrI .u64 rv.1 3) then 536870912 else shrI .u64 rv.1 3)),(i64.wrap (andI .u64 rv.1 7))⟩:zaA),rv.2.1,0)))
def zqx (t:zaA):Option Int:=some (orI .u64 (shlI .u64 (u64.wrap t.Number) 3) (u64.wrap t.Wire))
def zoZ (b:List UInt8) (t:zaA):Option ((List UInt8)×Int):=zlS t>>=fun rv=>if (!rv) then some ([],2) else zqx t>>=fun wu=>ziO b wu>>=fun wy=>some (wy,0)
def ztJ (c:Int):Option (Int×Int):=if ((shrI .u8 c 7)==0) then some (1,(u32.wrap c)) else if ((shrI .u8 c 5)==6) then some (2,(u32.wrap (andI .u8 c 31))) else if ((shrI .u8 c 4)==14) then some (3,(u32.wrap (andI .u8 c 15))) else if ((shrI .u8 c 3)==30) then some (4,(u32.wrap (andI .u8 c 7))) else some (0,0)
def zop (wv:Int):Option Int:=if ((shrI .u32 wv 7)==0) then some 1 else if ((shrI .u32 wv 11)==0) then some 2 else if ((shrI .u32 wv 11)==27) then some 0 else if ((shrI .u32 wv 16)==0) then some 3 else if (decide (wv<=1114111)) then some 4 else some 0
def zfn (v2:List UInt8) (wv:Int) (v3:Int):Option ((Int×Int)⊕(Int⊕Unit)):=if (decide (v3<(v2.length:Int))) then (idx v2 v3>>=fun x2=>if ((shrI .u8 (x2.toNat:Int) 6) !=2) then some (.inr (.inr ())) else some (.inl ((orI .u32 (shlI .u32 wv 6) (u32.wrap (andI .u8 (x2.toNat:Int) 63))),(i64.wrap (v3+1))))) else some (.inr (.inl wv))
def zda (v2:List UInt8) (wv:Int) (v3:Int):Option (Int⊕Unit):=zaB (fun s:(Int×Int)=>zfn v2 s.1 s.2) (wv,v3)
def zoo (b:List UInt8):Option Int:=if ((b.length:Int)==0) then some 0 else (idx b 0>>=fun x=>ztJ (x.toNat:Int)>>=fun rv=>if ((rv.1==0)|| (decide (rv.1>(b.length:Int)))) then some 0 else (cut b 1 rv.1>>=fun v2=>zda v2 rv.2 0>>=fun q=>match q with | .inl u=>(zop u>>=fun wu=>if (rv.1 !=wu) then some 0 else some rv.1) | .inr u2=>(some 0)))
theorem zvO (h:zfn v2 wv v3=some (.inl (wv',v3'))):zda v2 wv v3=zda v2 wv' v3':=zW (body:=fun s:(Int×Int)=>zfn v2 s.1 s.2) h
theorem zpl (h:zfn v2 wv v3=some (.inr wC)):zda v2 wv v3=some wC:=zX (body:=fun s:(Int×Int)=>zfn v2 s.1 s.2) h
def zgf (b:List UInt8) (atv:Int) (points:Int) (size:Int):Option ((Int×Int×Int)⊕(Int×Int)):=if (decide (size>0)) then (cut b (i64.wrap (atv+size)) (b.length:Int)>>=fun v=>zoo v>>=fun wu=>some (.inl ((i64.wrap (atv+size)),(i64.wrap (points+1)),wu))) else some (.inr (atv,points))
def zhP (b:List UInt8) (atv:Int) (points:Int) (size:Int):Option (Int×Int):=zaB (fun s:(Int×Int×Int)=>zgf b s.1 s.2.1 s.2.2) (atv,points,size)
def zqD (b:List UInt8):Option (Int×Int):=zoo b>>=fun rv=>zhP b 0 0 rv>>=fun q=>some (q.1,q.2)
theorem zvP (h:zgf b atv points size=some (.inl (atv',points',size'))):zhP b atv points size=zhP b atv' points' size':=zW (body:=fun s:(Int×Int×Int)=>zgf b s.1 s.2.1 s.2.2) h
theorem zvQ (h:zgf b atv points size=some (.inr wC)):zhP b atv points size=some wC:=zX (body:=fun s:(Int×Int×Int)=>zgf b s.1 s.2.1 s.2.2) h
def zon (b:List UInt8):Option Int:=zqD b>>=fun rv=>some rv.1
def zkx (b:List UInt8):Option Bool:=zon b>>=fun rv=>some (rv==(b.length:Int))
def zjd (wire:Int) (b:List UInt8):Option (Int×Int×Int):=if (wire==0) then (zjk b>>=fun rv=>some (0,rv.1,rv.2)) else (((if (wire==1) then some (0,0,8) else (if (wire==5) then some (0,0,4) else if (wire==2) then (zgK b>>=fun wu=>some (wu.2.1,wu.2.2,wu.1)) else some (0,0,0)) :Option (Int×Int×Int)))>>=fun p=>if (p.2.1 !=0) then some (0,0,p.2.1) else if (decide (p.2.2>(u64.wrap (i64.wrap ((b.length:Int) - p.1))))) then some (0,0,3) else some (p.1,(i64.wrap (p.1+(i64.wrap p.2.2))),0))
def zhJ (b:List UInt8) (wV:Int):Option (zu×Int):=if ((decide (wV<0))|| (decide (wV>=(b.length:Int)))) then some ((⟨0,0,0,0,0⟩:zu),2) else (cut b wV (b.length:Int)>>=fun v2=>zqw v2>>=fun rv=>if (rv.2.2 !=0) then some ((⟨0,0,0,0,0⟩:zu),rv.2.2) else (cut b (i64.wrap (wV+rv.2.1)) (b.length:Int)>>=fun v3=>zjd rv.1.Wire v3>>=fun wu=>if (wu.2.2 !=0) then some ((⟨0,0,0,0,0⟩:zu),wu.2.2) else (some ((⟨rv.1.Number,rv.1.Wire,wV,(i64.wrap ((i64.wrap (wV+rv.2.1))+wu.1)),(i64.wrap ((i64.wrap (wV+rv.2.1))+wu.2.1))⟩:zu),0))))
def zkV (wire:Int) (value:List UInt8):Option Bool:=if (wire==2) then some true else zjd wire value>>=fun rv=>some ((rv.2.2==0)&&(rv.2.1==(value.length:Int)))
def zkp (b:List UInt8) (number:Int) (wire:Int) (value:List UInt8):Option ((List UInt8)×Int):=zoZ ([]:List UInt8) (⟨number,wire⟩:zaA)>>=fun rv=>(if (rv.2 !=0) then some true else zkV wire value>>=fun wu=>some (!wu))>>=fun g=>if g then some ([],2) else if (wire==2) then (ziO rv.1 (u64.wrap (value.length:Int))>>=fun wy=>zaK ([b,wy,value]:List (List UInt8))>>=fun wM=>some (wM,0)) else zaK ([b,rv.1,value]:List (List UInt8))>>=fun rv5=>some (rv5,0)
def zmt (b:List UInt8) (number:Int) (value:List UInt8):Option (List UInt8):=zkp b number 2 value>>=fun rv=>if (rv.2 !=0) then (zaK ([b]:List (List UInt8))>>=fun wu=>some wu) else some rv.1
def zoJ (wv:Int):Option Int:=some (if (1:Int)<wv then 1 else wv)
def zhF (k:Int) (wv:Int):Option (Int×Int):=((if (k==1) then some (k==1) else (some (k==8)) :Option Bool))>>=fun p=>if p then (zkJ wv>>=fun rv=>zkK rv>>=fun wu=>some (wu,0)) else ((if (k==3) then some (k==3) else (if (k==5) then some (k==5) else if (k==9) then some (k==9) else if (k==10) then some (k==10) else some (k==11)) :Option Bool))>>=fun p2=>if p2 then (zkb wv>>=fun wy=>some ((u64.wrap wy),0)) else if (k==7) then (zoJ wv>>=fun wM=>some (wM,0)) else ((if (k==2) then some (k==2) else (if (k==4) then some (k==4) else if (k==6) then some (k==6) else if (k==12) then some (k==12) else if (k==13) then some (k==13) else some (k==14)) :Option Bool))>>=fun p3=>if p3 then some (wv,0) else some (0,2)
def zmj:Option (List (Int×zv)):=some (mput (mput (mput (mput (mput (mput (mput (mput (mput (mput (mput (mput (mput (mput (mput (mput (mput ([]:List (Int×zv)) 1 (⟨[105,110,116,51,50],0⟩:zv)) 2 (⟨[105,110,116,54,52],0⟩:zv)) 3 (⟨[117,105,110,116,51,50],0⟩:zv)) 4 (⟨[117,105,110,116,54,52],0⟩:zv)) 5 (⟨[115,105,110,116,51,50],0⟩:zv)) 6 (⟨[115,105,110,116,54,52],0⟩:zv)) 7 (⟨[98,111,111,108],0⟩:zv)) 8 (⟨[101,110,117,109],0⟩:zv)) 9 (⟨[102,105,120,101,100,51,50],5⟩:zv)) 10 (⟨[115,102,105,120,101,100,51,50],5⟩:zv)) 11 (⟨[102,108,111,97,116],5⟩:zv)) 12 (⟨[102,105,120,101,100,54,52],1⟩:zv)) 13 (⟨[115,102,105,120,101,100,54,52],1⟩:zv)) 14 (⟨[100,111,117,98,108,101],1⟩:zv)) 15 (⟨[115,116,114,105,110,103],2⟩:zv)) 16 (⟨[98,121,116,101,115],2⟩:zv)) 17 (⟨[109,101,115,115,97,103,101],2⟩:zv))
def zpU:Option (List Int):=zmj>>=fun rv=>zpT rv>>=fun v=>some v
def zlN (k:Int):Option (Int×Int):=zmj>>=fun rv=>if (!(mget rv k).isSome) then some (0,2) else some (((mget rv k).getD (⟨[],0⟩:zv)).wire,0)
def ziZ (k:Int):Option Bool:=zlN k>>=fun rv=>some ((rv.2==0)&&(rv.1 !=2))
def zgz (c:Int):Option Bool:=some ((decide (c>=48))&&(decide (c<=57)))
def zhd (c:Int):Option Bool:=some (if (decide (c>=97)) then (decide (c<=122))|| (if (decide (c>=65)) then (decide (c<=90))|| (c==95) else c==95) else (if (decide (c>=65)) then (decide (c<=90))|| (c==95) else c==95))
def zcS (name:Str) (v2:Int):Option (Int⊕(Unit⊕Unit)):=if (decide (v2<(name.length:Int))) then ((idx name v2>>=fun c2=>zhd (c2.toNat:Int)>>=fun wu=>if (!wu) then (idx name v2>>=fun c3=>zgz (c3.toNat:Int)>>=fun wy=>some (!wy)) else some false)>>=fun g2=>if g2 then some (.inr (.inr ())) else some (.inl (i64.wrap (v2+1)))) else some (.inr (.inl ()))
def zfp (name:Str) (v2:Int):Option (Unit⊕Unit):=zaB (fun s:Int=>zcS name s) v2
def zhl (name:Str):Option Bool:=(if (name==[]) then some true else if (decide ((name.length:Int)>60)) then some true else idx name 0>>=fun c=>zgz (c.toNat:Int)>>=fun rv=>some rv)>>=fun g=>if g then some false else (zfp name 0>>=fun q=>match q with | .inl u=>(some true) | .inr u2=>(some false))
theorem zqt (h:zcS name v2=some (.inl v2')):zfp name v2=zfp name v2':=zW (body:=fun s:Int=>zcS name s) h
theorem zkZ (h:zcS name v2=some (.inr wC)):zfp name v2=some wC:=zX (body:=fun s:Int=>zcS name s) h
def zhe (n:Int):Option Bool:=some ((decide (n>=1))&&((decide (n<=536870911))&&((decide (n<19000))|| (decide (n>19999)))))
def zhK (f:zc):Option Bool:=(if f.Repeated then (ziZ f.Kind>>=fun rv=>some rv) else some false)>>=fun g=>some g
def zfz (c:zbf) (f:zc):Option Bool:=if (f.Kind==17) then some ((decide (f.Of>=0))&&(decide (f.Of<c.size))) else some (f.Of==0)
def zfy (c:zbf) (message:Int) (f:zc):Option (Int×(List (zw×Bool))×(List (zx×Bool))):=zhl f.Name>>=fun rv=>if (!rv) then some (5,c.names,c.numbers) else if ((mget c.names (⟨message,f.Name⟩:zw)).getD false) then some (6,c.names,c.numbers) else zhe f.Number>>=fun wu=>if (!wu) then some (7,c.names,c.numbers) else if ((mget c.numbers (⟨message,f.Number⟩:zx)).getD false) then some (8,c.names,c.numbers) else zcO c.kinds f.Kind>>=fun wy=>if (!wy) then some (9,c.names,c.numbers) else (if f.Packed then (zhK f>>=fun wM=>some (!wM)) else some false)>>=fun g=>if g then some (10,c.names,c.numbers) else zfz c f>>=fun rv5=>if (!rv5) then some (11,c.names,c.numbers) else some (0,(mput c.names (⟨message,f.Name⟩:zw) true),(mput c.numbers (⟨message,f.Number⟩:zx) true))
def zeI (c:zbf) (m:ze):Option (Int×(List (zw×Bool))×(List (zx×Bool))):=zhl m.Name>>=fun rv=>if (!rv) then some (2,c.names,c.numbers) else if ((mget c.names (⟨(-1),m.Name⟩:zw)).getD false) then some (3,c.names,c.numbers) else if (decide ((m.Fields.length:Int)>200)) then some (4,c.names,c.numbers) else some (0,(mput c.names (⟨(-1),m.Name⟩:zw) true),c.numbers)
def zce (i:Int) (sv:List ze) (n3:Int) (k:Int):Option ((Int×Int)⊕Int):=idx sv i>>=fun x3=>if (decide (k<(x3.Fields.length:Int))) then (idx sv i>>=fun x4=>idx x4.Fields k>>=fun x5=>some (.inl ((i64.wrap (n3+(i64.wrap (Int.tdiv (x5.Name.length:Int) 100)))),(i64.wrap (k+1))))) else some (.inr n3)
def zdU (i:Int) (sv:List ze) (n3:Int) (k:Int):Option Int:=zaB (fun s:(Int×Int)=>zce i sv s.1 s.2) (n3,k)
def zcd (sv:List ze) (n:Int) (i:Int):Option ((Int×Int)⊕Int):=if (decide (i<(sv.length:Int))) then (idx sv i>>=fun x=>idx sv i>>=fun x2=>zdU i sv (i64.wrap ((i64.wrap ((i64.wrap (n+1))+(i64.wrap (Int.tdiv (x.Name.length:Int) 100))))+(x2.Fields.length:Int))) 0>>=fun q=>some (.inl (q,(i64.wrap (i+1))))) else some (.inr n)
def zdT (sv:List ze) (n:Int) (i:Int):Option Int:=zaB (fun s:(Int×Int)=>zcd sv s.1 s.2) (n,i)
def zgw (sv:List ze):Option Bool:=zdT sv 0 0>>=fun q2=>some (decide (q2<=500))
theorem znL (h:zce i sv n3 k=some (.inl (n3',k'))):zdU i sv n3 k=zdU i sv n3' k':=zW (body:=fun s:(Int×Int)=>zce i sv s.1 s.2) h
theorem znM (h:zce i sv n3 k=some (.inr wC)):zdU i sv n3 k=some wC:=zX (body:=fun s:(Int×Int)=>zce i sv s.1 s.2) h
theorem znJ (h:zcd sv n i=some (.inl (n',i'))):zdT sv n i=zdT sv n' i':=zW (body:=fun s:(Int×Int)=>zcd sv s.1 s.2) h
theorem znK (h:zcd sv n i=some (.inr wC)):zdT sv n i=some wC:=zX (body:=fun s:(Int×Int)=>zcd sv s.1 s.2) h
def zcx (rv:List Int) (sv:List ze) (v2:Int) (x:ze) (v3:Int) (f6:List (zw×Bool)) (f7:List (zx×Bool)):Option ((Int×(List (zw×Bool))×(List (zx×Bool)))⊕(((List (zw×Bool))×(List (zx×Bool)))⊕(Int×Int))):=if (decide (v3<(x.Fields.length:Int))) then (idx x.Fields v3>>=fun x2=>zfy (⟨(sv.length:Int),rv,f6,f7⟩:zbf) v2 x2>>=fun rv5=>if (rv5.1 !=0) then some (.inr (.inr (v3,rv5.1))) else some (.inl ((i64.wrap (v3+1)),rv5.2.1,rv5.2.2))) else some (.inr (.inl (f6,f7)))
def zdZ (rv:List Int) (sv:List ze) (v2:Int) (x:ze) (v3:Int) (f6:List (zw×Bool)) (f7:List (zx×Bool)):Option (((List (zw×Bool))×(List (zx×Bool)))⊕(Int×Int)):=zaB (fun s:(Int×(List (zw×Bool))×(List (zx×Bool)))=>zcx rv sv v2 x s.1 s.2.1 s.2.2) (v3,f6,f7)
def zbA (rv:List Int) (sv:List ze) (v2:Int) (f:List (zw×Bool)) (f2:List (zx×Bool)):Option ((Int×(List (zw×Bool))×(List (zx×Bool)))⊕(Unit⊕(Int×Int×Int))):=if (decide (v2<(sv.length:Int))) then (idx sv v2>>=fun x=>zeI (⟨(sv.length:Int),rv,f,f2⟩:zbf) x>>=fun wy=>if (wy.1 !=0) then some (.inr (.inr (v2,(-1),wy.1))) else (zdZ rv sv v2 x 0 wy.2.1 wy.2.2>>=fun q=>match q with | .inl u=>(some (.inl ((i64.wrap (v2+1)),u.1,u.2))) | .inr u2=>(some (.inr (.inr (v2,u2.1,u2.2)))))) else some (.inr (.inl ()))
def zfN (rv:List Int) (sv:List ze) (v2:Int) (f:List (zw×Bool)) (f2:List (zx×Bool)):Option (Unit⊕(Int×Int×Int)):=zaB (fun s:(Int×(List (zw×Bool))×(List (zx×Bool)))=>zbA rv sv s.1 s.2.1 s.2.2) (v2,f,f2)
def zjG (sv:List ze):Option (zbe×Int):=if ((decide ((sv.length:Int)<1))|| (decide ((sv.length:Int)>100))) then some ((⟨(-1),(-1),1⟩:zbe),9) else (zpU>>=fun rv=>zfN rv sv 0 ([]:List (zw×Bool)) ([]:List (zx×Bool))>>=fun q2=>match q2 with | .inl u3=>(some ((⟨0,0,0⟩:zbe),0)) | .inr u4=>(some ((⟨u4.1,u4.2.1,u4.2.2⟩:zbe),9)))
theorem zry {f6:List (zw×Bool)} {f7:List (zx×Bool)} (h:zcx rv sv v2 x v3 f6 f7=some (.inl (v3',f6',f7'))):zdZ rv sv v2 x v3 f6 f7=zdZ rv sv v2 x v3' f6' f7':=zW (body:=fun s:(Int×(List (zw×Bool))×(List (zx×Bool)))=>zcx rv sv v2 x s.1 s.2.1 s.2.2) h
theorem zls {f6:List (zw×Bool)} {f7:List (zx×Bool)} (h:zcx rv sv v2 x v3 f6 f7=some (.inr wC)):zdZ rv sv v2 x v3 f6 f7=some wC:=zX (body:=fun s:(Int×(List (zw×Bool))×(List (zx×Bool)))=>zcx rv sv v2 x s.1 s.2.1 s.2.2) h
theorem zrx {f2:List (zx×Bool)} (h:zbA rv sv v2 f f2=some (.inl (v2',f',f2'))):zfN rv sv v2 f f2=zfN rv sv v2' f' f2':=zW (body:=fun s:(Int×(List (zw×Bool))×(List (zx×Bool)))=>zbA rv sv s.1 s.2.1 s.2.2) h
theorem zeZ {f2:List (zx×Bool)} (h:zbA rv sv v2 f f2=some (.inr wC)):zfN rv sv v2 f f2=some wC:=zX (body:=fun s:(Int×(List (zw×Bool))×(List (zx×Bool)))=>zbA rv sv s.1 s.2.1 s.2.2) h
def zgU (sv:List ze):Option Bool:=zjG sv>>=fun rv=>some (rv.2==0)
def zfZ (f:zc) (v:Int):Option Bool:=some (f.Number==v)
def zI (sv:List zc) (v:Int) (v2:Int):Option (Int⊕(Unit⊕Int)):=if (decide (v2<(sv.length:Int))) then (idx sv v2>>=fun x=>zfZ x v>>=fun rv=>if rv then some (.inr (.inr v2)) else some (.inl (i64.wrap (v2+1)))) else some (.inr (.inl ()))
def zad (sv:List zc) (v:Int) (v2:Int):Option (Unit⊕Int):=zaB (fun s:Int=>zI sv v s) v2
def zaF (sv:List zc) (v:Int):Option Int:=zad sv v 0>>=fun q=>match q with | .inl u=>(some (-1)) | .inr u2=>(some u2)
theorem zdy (h:zI sv v v2=some (.inl v2')):zad sv v v2=zad sv v v2':=zW (body:=fun s:Int=>zI sv v s) h
theorem zbL (h:zI sv v v2=some (.inr wC)):zad sv v v2=some wC:=zX (body:=fun s:Int=>zI sv v s) h
def zcM (m:ze) (v:Int):Option (Int×Bool):=zaF m.Fields v>>=fun rv=>some ((if rv<0 then 0 else rv),(decide (rv>=0)))
def zdn (m:ze) (number:Int):Option (Int×Bool):=zcM m number>>=fun rv=>some (rv.1,rv.2)
def zgS (k:Int):Option (Int×Int):=((if (k==1) then some (k==1) else (if (k==2) then some (k==2) else if (k==3) then some (k==3) else if (k==4) then some (k==4) else if (k==5) then some (k==5) else if (k==6) then some (k==6) else if (k==7) then some (k==7) else some (k==8)) :Option Bool))>>=fun p=>if p then some (0,0) else ((if (k==9) then some (k==9) else (if (k==10) then some (k==10) else some (k==11)) :Option Bool))>>=fun p2=>if p2 then some (4,0) else if (k==12) then if (k==12) then some (8,0) else (some (0,2)) else if (k==13) then if (k==13) then some (8,0) else (some (0,2)) else if (k==14) then some (8,0) else some (0,2)
def zjF (b:List UInt8):Option (Int×Int):=zgK b>>=fun rv=>if ((rv.2.2 !=0)|| (rv.2.1 !=(b.length:Int))) then some (0,12) else some (rv.1,0)
def zjE (k:Int) (b:List UInt8):Option (Int×Int):=zgS k>>=fun rv=>if (rv.2 !=0) then some (0,rv.2) else if (rv.1==0) then (zjF b>>=fun wu=>some (wu.1,wu.2)) else if (rv.1 !=(b.length:Int)) then some (0,12) else znG b>>=fun wy=>some (wy,0)
def zkY (k:Int) (b:List UInt8):Option (Int×Int):=zjE k b>>=fun rv=>if (rv.2 !=0) then some (0,rv.2) else zhF k rv.1>>=fun wu=>some (wu.1,wu.2)
def zkt (k:Int) (wv:Int):Option ((List UInt8)×Int):=zgS k>>=fun rv=>if (rv.2 !=0) then some ([],rv.2) else zhF k wv>>=fun wu=>if (rv.1==0) then (ziO ([]:List UInt8) wu.1>>=fun wy=>some (wy,wu.2)) else zkI wu.1 rv.1>>=fun wM=>some (wM,wu.2)
def zjg (k:Int) (wv:Int):Option Int:=zgS k>>=fun rv=>if ((rv.2 !=0)|| (rv.1 !=0)) then some rv.1 else zhF k wv>>=fun wu=>znF wu.1>>=fun wy=>some wy
def zlR (k:Int):Option Int:=zjg k 0>>=fun rv=>some rv
def zoe (wide:Int) (b:List UInt8):Option (Int×Int):=if (wide==1) then (zjk b>>=fun rv=>some (rv.1,rv.2)) else if (decide (wide>(b.length:Int))) then some (0,3) else some (wide,0)
def zcg {σ:Type} (kf:(Rnd σ ((List UInt8)×Int))) (rv:Int) (ww:List UInt8) (sg2:σ):Option (((List UInt8)×σ)⊕(σ⊕σ)):=if (decide ((ww.length:Int)>0)) then (zoe rv ww>>=fun wu=>cut ww 0 wu.1>>=fun v3=>kf sg2 (v3,wu.2)>>=fun y2=>if ((!y2.1)|| (wu.2 !=0)) then some (.inr (.inr y2.2)) else cut ww wu.1 (ww.length:Int)>>=fun v5=>some (.inl (v5,y2.2))) else some (.inr (.inl sg2))
def zfM {σ:Type} (kf:(Rnd σ ((List UInt8)×Int))) (rv:Int) (ww:List UInt8) (sg2:σ):Option (σ⊕σ):=zaB (fun s:((List UInt8)×σ)=>zcg kf rv s.1 s.2) (ww,sg2)
def zfg {σ:Type} (v:Int) (v2:List UInt8) (kf:Rnd σ ((List UInt8)×Int)) (sg:σ):Option σ:=zlR v>>=fun rv=>if (rv==0) then (kf sg (([]:List UInt8),2)>>=fun y=>some y.2) else (zfM kf rv v2 sg>>=fun q=>match q with | .inl u=>(some u) | .inr u2=>(some u2))
theorem zrw {σ:Type} {kf:(Rnd σ ((List UInt8)×Int))} {rv:Int} {ww:List UInt8} {sg2:σ} {rest':List UInt8} {sg2':σ} (h:zcg kf rv ww sg2=some (.inl (rest',sg2'))):zfM kf rv ww sg2=zfM kf rv rest' sg2':=zW (body:=fun s:((List UInt8)×σ)=>zcg kf rv s.1 s.2) h
theorem zil {σ:Type} {kf:(Rnd σ ((List UInt8)×Int))} {rv:Int} {ww:List UInt8} {sg2:σ} {wC:(σ⊕σ)} (h:zcg kf rv ww sg2=some (.inr wC)):zfM kf rv ww sg2=some wC:=zX (body:=fun s:((List UInt8)×σ)=>zcg kf rv s.1 s.2) h
def zkr (k:Int) (b:List UInt8):Option (Int×(List UInt8)):=some (k,b)
def zev (k:Int) (f:List Int) (x:List UInt8) (x2:Int):Option ((List Int)⊕(Int×(List Int))):=if (x2 !=0) then some (.inr (x2,f)) else zkY k x>>=fun wu=>app 8 f ([wu.1]:List Int)>>=fun v=>some (.inl v)
def zod (k:Int) (b:List UInt8):Option ((List Int)×Int):=zkr k b>>=fun rv=>zfg rv.1 rv.2 (rnd (fun (s:List Int) (x:((List UInt8)×Int))=>zev k s x.1 x.2)) (.inl [])>>=fun q=>match q with | .inl u=>(some (u,0)) | .inr j=>(some ([],j.1))
def zfm (k:Int) (l:List Int) (b:List UInt8) (v:Int):Option (((List UInt8)×Int)⊕(List UInt8)):=if (decide (v<(l.length:Int))) then (idx l v>>=fun x=>zkt k x>>=fun wu=>app 1 b wu.1>>=fun v2=>some (.inl (v2,(i64.wrap (v+1))))) else some (.inr b)
def zjf (k:Int) (l:List Int) (b:List UInt8) (v:Int):Option (List UInt8):=zaB (fun s:((List UInt8)×Int)=>zfm k l s.1 s.2) (b,v)
def zqp (k:Int) (l:List Int):Option ((List UInt8)×Int):=zlR k>>=fun rv=>if (rv==0) then some ([],2) else zjf k l [] 0>>=fun q=>some (q,0)
theorem zvG {k:Int} {l:List Int} {b:List UInt8} {v:Int} {b':List UInt8} {v':Int} (h:zfm k l b v=some (.inl (b',v'))):zjf k l b v=zjf k l b' v':=zW (body:=fun s:((List UInt8)×Int)=>zfm k l s.1 s.2) h
theorem zvH {k:Int} {l:List Int} {b:List UInt8} {v:Int} {wC:List UInt8} (h:zfm k l b v=some (.inr wC)):zjf k l b v=some wC:=zX (body:=fun s:((List UInt8)×Int)=>zfm k l s.1 s.2) h
def zfY (f:Int) (x:List UInt8) (x2:Int):Option (Int⊕(Int×Int)):=if (x2 !=0) then some (.inr (x2,f)) else some (.inl (i64.wrap (f+1)))
def zoc (k:Int) (b:List UInt8):Option (Int×Int):=zkr k b>>=fun rv=>zfg rv.1 rv.2 (rnd (fun (s:Int) (x:((List UInt8)×Int))=>zfY s x.1 x.2)) (.inl 0)>>=fun q=>match q with | .inl u=>(some (u,0)) | .inr j=>(some (0,j.1))
def zjM (f:zc) (v:Int):Option Bool:=some (f.Number==v)
def zO (sv:List zc) (v:Int) (v2:Int):Option (Int⊕(Unit⊕Int)):=if (decide (v2<(sv.length:Int))) then (idx sv v2>>=fun x=>zjM x v>>=fun rv=>if rv then some (.inr (.inr v2)) else some (.inl (i64.wrap (v2+1)))) else some (.inr (.inl ()))
def zaj (sv:List zc) (v:Int) (v2:Int):Option (Unit⊕Int):=zaB (fun s:Int=>zO sv v s) v2
def zaN (sv:List zc) (v:Int):Option Int:=zaj sv v 0>>=fun q=>match q with | .inl u=>(some (-1)) | .inr u2=>(some u2)
theorem zed (h:zO sv v v2=some (.inl v2')):zaj sv v v2=zaj sv v v2':=zW (body:=fun s:Int=>zO sv v s) h
theorem zbY (h:zO sv v v2=some (.inr wC)):zaj sv v v2=some wC:=zX (body:=fun s:Int=>zO sv v s) h
def zmH (m:ze) (number:Int):Option Int:=zaN m.Fields number>>=fun rv=>some rv
def zmI (f:zc) (wire:Int):Option Bool:=(if f.Repeated then (if (wire==2) then (ziZ f.Kind>>=fun rv=>some rv) else some false) else some false)>>=fun g=>some g
def zor (k:Int) (wire:Int):Option Bool:=zlN k>>=fun rv=>some ((rv.2==0)&&(rv.1==wire))
def zjl (m:ze) (hv:zab):Option zaf:=zmH m hv.number>>=fun rv=>if (rv==(-1)) then some (⟨(-1),false,0⟩:zaf) else idx m.Fields rv>>=fun x=>zmI x hv.wire>>=fun wu=>(if (!wu) then (zor x.Kind hv.wire>>=fun wy=>some (!wy)) else some false)>>=fun g=>if g then some (⟨0,false,6⟩:zaf) else some (⟨rv,wu,0⟩:zaf)
def zlU (m:ze) (b:List UInt8) (wV:Int) (met:List (zab×zaf)):Option (zh×Int×(List (zab×zaf))):=zhJ b wV>>=fun rv=>if (rv.2 !=0) then some ((⟨(⟨0,0,0,0,0⟩:zu),0,false⟩:zh),rv.2,met) else (((if (!(mget met (⟨rv.1.Number,rv.1.Wire⟩:zab)).isSome) then (zjl m (⟨rv.1.Number,rv.1.Wire⟩:zab)>>=fun wu=>some ((mput met (⟨rv.1.Number,rv.1.Wire⟩:zab) wu),wu.field,wu.run,wu.e)) else (some (met,((mget met (⟨rv.1.Number,rv.1.Wire⟩:zab)).getD (⟨0,false,0⟩:zaf)).field,((mget met (⟨rv.1.Number,rv.1.Wire⟩:zab)).getD (⟨0,false,0⟩:zaf)).run,((mget met (⟨rv.1.Number,rv.1.Wire⟩:zab)).getD (⟨0,false,0⟩:zaf)).e)) :Option ((List (zab×zaf))×Int×Bool×Int)))>>=fun p=>if (p.2.2.2 !=0) then some ((⟨(⟨0,0,0,0,0⟩:zu),0,false⟩:zh),p.2.2.2,p.1) else some ((⟨rv.1,p.2.1,p.2.2.1⟩:zh),0,p.1))
def zec (b:List UInt8) (m:ze) (l:List zh) (met:List (zab×zaf)) (wV:Int):Option (((List zh)×(List (zab×zaf))×Int)⊕((List zh)⊕(Int×Int))):=if (decide (wV<(b.length:Int))) then (zlU m b wV met>>=fun wu=>if (wu.2.1 !=0) then some (.inr (.inr (wV,wu.2.1))) else app 56 l ([wu.1]:List zh)>>=fun v=>some (.inl (v,wu.2.2,wu.1.Record.To))) else some (.inr (.inl l))
def zhQ (b:List UInt8) (m:ze) (l:List zh) (met:List (zab×zaf)) (wV:Int):Option ((List zh)⊕(Int×Int)):=zaB (fun s:((List zh)×(List (zab×zaf))×Int)=>zec b m s.1 s.2.1 s.2.2) (l,met,wV)
def zqG (m:ze) (b:List UInt8):Option ((List zh)×Int×Int):=zhQ b m [] ([]:List (zab×zaf)) 0>>=fun q=>match q with | .inl u=>(some (u,0,0)) | .inr u2=>(some ([],u2.1,u2.2))
theorem zpm (h:zec b m l met wV=some (.inl (l',wN,fromv'))):zhQ b m l met wV=zhQ b m l' wN fromv':=zW (body:=fun s:((List zh)×(List (zab×zaf))×Int)=>zec b m s.1 s.2.1 s.2.2) h
theorem zlp (h:zec b m l met wV=some (.inr wC)):zhQ b m l met wV=some wC:=zX (body:=fun s:((List zh)×(List (zab×zaf))×Int)=>zec b m s.1 s.2.1 s.2.2) h
def zoq (m:ze) (b:List UInt8) (wV:Int):Option (zh×Int):=zlU m b wV ([]:List (zab×zaf))>>=fun wu=>some (wu.1,wu.2.1)
def zhh (wv:zaJ) (message:Int) (wV:Int) (tov:Int):Option (zh×Int×(List (zm×zh))):=cut wv.b 0 tov>>=fun v=>zhJ v wV>>=fun rv=>if (rv.2 !=0) then some ((⟨(⟨0,0,0,0,0⟩:zu),0,false⟩:zh),rv.2,wv.met) else (if (!(mget wv.met (⟨message,rv.1.Number,rv.1.Wire⟩:zm)).isSome) then (idx wv.s message>>=fun x=>zoq x v wV>>=fun wu=>if (wu.2 !=0) then some ((⟨(⟨0,0,0,0,0⟩:zu),0,false⟩:zh),wu.2,wv.met) else some ((⟨rv.1,wu.1.Field,wu.1.Run⟩:zh),0,(mput wv.met (⟨message,rv.1.Number,rv.1.Wire⟩:zm) wu.1))) else (some ((⟨rv.1,(((mget wv.met (⟨message,rv.1.Number,rv.1.Wire⟩:zm)).getD (⟨(⟨0,0,0,0,0⟩:zu),0,false⟩:zh)).Field),(((mget wv.met (⟨message,rv.1.Number,rv.1.Wire⟩:zm)).getD (⟨(⟨0,0,0,0,0⟩:zu),0,false⟩:zh)).Run)⟩:zh),0,wv.met)))
def zlh (f:zc) (isRun:Bool) (value:List UInt8):Option Int:=if isRun then (zoc f.Kind value>>=fun rv=>some rv.2) else (if (f.Kind==15) then (zkx value>>=fun wu=>some (!wu)) else some false)>>=fun g=>if g then some 7 else if (f.Kind==17) then some 8 else some 0
def zaU (d:Int) (message:Int) (xo:zaJ->Int->zh->Int->Option (zE×(List (zm×zh)))) (tov:Int) (wv:zaJ) (wv2:List (zm×zh)) (wX:Int) (depth:Int):Option (((List (zm×zh))×Int×Int)⊕(((List (zm×zh))×Int)⊕((List (zm×zh))×Int×Int×Int))):=if (decide (wX<tov)) then (zhh (⟨wv.s,wv.b,wv2⟩:zaJ) message wX tov>>=fun wu=>if (wu.2.1 !=0) then some (.inr (.inr (wu.2.2,0,wX,wu.2.1))) else xo (⟨wv.s,wv.b,wu.2.2⟩:zaJ) message wu.1 d>>=fun wM=>if (wM.1.e !=0) then some (.inr (.inr (wM.2,wM.1.depth,wM.1.place,wM.1.e))) else some (.inl (wM.2,wu.1.Record.To,(if depth<wM.1.depth then wM.1.depth else depth)))) else some (.inr (.inl (wv2,depth)))
def zcF (d:Int) (message:Int) (xo:zaJ->Int->zh->Int->Option (zE×(List (zm×zh)))) (tov:Int) (wv:zaJ) (wv2:List (zm×zh)) (wX:Int) (depth:Int):Option (((List (zm×zh))×Int)⊕((List (zm×zh))×Int×Int×Int)):=zaB (fun s:((List (zm×zh))×Int×Int)=>zaU d message xo tov wv s.1 s.2.1 s.2.2) (wv2,wX,depth)
def zeL (xx:zaJ->Int->Int->Int->Int->Option (zE×(List (zm×zh)))) (xo:zaJ->Int->zh->Int->Option (zE×(List (zm×zh)))) (wv:zaJ) (message:Int) (wV:Int) (tov:Int) (d:Int):Option (zE×(List (zm×zh))):=zcF d message xo tov wv wv.met wV 0>>=fun q=>match q with | .inl u=>(some ((⟨u.2,0,0⟩:zE),u.1)) | .inr u2=>(some ((⟨u2.2.1,u2.2.2.1,u2.2.2.2⟩:zE),u2.1))
def zes (xx:zaJ->Int->Int->Int->Int->Option (zE×(List (zm×zh)))) (xo:zaJ->Int->zh->Int->Option (zE×(List (zm×zh)))) (wv:zaJ) (message:Int) (v:zh) (d:Int):Option (zE×(List (zm×zh))):=if (v.Field==(-1)) then some ((⟨0,0,0⟩:zE),wv.met) else idx wv.s message>>=fun x=>idx x.Fields v.Field>>=fun x2=>if ((x2.Kind==17)&&(decide (d>0))) then (xx wv x2.Of v.Record.At v.Record.To (i64.wrap (d - 1))>>=fun wu=>some ((⟨(i64.wrap (wu.1.depth+1)),wu.1.place,wu.1.e⟩:zE),wu.2)) else cut wv.b v.Record.At v.Record.To>>=fun v3=>zlh x2 v.Run v3>>=fun wy=>if (wy !=0) then some ((⟨0,v.Record.From,wy⟩:zE),wv.met) else some ((⟨0,0,0⟩:zE),wv.met)
def zaL:Nat->(zaJ->Int->Int->Int->Int->Option (zE×(List (zm×zh))))×(zaJ->Int->zh->Int->Option (zE×(List (zm×zh)))) | 0=>(fun _ _ _ _ _=>none,fun _ _ _ _=>none) | fuel+1=>(fun wv message wV tov d=>zeL (zaL fuel).1 (zaL fuel).2 wv message wV tov d,fun wv message v d=>zes (zaL fuel).1 (zaL fuel).2 wv message v d)
def zbD (fuel:Nat):zaJ->Int->Int->Int->Int->Option (zE×(List (zm×zh))):=(zaL fuel).1
def zer (fuel:Nat):zaJ->Int->zh->Int->Option (zE×(List (zm×zh))):=(zaL fuel).2
theorem zmO (h:zaU d message xo tov wv wv2 wX depth=some (.inl (wv2',fromv2',depth'))):zcF d message xo tov wv wv2 wX depth=zcF d message xo tov wv wv2' fromv2' depth':=zW (body:=fun s:((List (zm×zh))×Int×Int)=>zaU d message xo tov wv s.1 s.2.1 s.2.2) h
theorem zef (h:zaU d message xo tov wv wv2 wX depth=some (.inr wC)):zcF d message xo tov wv wv2 wX depth=some wC:=zX (body:=fun s:((List (zm×zh))×Int×Int)=>zaU d message xo tov wv s.1 s.2.1 s.2.2) h
def zky (sv:List ze) (root:Int) (d:Int):Option Int:=zgU sv>>=fun rv=>if (!rv) then some 9 else (if ((decide (root<0))|| ((decide (root>=(sv.length:Int)))|| ((decide (d<0))|| (decide (d>64))))) then some 2 else some 0)
def zmG (fuel:Nat) (sv:List ze) (root:Int) (b:List UInt8) (d:Int):Option zE:=zky sv root d>>=fun rv=>if (rv !=0) then some (⟨0,0,rv⟩:zE) else (zbD fuel (⟨sv,b,([]:List (zm×zh))⟩:zaJ) root 0 (b.length:Int) d>>=fun wy=>some wy.1)
def zlg (fuel:Nat) (sv:List ze) (root:Int) (b:List UInt8) (d:Int):Option (Int×Int):=zmG fuel sv root b d>>=fun rv=>some (rv.place,rv.e)
def zeS (v:za):Option Int:=some (i64.wrap ((i64.wrap ((v.Words.length:Int)+(v.Texts.length:Int)))+(v.Subs.length:Int)))
def zbV (x:zb) (n:Int) (i:Int):Option ((Int×Int)⊕Int):=if (decide (i<(x.Unknown.length:Int))) then (idx x.Unknown i>>=fun x2=>some (.inl ((i64.wrap ((i64.wrap (n+1))+(x2.length:Int))),(i64.wrap (i+1))))) else some (.inr n)
def zds (x:zb) (n:Int) (i:Int):Option Int:=zaB (fun s:(Int×Int)=>zbV x s.1 s.2) (n,i)
def zbw (wK:Int) (xm:za->Int->Option Int) (x:zb) (n3:Int) (i2:Int):Option ((Int×Int)⊕(Int⊕Unit)):=if (decide (i2<(x.Values.length:Int))) then (idx x.Values i2>>=fun x3=>xm x3 wK>>=fun rv=>if (decide ((i64.wrap (n3+rv))>=5000)) then some (.inr (.inr ())) else some (.inl ((i64.wrap (n3+rv)),(i64.wrap (i2+1))))) else some (.inr (.inl n3))
def zdt (wK:Int) (xm:za->Int->Option Int) (x:zb) (n3:Int) (i2:Int):Option (Int⊕Unit):=zaB (fun s:(Int×Int)=>zbw wK xm x s.1 s.2) (n3,i2)
def zeX (xl:zb->Int->Option Int) (xm:za->Int->Option Int) (x:zb) (wK:Int):Option Int:=if (decide (wK<0)) then some 5000 else (zds x 1 0>>=fun q=>zdt wK xm x q 0>>=fun q2=>match q2 with | .inl u=>(some u) | .inr u2=>(some 5000))
def zbb (v:za) (n:Int) (k:Int):Option ((Int×Int)⊕Int):=if (decide (k<(v.Texts.length:Int))) then (idx v.Texts k>>=fun x=>some (.inl ((i64.wrap ((i64.wrap (n+1))+(x.length:Int))),(i64.wrap (k+1))))) else some (.inr n)
def zcr (v:za) (n:Int) (k:Int):Option Int:=zaB (fun s:(Int×Int)=>zbb v s.1 s.2) (n,k)
def zaP (wK:Int) (xl:zb->Int->Option Int) (v:za) (n3:Int) (k2:Int):Option ((Int×Int)⊕(Int⊕Unit)):=if (decide (k2<(v.Subs.length:Int))) then (idx v.Subs k2>>=fun x2=>xl x2 (i64.wrap (wK - 1))>>=fun rv=>if (decide ((i64.wrap (n3+rv))>=5000)) then some (.inr (.inr ())) else some (.inl ((i64.wrap (n3+rv)),(i64.wrap (k2+1))))) else some (.inr (.inl n3))
def zcs (wK:Int) (xl:zb->Int->Option Int) (v:za) (n3:Int) (k2:Int):Option (Int⊕Unit):=zaB (fun s:(Int×Int)=>zaP wK xl v s.1 s.2) (n3,k2)
def zdh (xl:zb->Int->Option Int) (xm:za->Int->Option Int) (v:za) (wK:Int):Option Int:=zcr v (i64.wrap (1+(v.Words.length:Int))) 0>>=fun q=>zcs wK xl v q 0>>=fun q2=>match q2 with | .inl u=>(some u) | .inr u2=>(some 5000)
def zaD:Nat->(zb->Int->Option Int)×(za->Int->Option Int) | 0=>(fun _ _=>none,fun _ _=>none) | fuel+1=>(fun x wK=>zeX (zaD fuel).1 (zaD fuel).2 x wK,fun v wK=>zdh (zaD fuel).1 (zaD fuel).2 v wK)
def zbz (fuel:Nat):zb->Int->Option Int:=(zaD fuel).1
def zbv (fuel:Nat):za->Int->Option Int:=(zaD fuel).2
theorem zni (h:zbV x n i=some (.inl (n',i'))):zds x n i=zds x n' i':=zW (body:=fun s:(Int×Int)=>zbV x s.1 s.2) h
theorem znj (h:zbV x n i=some (.inr wC)):zds x n i=some wC:=zX (body:=fun s:(Int×Int)=>zbV x s.1 s.2) h
theorem znk (h:zbw wK xm x n3 i2=some (.inl (n3',i2'))):zdt wK xm x n3 i2=zdt wK xm x n3' i2':=zW (body:=fun s:(Int×Int)=>zbw wK xm x s.1 s.2) h
theorem zit (h:zbw wK xm x n3 i2=some (.inr wC)):zdt wK xm x n3 i2=some wC:=zX (body:=fun s:(Int×Int)=>zbw wK xm x s.1 s.2) h
theorem zkN (h:zbb v n k=some (.inl (n',k'))):zcr v n k=zcr v n' k':=zW (body:=fun s:(Int×Int)=>zbb v s.1 s.2) h
theorem zkO (h:zbb v n k=some (.inr wC)):zcr v n k=some wC:=zX (body:=fun s:(Int×Int)=>zbb v s.1 s.2) h
theorem zkP (h:zaP wK xl v n3 k2=some (.inl (n3',k2'))):zcs wK xl v n3 k2=zcs wK xl v n3' k2':=zW (body:=fun s:(Int×Int)=>zaP wK xl v s.1 s.2) h
theorem zgI (h:zaP wK xl v n3 k2=some (.inr wC)):zcs wK xl v n3 k2=some wC:=zX (body:=fun s:(Int×Int)=>zaP wK xl v s.1 s.2) h
def zey (b:List UInt8) (l:List zh) (all:List Str) (v2:Int):Option (((List Str)×Int)⊕(List Str)):=if (decide (v2<(l.length:Int))) then (idx l v2>>=fun x=>cut b x.Record.At x.Record.To>>=fun v3=>idx all v2>>=fun x2=>some (.inl ((all.set (Int.toNat v2) v3),(i64.wrap (v2+1))))) else some (.inr all)
def zhp (b:List UInt8) (l:List zh) (all:List Str) (v2:Int):Option (List Str):=zaB (fun s:((List Str)×Int)=>zey b l s.1 s.2) (all,v2)
def zmD (b:List UInt8) (l:List zh):Option (List Str):=mkO 16 ([]:Str) (l.length:Int) (l.length:Int)>>=fun v=>zhp b l v 0>>=fun q=>some q
theorem ztE (h:zey b l all v2=some (.inl (all',v2'))):zhp b l all v2=zhp b l all' v2':=zW (body:=fun s:((List Str)×Int)=>zey b l s.1 s.2) h
theorem ztF (h:zey b l all v2=some (.inr wC)):zhp b l all v2=some wC:=zX (body:=fun s:((List Str)×Int)=>zey b l s.1 s.2) h
def zez (b:List UInt8) (k:Int) (l:List zh) (all:List Int) (v:Int):Option (((List Int)×Int)⊕(List Int)):=if (decide (v<(l.length:Int))) then (idx l v>>=fun x=>cut b x.Record.At x.Record.To>>=fun v2=>zod k v2>>=fun rv=>app 8 all rv.1>>=fun v3=>some (.inl (v3,(i64.wrap (v+1))))) else some (.inr all)
def zhq (b:List UInt8) (k:Int) (l:List zh) (all:List Int) (v:Int):Option (List Int):=zaB (fun s:((List Int)×Int)=>zez b k l s.1 s.2) (all,v)
def zmE (k:Int) (b:List UInt8) (l:List zh):Option (List Int):=zhq b k l [] 0>>=fun q=>some q
theorem ztG (h:zez b k l all v=some (.inl (all',v'))):zhq b k l all v=zhq b k l all' v':=zW (body:=fun s:((List Int)×Int)=>zez b k l s.1 s.2) h
theorem ztH (h:zez b k l all v=some (.inr wC)):zhq b k l all v=some wC:=zX (body:=fun s:((List Int)×Int)=>zez b k l s.1 s.2) h
def zcP (b:List UInt8) (rv:((List zh)×Int×Int)) (wW:List (Int×(List zh))) (v:Int) (f:List Str):Option (((List (Int×(List zh)))×Int×(List Str))⊕((List (Int×(List zh)))×(List Str))):=if (decide (v<(rv.1.length:Int))) then (idx rv.1 v>>=fun x2=>if (x2.Field==(-1)) then (cut b x2.Record.From x2.Record.To>>=fun v2=>app 16 f ([v2]:List Str)>>=fun v3=>some (.inl (wW,(i64.wrap (v+1)),v3))) else app 56 ((mget wW x2.Record.Number).getD []) ([x2]:List zh)>>=fun v4=>some (.inl ((mput wW x2.Record.Number v4),(i64.wrap (v+1)),f))) else some (.inr (wW,f))
def zfO (b:List UInt8) (rv:((List zh)×Int×Int)) (wW:List (Int×(List zh))) (v:Int) (f:List Str):Option ((List (Int×(List zh)))×(List Str)):=zaB (fun s:((List (Int×(List zh)))×Int×(List Str))=>zcP b rv s.1 s.2.1 s.2.2) (wW,v,f)
def zcQ (b:List UInt8) (q:((List (Int×(List zh)))×(List Str))) (xh:(List ze)->zc->(List UInt8)->(List zh)->Option za) (sv:List ze) (v5:List Int) (x:ze) (v6:Int) (f3:List za):Option ((Int×(List za))⊕(List za)):=if (decide (v6<(v5.length:Int))) then (idx v5 v6>>=fun x3=>idx ((mget q.1 x3).getD []) 0>>=fun x4=>idx x.Fields x4.Field>>=fun x5=>xh sv x5 b ((mget q.1 x3).getD [])>>=fun wu=>zeS wu>>=fun wy=>if (decide (wy>0)) then (app 80 f3 ([wu]:List za)>>=fun v7=>some (.inl ((i64.wrap (v6+1)),v7))) else some (.inl ((i64.wrap (v6+1)),f3))) else some (.inr f3)
def zfP (b:List UInt8) (q:((List (Int×(List zh)))×(List Str))) (xh:(List ze)->zc->(List UInt8)->(List zh)->Option za) (sv:List ze) (v5:List Int) (x:ze) (v6:Int) (f3:List za):Option (List za):=zaB (fun s:(Int×(List za))=>zcQ b q xh sv v5 x s.1 s.2) (v6,f3)
def zhO (xg:(List ze)->Int->(List UInt8)->Option zb) (xu:(List ze)->zc->(List UInt8)->(List zh)->Option (List zb)) (xh:(List ze)->zc->(List UInt8)->(List zh)->Option za) (sv:List ze) (message:Int) (b:List UInt8):Option zb:=idx sv message>>=fun x=>zqG x b>>=fun rv=>zfO b rv ([]:List (Int×(List zh))) 0 []>>=fun q=>zpT q.1>>=fun v5=>zfP b q xh sv v5 x 0 []>>=fun q2=>some (⟨q2,q.2⟩:zb)
def zfi (b:List UInt8) (l:List zh) (pieces:List (List UInt8)) (v2:Int):Option (((List (List UInt8))×Int)⊕(List (List UInt8))):=if (decide (v2<(l.length:Int))) then (idx l v2>>=fun x=>cut b x.Record.At x.Record.To>>=fun v3=>idx pieces v2>>=fun x2=>some (.inl ((pieces.set (Int.toNat v2) v3),(i64.wrap (v2+1))))) else some (.inr pieces)
def zid (b:List UInt8) (l:List zh) (pieces:List (List UInt8)) (v2:Int):Option (List (List UInt8)):=zaB (fun s:((List (List UInt8))×Int)=>zfi b l s.1 s.2) (pieces,v2)
def zfj (f:zc) (p:List (List UInt8)) (xg:(List ze)->Int->(List UInt8)->Option zb) (sv:List ze) (all:List zb) (v6:Int):Option (((List zb)×Int)⊕(List zb)):=if (decide (v6<(p.length:Int))) then (idx p v6>>=fun x3=>xg sv f.Of x3>>=fun wu=>idx all v6>>=fun x4=>some (.inl ((all.set (Int.toNat v6) wu),(i64.wrap (v6+1))))) else some (.inr all)
def zge (f:zc) (p:List (List UInt8)) (xg:(List ze)->Int->(List UInt8)->Option zb) (sv:List ze) (all:List zb) (v6:Int):Option (List zb):=zaB (fun s:((List zb)×Int)=>zfj f p xg sv s.1 s.2) (all,v6)
def zjj (xg:(List ze)->Int->(List UInt8)->Option zb) (xu:(List ze)->zc->(List UInt8)->(List zh)->Option (List zb)) (xh:(List ze)->zc->(List UInt8)->(List zh)->Option za) (sv:List ze) (f:zc) (b:List UInt8) (l:List zh):Option (List zb):=mkO 24 ([]:List UInt8) (l.length:Int) (l.length:Int)>>=fun v=>zid b l v 0>>=fun q=>((if ((!f.Repeated)&&(decide ((q.length:Int)>1))) then (zaK q>>=fun rv=>some ([rv]:List (List UInt8))) else (some q) :Option (List (List UInt8))))>>=fun p=>mkO 48 ((⟨[],[]⟩:zb):zb) (p.length:Int) (p.length:Int)>>=fun v5=>zge f p xg sv v5 0>>=fun q2=>some q2
def zie (xg:(List ze)->Int->(List UInt8)->Option zb) (xu:(List ze)->zc->(List UInt8)->(List zh)->Option (List zb)) (xh:(List ze)->zc->(List UInt8)->(List zh)->Option za) (sv:List ze) (f:zc) (b:List UInt8) (l:List zh):Option za:=((if ((!f.Repeated)&&(f.Kind !=17)) then (cut l (i64.wrap ((l.length:Int) - 1)) (l.length:Int)>>=fun v2=>some v2) else (some l) :Option (List zh)))>>=fun p=>if (f.Kind==17) then (xu sv f b p>>=fun rv=>some (⟨f.Number,[],[],rv⟩:za)) else ((if (f.Kind==15) then some (f.Kind==15) else (some (f.Kind==16)) :Option Bool))>>=fun p2=>if p2 then (zmD b p>>=fun wu=>some (⟨f.Number,[],wu,[]⟩:za)) else zmE f.Kind b p>>=fun wy=>some (⟨f.Number,wy,[],[]⟩:za)
def zas:Nat->((List ze)->Int->(List UInt8)->Option zb)×((List ze)->zc->(List UInt8)->(List zh)->Option (List zb))×((List ze)->zc->(List UInt8)->(List zh)->Option za) | 0=>(fun _ _ _=>none,fun _ _ _ _=>none,fun _ _ _ _=>none) | fuel+1=>(fun sv message b=>zhO (zas fuel).1 (zas fuel).2.1 (zas fuel).2.2 sv message b,fun sv f b l=>zjj (zas fuel).1 (zas fuel).2.1 (zas fuel).2.2 sv f b l,fun sv f b l=>zie (zas fuel).1 (zas fuel).2.1 (zas fuel).2.2 sv f b l)
def zfh (fuel:Nat):(List ze)->Int->(List UInt8)->Option zb:=(zas fuel).1
def zro (fuel:Nat):(List ze)->zc->(List UInt8)->(List zh)->Option (List zb):=(zas fuel).2.1
def zkw (fuel:Nat):(List ze)->zc->(List UInt8)->(List zh)->Option za:=(zas fuel).2.2
theorem zlu (h:zcP b rv wW v f=some (.inl (known',v',f'))):zfO b rv wW v f=zfO b rv known' v' f':=zW (body:=fun s:((List (Int×(List zh)))×Int×(List Str))=>zcP b rv s.1 s.2.1 s.2.2) h
theorem zrz (h:zcP b rv wW v f=some (.inr wC)):zfO b rv wW v f=some wC:=zX (body:=fun s:((List (Int×(List zh)))×Int×(List Str))=>zcP b rv s.1 s.2.1 s.2.2) h
theorem zlv {f3:List za} (h:zcQ b q xh sv v5 x v6 f3=some (.inl (v6',f3'))):zfP b q xh sv v5 x v6 f3=zfP b q xh sv v5 x v6' f3':=zW (body:=fun s:(Int×(List za))=>zcQ b q xh sv v5 x s.1 s.2) h
theorem zrA {f3:List za} (h:zcQ b q xh sv v5 x v6 f3=some (.inr wC)):zfP b q xh sv v5 x v6 f3=some wC:=zX (body:=fun s:(Int×(List za))=>zcQ b q xh sv v5 x s.1 s.2) h
theorem zuL (h:zfi b l pieces v2=some (.inl (pieces',v2'))):zid b l pieces v2=zid b l pieces' v2':=zW (body:=fun s:((List (List UInt8))×Int)=>zfi b l s.1 s.2) h
theorem zuM (h:zfi b l pieces v2=some (.inr wC)):zid b l pieces v2=some wC:=zX (body:=fun s:((List (List UInt8))×Int)=>zfi b l s.1 s.2) h
theorem zuN (h:zfj f p xg sv all v6=some (.inl (all',v6'))):zge f p xg sv all v6=zge f p xg sv all' v6':=zW (body:=fun s:((List zb)×Int)=>zfj f p xg sv s.1 s.2) h
theorem zuO (h:zfj f p xg sv all v6=some (.inr wC)):zge f p xg sv all v6=some wC:=zX (body:=fun s:((List zb)×Int)=>zfj f p xg sv s.1 s.2) h
def ztx (fuel:Nat) (sv:List ze) (root:Int) (b:List UInt8) (d:Int):Option (zb×Int):=zlg fuel sv root b d>>=fun rv=>if (rv.2 !=0) then some ((⟨[],[]⟩:zb),rv.2) else zfh fuel sv root b>>=fun wu=>some (wu,0)
def zex (wO:Int) (xa:zb->Int->Option Int) (x2:za) (deep3:Int) (v3:Int):Option ((Int×Int)⊕(Int⊕Int)):=if (decide (v3<(x2.Subs.length:Int))) then (idx x2.Subs v3>>=fun x3=>if (decide (wO<=0)) then some (.inr (.inr 1)) else xa x3 (i64.wrap (wO - 1))>>=fun rv=>if (decide ((if deep3<(i64.wrap (1+rv)) then i64.wrap (1+rv) else deep3)>wO)) then some (.inr (.inr (if deep3<(i64.wrap (1+rv)) then i64.wrap (1+rv) else deep3))) else some (.inl ((if deep3<(i64.wrap (1+rv)) then i64.wrap (1+rv) else deep3),(i64.wrap (v3+1))))) else some (.inr (.inl deep3))
def zho (wO:Int) (xa:zb->Int->Option Int) (x2:za) (deep3:Int) (v3:Int):Option (Int⊕Int):=zaB (fun s:(Int×Int)=>zex wO xa x2 s.1 s.2) (deep3,v3)
def zew (wO:Int) (xa:zb->Int->Option Int) (x:zb) (wK:Int) (v:Int):Option ((Int×Int)⊕(Int⊕Int)):=if (decide (v<(x.Values.length:Int))) then (idx x.Values v>>=fun x2=>zho wO xa x2 wK 0>>=fun q=>match q with | .inl u=>(some (.inl (u,(i64.wrap (v+1))))) | .inr u2=>(some (.inr (.inr u2)))) else some (.inr (.inl wK))
def zhn (wO:Int) (xa:zb->Int->Option Int) (x:zb) (wK:Int) (v:Int):Option (Int⊕Int):=zaB (fun s:(Int×Int)=>zew wO xa x s.1 s.2) (wK,v)
def zjK (xa:zb->Int->Option Int) (x:zb) (wO:Int):Option Int:=zhn wO xa x 0 0>>=fun q2=>match q2 with | .inl u3=>(some u3) | .inr u4=>(some u4)
def zgm:Nat->zb->Int->Option Int | 0,_,_=>none | fuel+1,x,wO=>zjK (zgm fuel) x wO
theorem ztA (h:zex wO xa x2 deep3 v3=some (.inl (deep3',v3'))):zho wO xa x2 deep3 v3=zho wO xa x2 deep3' v3':=zW (body:=fun s:(Int×Int)=>zex wO xa x2 s.1 s.2) h
theorem ztB (h:zex wO xa x2 deep3 v3=some (.inr wC)):zho wO xa x2 deep3 v3=some wC:=zX (body:=fun s:(Int×Int)=>zex wO xa x2 s.1 s.2) h
theorem zty (h:zew wO xa x wK v=some (.inl (deep',v'))):zhn wO xa x wK v=zhn wO xa x deep' v':=zW (body:=fun s:(Int×Int)=>zew wO xa x s.1 s.2) h
theorem ztz (h:zew wO xa x wK v=some (.inr wC)):zhn wO xa x wK v=some wC:=zX (body:=fun s:(Int×Int)=>zew wO xa x s.1 s.2) h
def zhM (fuel:Nat) (x:zb):Option Int:=zgm fuel x 131072>>=fun rv=>some rv
def zkv (fuel:Nat) (x:zb):Option Bool:=zhM fuel x>>=fun rv=>some (decide (rv<=131072))
def zcU (l:List Str) (v:Int):Option (Int⊕(Unit⊕Unit)):=if (decide (v<(l.length:Int))) then (idx l v>>=fun x=>lenO x>>=fun v2=>zkx v2>>=fun rv=>if (!rv) then some (.inr (.inr ())) else some (.inl (i64.wrap (v+1)))) else some (.inr (.inl ()))
def zfq (l:List Str) (v:Int):Option (Unit⊕Unit):=zaB (fun s:Int=>zcU l s) v
def ziA (l:List Str):Option Bool:=zfq l 0>>=fun q=>match q with | .inl u=>(some true) | .inr u2=>(some false)
theorem zqA (h:zcU l v=some (.inl v')):zfq l v=zfq l v':=zW (body:=fun s:Int=>zcU l s) h
theorem zlc (h:zcU l v=some (.inr wC)):zfq l v=some wC:=zX (body:=fun s:Int=>zcU l s) h
def zhN (m:ze) (text:Str):Option Bool:=lenO text>>=fun v=>zhJ v 0>>=fun rv=>if ((rv.2 !=0)|| (rv.1.To !=(text.length:Int))) then some false else zdn m rv.1.Number>>=fun wu=>some (!wu.2)
def zbx (k:Int) (l:List Int) (v:Int):Option (Int⊕(Unit⊕Unit)):=if (decide (v<(l.length:Int))) then (idx l v>>=fun x=>zhF k x>>=fun rv=>if ((rv.2 !=0)|| (rv.1 !=x)) then some (.inr (.inr ())) else some (.inl (i64.wrap (v+1)))) else some (.inr (.inl ()))
def zdB (k:Int) (l:List Int) (v:Int):Option (Unit⊕Unit):=zaB (fun s:Int=>zbx k l s) v
def zgd (k:Int) (l:List Int):Option Bool:=zdB k l 0>>=fun q=>match q with | .inl u=>(some true) | .inr u2=>(some false)
theorem znv (h:zbx k l v=some (.inl v')):zdB k l v=zdB k l v':=zW (body:=fun s:Int=>zbx k l s) h
theorem zgl (h:zbx k l v=some (.inr wC)):zdB k l v=some wC:=zX (body:=fun s:Int=>zbx k l s) h
def zcf (l:List zb) (message:Int) (xi:(List ze)->Int->zb->Option Bool) (sv:List ze) (v2:Int):Option (Int⊕(Unit⊕Unit)):=if (decide (v2<(l.length:Int))) then (idx l v2>>=fun x=>xi sv message x>>=fun rv=>if (!rv) then some (.inr (.inr ())) else some (.inl (i64.wrap (v2+1)))) else some (.inr (.inl ()))
def zdW (l:List zb) (message:Int) (xi:(List ze)->Int->zb->Option Bool) (sv:List ze) (v2:Int):Option (Unit⊕Unit):=zaB (fun s:Int=>zcf l message xi sv s) v2
def zfB (xr:(List ze)->Int->(List zb)->Option Bool) (xd:zc->(List ze)->za->Option Bool) (xi:(List ze)->Int->zb->Option Bool) (sv:List ze) (message:Int) (l:List zb):Option Bool:=if ((decide (message<0))|| (decide (message>=(sv.length:Int)))) then some false else (zdW l message xi sv 0>>=fun q=>match q with | .inl u=>(some true) | .inr u2=>(some false))
def zld (xr:(List ze)->Int->(List zb)->Option Bool) (xd:zc->(List ze)->za->Option Bool) (xi:(List ze)->Int->zb->Option Bool) (f:zc) (sv:List ze) (v:za):Option Bool:=zeS v>>=fun rv=>if ((rv==0)|| ((decide (rv>1))&&(!f.Repeated))) then some false else if (f.Kind==15) then ((if ((v.Texts.length:Int)==rv) then (ziA v.Texts>>=fun wu=>some wu) else some false)>>=fun g=>some g) else if (f.Kind==16) then some ((v.Texts.length:Int)==rv) else if (f.Kind==17) then ((if ((v.Subs.length:Int)==rv) then (xr sv f.Of v.Subs>>=fun wy=>some wy) else some false)>>=fun g2=>some g2) else (if ((v.Words.length:Int)==rv) then (zgd f.Kind v.Words>>=fun wM=>some wM) else some false)>>=fun g3=>some g3
def zcl (xd:zc->(List ze)->za->Option Bool) (sv:List ze) (x:zb) (x2:ze) (last:Int) (v:Int):Option ((Int×Int)⊕(Unit⊕Unit)):=if (decide (v<(x.Values.length:Int))) then (idx x.Values v>>=fun x3=>zdn x2 x3.Number>>=fun rv=>(if (!rv.2) then some true else if (decide (x3.Number<=last)) then some true else idx x2.Fields rv.1>>=fun x4=>xd x4 sv x3>>=fun wu=>some (!wu))>>=fun g=>if g then some (.inr (.inr ())) else some (.inl (x3.Number,(i64.wrap (v+1))))) else some (.inr (.inl ()))
def zeT (xd:zc->(List ze)->za->Option Bool) (sv:List ze) (x:zb) (x2:ze) (last:Int) (v:Int):Option (Unit⊕Unit):=zaB (fun s:(Int×Int)=>zcl xd sv x x2 s.1 s.2) (last,v)
def zcH (x:zb) (x2:ze) (v3:Int):Option (Int⊕(Unit⊕Unit)):=if (decide (v3<(x.Unknown.length:Int))) then (idx x.Unknown v3>>=fun x5=>zhN x2 x5>>=fun wy=>if (!wy) then some (.inr (.inr ())) else some (.inl (i64.wrap (v3+1)))) else some (.inr (.inl ()))
def zeU (x:zb) (x2:ze) (v3:Int):Option (Unit⊕Unit):=zaB (fun s:Int=>zcH x x2 s) v3
def zgD (xr:(List ze)->Int->(List zb)->Option Bool) (xd:zc->(List ze)->za->Option Bool) (xi:(List ze)->Int->zb->Option Bool) (sv:List ze) (message:Int) (x:zb):Option Bool:=idx sv message>>=fun x2=>zeT xd sv x x2 0 0>>=fun q=>match q with | .inl u=>(zeU x x2 0>>=fun q2=>match q2 with | .inl u2=>(some true) | .inr u3=>(some false)) | .inr u4=>(some false)
def zam:Nat->((List ze)->Int->(List zb)->Option Bool)×(zc->(List ze)->za->Option Bool)×((List ze)->Int->zb->Option Bool) | 0=>(fun _ _ _=>none,fun _ _ _=>none,fun _ _ _=>none) | fuel+1=>(fun sv message l=>zfB (zam fuel).1 (zam fuel).2.1 (zam fuel).2.2 sv message l,fun f sv v=>zld (zam fuel).1 (zam fuel).2.1 (zam fuel).2.2 f sv v,fun sv message x=>zgD (zam fuel).1 (zam fuel).2.1 (zam fuel).2.2 sv message x)
def zgB (fuel:Nat):(List ze)->Int->(List zb)->Option Bool:=(zam fuel).1
def zji (fuel:Nat):zc->(List ze)->za->Option Bool:=(zam fuel).2.1
def zdQ (fuel:Nat):(List ze)->Int->zb->Option Bool:=(zam fuel).2.2
theorem zoj (h:zcf l message xi sv v2=some (.inl v2')):zdW l message xi sv v2=zdW l message xi sv v2':=zW (body:=fun s:Int=>zcf l message xi sv s) h
theorem zjh (h:zcf l message xi sv v2=some (.inr wC)):zdW l message xi sv v2=some wC:=zX (body:=fun s:Int=>zcf l message xi sv s) h
theorem zpx (h:zcl xd sv x x2 last v=some (.inl (last',v'))):zeT xd sv x x2 last v=zeT xd sv x x2 last' v':=zW (body:=fun s:(Int×Int)=>zcl xd sv x x2 s.1 s.2) h
theorem zjU (h:zcl xd sv x x2 last v=some (.inr wC)):zeT xd sv x x2 last v=some wC:=zX (body:=fun s:(Int×Int)=>zcl xd sv x x2 s.1 s.2) h
theorem zpy (h:zcH x x2 v3=some (.inl v3')):zeU x x2 v3=zeU x x2 v3':=zW (body:=fun s:Int=>zcH x x2 s) h
theorem zjV (h:zcH x x2 v3=some (.inr wC)):zeU x x2 v3=some wC:=zX (body:=fun s:Int=>zcH x x2 s) h
def ziN (fuel:Nat) (sv:List ze) (root:Int) (x:zb):Option Bool:=(zky sv root 0>>=fun rv=>if (rv==0) then (zkv fuel x>>=fun wu=>if wu then (zdQ fuel sv root x>>=fun wy=>some wy) else some false) else some false)>>=fun g=>some g
def zdk (xk:za->Option za) (rv:List za) (v:List za) (v2:Int):Option (((List za)×Int)⊕(List za)):=if (decide (v2<(rv.length:Int))) then (idx v v2>>=fun x2=>xk x2>>=fun wy=>idx v v2>>=fun x3=>some (.inl ((v.set (Int.toNat v2) wy),(i64.wrap (v2+1))))) else some (.inr v)
def zgC (xk:za->Option za) (rv:List za) (v:List za) (v2:Int):Option (List za):=zaB (fun s:((List za)×Int)=>zdk xk rv s.1 s.2) (v,v2)
def ziB (xj:zb->Option zb) (xk:za->Option za) (x:zb):Option zb:=zbn x.Values>>=fun rv=>zbH x.Unknown>>=fun wu=>zgC xk rv rv 0>>=fun q=>some (⟨q,wu⟩:zb)
def zbM (xj:zb->Option zb) (wy:List zb) (v2:List zb) (v3:Int):Option (((List zb)×Int)⊕(List zb)):=if (decide (v3<(wy.length:Int))) then (idx v2 v3>>=fun x=>xj x>>=fun wM=>idx v2 v3>>=fun x2=>some (.inl ((v2.set (Int.toNat v3) wM),(i64.wrap (v3+1))))) else some (.inr v2)
def zdX (xj:zb->Option zb) (wy:List zb) (v2:List zb) (v3:Int):Option (List zb):=zaB (fun s:((List zb)×Int)=>zbM xj wy s.1 s.2) (v2,v3)
def zfC (xj:zb->Option zb) (xk:za->Option za) (v:za):Option za:=zco v.Words>>=fun rv=>zbH v.Texts>>=fun wu=>zbN v.Subs>>=fun wy=>zdX xj wy wy 0>>=fun q=>some (⟨v.Number,rv,wu,q⟩:za)
def zbs:Nat->(zb->Option zb)×(za->Option za) | 0=>(fun _=>none,fun _=>none) | fuel+1=>(fun x=>ziB (zbs fuel).1 (zbs fuel).2 x,fun v=>zfC (zbs fuel).1 (zbs fuel).2 v)
def zgJ (fuel:Nat):zb->Option zb:=(zbs fuel).1
def zfr (fuel:Nat):za->Option za:=(zbs fuel).2
theorem zsp (h:zdk xk rv v v2=some (.inl (v',v2'))):zgC xk rv v v2=zgC xk rv v' v2':=zW (body:=fun s:((List za)×Int)=>zdk xk rv s.1 s.2) h
theorem zsq (h:zdk xk rv v v2=some (.inr wC)):zgC xk rv v v2=some wC:=zX (body:=fun s:((List za)×Int)=>zdk xk rv s.1 s.2) h
theorem zol (h:zbM xj wy v2 v3=some (.inl (v2',v3'))):zdX xj wy v2 v3=zdX xj wy v2' v3':=zW (body:=fun s:((List zb)×Int)=>zbM xj wy s.1 s.2) h
theorem zom (h:zbM xj wy v2 v3=some (.inr wC)):zdX xj wy v2 v3=some wC:=zX (body:=fun s:((List zb)×Int)=>zbM xj wy s.1 s.2) h
def zoi (fuel:Nat) (x:zb):Option zb:=zkv fuel x>>=fun rv=>if (!rv) then some (⟨[],[]⟩:zb) else zgJ fuel x>>=fun wu=>some wu
def zlf (xb:zb->zb->Option Bool) (xc:za->za->Option Bool) (xp:(List za)->(List za)->Option Bool) (xq:(List zb)->(List zb)->Option Bool) (av:zb) (b:zb):Option Bool:=(xp av.Values b.Values>>=fun rv=>if rv then (zbK av.Unknown b.Unknown>>=fun wu=>some wu) else some false)>>=fun g=>some g
def zgF (xb:zb->zb->Option Bool) (xc:za->za->Option Bool) (xp:(List za)->(List za)->Option Bool) (xq:(List zb)->(List zb)->Option Bool) (v:za) (wv:za):Option Bool:=(if (v.Number==wv.Number) then (zcq v.Words wv.Words>>=fun rv=>if rv then (zbK v.Texts wv.Texts>>=fun wu=>if wu then (xq v.Subs wv.Subs>>=fun wy=>some wy) else some false) else some false) else some false)>>=fun g=>some g
def zq (xc:za->za->Option Bool) (s1:List za) (s2:List za) (v:Int):Option (Int⊕(Unit⊕Unit)):=if (decide (v<(s1.length:Int))) then (idx s1 v>>=fun x=>idx s2 v>>=fun x2=>xc x x2>>=fun rv=>if (!rv) then some (.inr (.inr ())) else some (.inl (i64.wrap (v+1)))) else some (.inr (.inl ()))
def zK (xc:za->za->Option Bool) (s1:List za) (s2:List za) (v:Int):Option (Unit⊕Unit):=zaB (fun s:Int=>zq xc s1 s2 s) v
def zS (xb:zb->zb->Option Bool) (xc:za->za->Option Bool) (xp:(List za)->(List za)->Option Bool) (xq:(List zb)->(List zb)->Option Bool) (s1:List za) (s2:List za):Option Bool:=if ((s1.length:Int) !=(s2.length:Int)) then some false else (zK xc s1 s2 0>>=fun q=>match q with | .inl u=>(some true) | .inr u2=>(some false))
def zy (xb:zb->zb->Option Bool) (s1:List zb) (s2:List zb) (v:Int):Option (Int⊕(Unit⊕Unit)):=if (decide (v<(s1.length:Int))) then (idx s1 v>>=fun x=>idx s2 v>>=fun x2=>xb x x2>>=fun rv=>if (!rv) then some (.inr (.inr ())) else some (.inl (i64.wrap (v+1)))) else some (.inr (.inl ()))
def zT (xb:zb->zb->Option Bool) (s1:List zb) (s2:List zb) (v:Int):Option (Unit⊕Unit):=zaB (fun s:Int=>zy xb s1 s2 s) v
def zae (xb:zb->zb->Option Bool) (xc:za->za->Option Bool) (xp:(List za)->(List za)->Option Bool) (xq:(List zb)->(List zb)->Option Bool) (s1:List zb) (s2:List zb):Option Bool:=if ((s1.length:Int) !=(s2.length:Int)) then some false else (zT xb s1 s2 0>>=fun q=>match q with | .inl u=>(some true) | .inr u2=>(some false))
def zN:Nat->(zb->zb->Option Bool)×(za->za->Option Bool)×((List za)->(List za)->Option Bool)×((List zb)->(List zb)->Option Bool) | 0=>(fun _ _=>none,fun _ _=>none,fun _ _=>none,fun _ _=>none) | fuel+1=>(fun av b=>zlf (zN fuel).1 (zN fuel).2.1 (zN fuel).2.2.1 (zN fuel).2.2.2 av b,fun v wv=>zgF (zN fuel).1 (zN fuel).2.1 (zN fuel).2.2.1 (zN fuel).2.2.2 v wv,fun s1 s2=>zS (zN fuel).1 (zN fuel).2.1 (zN fuel).2.2.1 (zN fuel).2.2.2 s1 s2,fun s1 s2=>zae (zN fuel).1 (zN fuel).2.1 (zN fuel).2.2.1 (zN fuel).2.2.2 s1 s2)
def zgE (fuel:Nat):zb->zb->Option Bool:=(zN fuel).1
def zdR (fuel:Nat):za->za->Option Bool:=(zN fuel).2.1
def zM (fuel:Nat):(List za)->(List za)->Option Bool:=(zN fuel).2.2.1
def zY (fuel:Nat):(List zb)->(List zb)->Option Bool:=(zN fuel).2.2.2
theorem zca (h:zq xc s1 s2 v=some (.inl v')):zK xc s1 s2 v=zK xc s1 s2 v':=zW (body:=fun s:Int=>zq xc s1 s2 s) h
theorem zaM (h:zq xc s1 s2 v=some (.inr wC)):zK xc s1 s2 v=some wC:=zX (body:=fun s:Int=>zq xc s1 s2 s) h
theorem zcL (h:zy xb s1 s2 v=some (.inl v')):zT xb s1 s2 v=zT xb s1 s2 v':=zW (body:=fun s:Int=>zy xb s1 s2 s) h
theorem zbd (h:zy xb s1 s2 v=some (.inr wC)):zT xb s1 s2 v=some wC:=zX (body:=fun s:Int=>zy xb s1 s2 s) h
def zlT (fuel:Nat) (av:zb) (b:zb):Option Bool:=(zkv fuel av>>=fun rv=>if rv then (zgE fuel av b>>=fun wu=>some wu) else some false)>>=fun g=>some g
def zhA (fuel:Nat) (x:zb) (v:List ze) (v2:Int):Option Bool:=ziN fuel v v2 x>>=fun rv=>some (!rv)
def zP (fuel:Nat) (sv:List zb) (v:List ze) (v2:Int) (v3:Int):Option (Int⊕(Unit⊕Int)):=if (decide (v3<(sv.length:Int))) then (idx sv v3>>=fun x=>zhA fuel x v v2>>=fun rv=>if rv then some (.inr (.inr v3)) else some (.inl (i64.wrap (v3+1)))) else some (.inr (.inl ()))
def zH (fuel:Nat) (sv:List zb) (v:List ze) (v2:Int) (v3:Int):Option (Unit⊕Int):=zaB (fun s:Int=>zP fuel sv v v2 s) v3
def zaO (fuel:Nat) (sv:List zb) (v:List ze) (v2:Int):Option Int:=zH fuel sv v v2 0>>=fun q=>match q with | .inl u=>(some (-1)) | .inr u2=>(some u2)
theorem zee (h:zP fuel sv v v2 v3=some (.inl v3')):zH fuel sv v v2 v3=zH fuel sv v v2 v3':=zW (body:=fun s:Int=>zP fuel sv v v2 s) h
theorem zbZ (h:zP fuel sv v v2 v3=some (.inr wC)):zH fuel sv v v2 v3=some wC:=zX (body:=fun s:Int=>zP fuel sv v v2 s) h
def zar (fuel:Nat) (sv:List zb) (v:List ze) (v2:Int):Option Bool:=zaO fuel sv v v2>>=fun rv=>some (decide (rv>=0))
def zjw (fuel:Nat) (sv:List ze) (root:Int) (l:List zb):Option Int:=zar fuel l sv root>>=fun rv=>if (!rv) then some 0 else (zgU sv>>=fun wu=>if (!wu) then some 9 else (if ((decide (root<0))|| (decide (root>=(sv.length:Int)))) then some 2 else some 12))
def zcc (x:zb) (wH:List (Int×za)) (v:Int):Option (((List (Int×za))×Int)⊕(List (Int×za))):=if (decide (v<(x.Values.length:Int))) then (idx x.Values v>>=fun x2=>some (.inl ((mput wH x2.Number x2),(i64.wrap (v+1))))) else some (.inr wH)
def zdS (x:zb) (wH:List (Int×za)) (v:Int):Option (List (Int×za)):=zaB (fun s:((List (Int×za))×Int)=>zcc x s.1 s.2) (wH,v)
def zgq (x:zb):Option (List (Int×za)):=zdS x ([]:List (Int×za)) 0>>=fun q=>some q
theorem znC (h:zcc x wH v=some (.inl (values',v'))):zdS x wH v=zdS x values' v':=zW (body:=fun s:((List (Int×za))×Int)=>zcc x s.1 s.2) h
theorem znD (h:zcc x wH v=some (.inr wC)):zdS x wH v=some wC:=zX (body:=fun s:((List (Int×za))×Int)=>zcc x s.1 s.2) h
def zhi (v:za):Option zb:=if ((v.Subs.length:Int)==0) then some (⟨[],[]⟩:zb) else idx v.Subs 0>>=fun x=>some x
def zis (m:ze) (number:Int):Option zc:=zdn m number>>=fun rv=>idx m.Fields rv.1>>=fun x=>some x
def zkz (number:Int) (x:zb):Option za:=some (⟨number,[],[],([x]:List zb)⟩:za)
def zcu (v2:List Int) (wH:List (Int×za)) (l:List za) (v3:Int):Option (((List za)×Int)⊕(List za)):=if (decide (v3<(v2.length:Int))) then (idx v2 v3>>=fun x=>app 80 l ([((mget wH x).getD (⟨0,[],[],[]⟩:za))]:List za)>>=fun v4=>some (.inl (v4,(i64.wrap (v3+1))))) else some (.inr l)
def zel (v2:List Int) (wH:List (Int×za)) (l:List za) (v3:Int):Option (List za):=zaB (fun s:((List za)×Int)=>zcu v2 wH s.1 s.2) (l,v3)
def zgY (wH:List (Int×za)):Option (List za):=mkO 80 ((⟨0,[],[],[]⟩:za):za) 0 (wH.length:Int)>>=fun v=>zpT wH>>=fun v2=>zel v2 wH v 0>>=fun q=>some q
theorem zox (h:zcu v2 wH l v3=some (.inl (l',v3'))):zel v2 wH l v3=zel v2 wH l' v3':=zW (body:=fun s:((List za)×Int)=>zcu v2 wH s.1 s.2) h
theorem zoy (h:zcu v2 wH l v3=some (.inr wC)):zel v2 wH l v3=some wC:=zX (body:=fun s:((List za)×Int)=>zcu v2 wH s.1 s.2) h
def zdm (b:zb) (message:Int) (xn:(List ze)->zc->za->za->Option za) (sv:List ze) (wH:List (Int×za)) (v:Int):Option (((List (Int×za))×Int)⊕(List (Int×za))):=if (decide (v<(b.Values.length:Int))) then (idx b.Values v>>=fun x=>if (mget wH x.Number).isSome then (idx sv message>>=fun x2=>zis x2 x.Number>>=fun wu=>xn sv wu (⟨((mget wH x.Number).getD (⟨0,[],[],[]⟩:za)).Number,((mget wH x.Number).getD (⟨0,[],[],[]⟩:za)).Words,((mget wH x.Number).getD (⟨0,[],[],[]⟩:za)).Texts,((mget wH x.Number).getD (⟨0,[],[],[]⟩:za)).Subs⟩:za) x>>=fun wy=>some (.inl ((mput wH wy.Number wy),(i64.wrap (v+1))))) else some (.inl ((mput wH x.Number x),(i64.wrap (v+1))))) else some (.inr wH)
def zfK (b:zb) (message:Int) (xn:(List ze)->zc->za->za->Option za) (sv:List ze) (wH:List (Int×za)) (v:Int):Option (List (Int×za)):=zaB (fun s:((List (Int×za))×Int)=>zdm b message xn sv s.1 s.2) (wH,v)
def zhC (xw:(List ze)->Int->zb->zb->Option zb) (xn:(List ze)->zc->za->za->Option za) (sv:List ze) (message:Int) (av:zb) (b:zb):Option zb:=zgq av>>=fun rv=>zfK b message xn sv rv 0>>=fun q=>zgY q>>=fun wM=>zby ([av.Unknown,b.Unknown]:List (List Str))>>=fun rv5=>some (⟨wM,rv5⟩:zb)
def zeD (xw:(List ze)->Int->zb->zb->Option zb) (xn:(List ze)->zc->za->za->Option za) (sv:List ze) (f:zc) (v:za) (wv:za):Option za:=if f.Repeated then (zci ([v.Words,wv.Words]:List (List Int))>>=fun rv=>zby ([v.Texts,wv.Texts]:List (List Str))>>=fun wu=>zbC ([v.Subs,wv.Subs]:List (List zb))>>=fun wy=>some (⟨f.Number,rv,wu,wy⟩:za)) else (if (f.Kind==17) then (zhi v>>=fun wM=>zhi wv>>=fun rv5=>xw sv f.Of wM rv5>>=fun rv6=>zkz f.Number rv6>>=fun rv7=>some (⟨rv7.Number,[],[],rv7.Subs⟩:za)) else (some wv))
def zba:Nat->((List ze)->Int->zb->zb->Option zb)×((List ze)->zc->za->za->Option za) | 0=>(fun _ _ _ _=>none,fun _ _ _ _=>none) | fuel+1=>(fun sv message av b=>zhC (zba fuel).1 (zba fuel).2 sv message av b,fun sv f v wv=>zeD (zba fuel).1 (zba fuel).2 sv f v wv)
def zhS (fuel:Nat):(List ze)->Int->zb->zb->Option zb:=(zba fuel).1
def zft (fuel:Nat):(List ze)->zc->za->za->Option za:=(zba fuel).2
theorem zrs (h:zdm b message xn sv wH v=some (.inl (values',v'))):zfK b message xn sv wH v=zfK b message xn sv values' v':=zW (body:=fun s:((List (Int×za))×Int)=>zdm b message xn sv s.1 s.2) h
theorem zrt (h:zdm b message xn sv wH v=some (.inr wC)):zfK b message xn sv wH v=some wC:=zX (body:=fun s:((List (Int×za))×Int)=>zdm b message xn sv s.1 s.2) h
def zjv (fuel:Nat) (sv:List ze) (root:Int) (av:zb) (b:zb):Option (zb×Int):=zjw fuel sv root ([av,b]:List zb)>>=fun rv=>if (rv !=0) then some ((⟨[],[]⟩:zb),rv) else zhS fuel sv root av b>>=fun wu=>zoi fuel wu>>=fun wy=>some (wy,0)
def zkc (fuel:Nat) (sv:List ze) (root:Int) (x:zb):Option Int:=ziN fuel sv root x>>=fun rv=>if rv then some 0 else (zgU sv>>=fun wu=>if (!wu) then some 9 else (if ((decide (root<0))|| (decide (root>=(sv.length:Int)))) then some 2 else some 12))
def zmb (k:Int):Option Int:=zjg k 0>>=fun rv=>if (rv==4) then some 5 else if (rv==8) then some 1 else some 0
def zma (number:Int) (size:Int):Option (List UInt8):=zmt ([]:List UInt8) number ([]:List UInt8)>>=fun rv=>zkt 4 (u64.wrap size)>>=fun wu=>cut rv 0 (i64.wrap ((rv.length:Int) - 1))>>=fun v=>app 1 v wu.1>>=fun v2=>some v2
def zcv (wv:zk) (b:List UInt8):Option zk:=app 24 wv.pieces ([b]:List (List UInt8))>>=fun v=>some (⟨v,(i64.wrap (wv.size+(b.length:Int)))⟩:zk)
def zcE (wv:zk) (number:Int) (wire:Int) (value:List UInt8):Option zk:=zkp ([]:List UInt8) number wire value>>=fun rv=>zcv wv rv.1>>=fun wu=>some wu
def zfv (wv:zk) (f:zc) (l:List Int):Option zk:=zqp f.Kind l>>=fun rv=>if f.Repeated then (zcE wv f.Number 2 rv.1>>=fun wu=>some wu) else zmb f.Kind>>=fun wy=>zcE wv f.Number wy rv.1>>=fun wM=>some wM
def zbk (xf:zk->(List ze)->zc->za->Option zk) (sv:List ze) (x:zb) (x2:ze) (v:Int) (f:List (List UInt8)) (f2:Int):Option ((Int×(List (List UInt8))×Int)⊕((List (List UInt8))×Int)):=if (decide (v<(x.Values.length:Int))) then (idx x.Values v>>=fun x3=>zdn x2 x3.Number>>=fun rv=>idx x2.Fields rv.1>>=fun x4=>xf (⟨f,f2⟩:zk) sv x4 x3>>=fun wu=>some (.inl ((i64.wrap (v+1)),wu.pieces,wu.size))) else some (.inr (f,f2))
def zcI (xf:zk->(List ze)->zc->za->Option zk) (sv:List ze) (x:zb) (x2:ze) (v:Int) (f:List (List UInt8)) (f2:Int):Option ((List (List UInt8))×Int):=zaB (fun s:(Int×(List (List UInt8))×Int)=>zbk xf sv x x2 s.1 s.2.1 s.2.2) (v,f,f2)
def zbl (x:zb) (v2:Int) (f5:List (List UInt8)) (f6:Int):Option ((Int×(List (List UInt8))×Int)⊕((List (List UInt8))×Int)):=if (decide (v2<(x.Unknown.length:Int))) then (idx x.Unknown v2>>=fun x5=>lenO x5>>=fun v3=>zcv (⟨f5,f6⟩:zk) v3>>=fun wy=>some (.inl ((i64.wrap (v2+1)),wy.pieces,wy.size))) else some (.inr (f5,f6))
def zcJ (x:zb) (v2:Int) (f5:List (List UInt8)) (f6:Int):Option ((List (List UInt8))×Int):=zaB (fun s:(Int×(List (List UInt8))×Int)=>zbl x s.1 s.2.1 s.2.2) (v2,f5,f6)
def zdF (xt:zk->(List ze)->Int->zb->Option zk) (xe:zk->(List ze)->zc->zb->Option zk) (xf:zk->(List ze)->zc->za->Option zk) (wv:zk) (sv:List ze) (message:Int) (x:zb):Option zk:=idx sv message>>=fun x2=>zcI xf sv x x2 0 wv.pieces wv.size>>=fun q=>zcJ x 0 q.1 q.2>>=fun q2=>some (⟨q2.1,q2.2⟩:zk)
def zfu (xt:zk->(List ze)->Int->zb->Option zk) (xe:zk->(List ze)->zc->zb->Option zk) (xf:zk->(List ze)->zc->za->Option zk) (wv:zk) (sv:List ze) (f:zc) (x:zb):Option zk:=zcv wv ([]:List UInt8)>>=fun rv=>xt rv sv f.Of x>>=fun wu=>zma f.Number (i64.wrap (wu.size - wv.size))>>=fun wy=>idx wu.pieces (wv.pieces.length:Int)>>=fun x2=>idx (wu.pieces.set (Int.toNat (wv.pieces.length:Int)) wy) (wv.pieces.length:Int)>>=fun x3=>some (⟨(wu.pieces.set (Int.toNat (wv.pieces.length:Int)) wy),(i64.wrap (wu.size+(x3.length:Int)))⟩:zk)
def zbE (f:zc) (v:za) (v2:Int) (f4:List (List UInt8)) (f5:Int):Option ((Int×(List (List UInt8))×Int)⊕((List (List UInt8))×Int)):=if (decide (v2<(v.Texts.length:Int))) then (idx v.Texts v2>>=fun x=>lenO x>>=fun v3=>zcE (⟨f4,f5⟩:zk) f.Number 2 v3>>=fun wu=>some (.inl ((i64.wrap (v2+1)),wu.pieces,wu.size))) else some (.inr (f4,f5))
def zdb (f:zc) (v:za) (v2:Int) (f4:List (List UInt8)) (f5:Int):Option ((List (List UInt8))×Int):=zaB (fun s:(Int×(List (List UInt8))×Int)=>zbE f v s.1 s.2.1 s.2.2) (v2,f4,f5)
def zbF (f:zc) (xe:zk->(List ze)->zc->zb->Option zk) (sv:List ze) (v:za) (v4:Int) (f8:List (List UInt8)) (f9:Int):Option ((Int×(List (List UInt8))×Int)⊕((List (List UInt8))×Int)):=if (decide (v4<(v.Subs.length:Int))) then (idx v.Subs v4>>=fun x2=>xe (⟨f8,f9⟩:zk) sv f x2>>=fun wy=>some (.inl ((i64.wrap (v4+1)),wy.pieces,wy.size))) else some (.inr (f8,f9))
def zdc (f:zc) (xe:zk->(List ze)->zc->zb->Option zk) (sv:List ze) (v:za) (v4:Int) (f8:List (List UInt8)) (f9:Int):Option ((List (List UInt8))×Int):=zaB (fun s:(Int×(List (List UInt8))×Int)=>zbF f xe sv v s.1 s.2.1 s.2.2) (v4,f8,f9)
def zeE (xt:zk->(List ze)->Int->zb->Option zk) (xe:zk->(List ze)->zc->zb->Option zk) (xf:zk->(List ze)->zc->za->Option zk) (wv:zk) (sv:List ze) (f:zc) (v:za):Option zk:=((if (decide ((v.Words.length:Int)>0)) then (zfv wv f v.Words>>=fun rv=>some (rv.pieces,rv.size)) else (some (wv.pieces,wv.size)) :Option ((List (List UInt8))×Int)))>>=fun p=>zdb f v 0 p.1 p.2>>=fun q=>zdc f xe sv v 0 q.1 q.2>>=fun q2=>some (⟨q2.1,q2.2⟩:zk)
def zQ:Nat->(zk->(List ze)->Int->zb->Option zk)×(zk->(List ze)->zc->zb->Option zk)×(zk->(List ze)->zc->za->Option zk) | 0=>(fun _ _ _ _=>none,fun _ _ _ _=>none,fun _ _ _ _=>none) | fuel+1=>(fun wv sv message x=>zdF (zQ fuel).1 (zQ fuel).2.1 (zQ fuel).2.2 wv sv message x,fun wv sv f x=>zfu (zQ fuel).1 (zQ fuel).2.1 (zQ fuel).2.2 wv sv f x,fun wv sv f v=>zeE (zQ fuel).1 (zQ fuel).2.1 (zQ fuel).2.2 wv sv f v)
def zbU (fuel:Nat):zk->(List ze)->Int->zb->Option zk:=(zQ fuel).1
def zen (fuel:Nat):zk->(List ze)->zc->zb->Option zk:=(zQ fuel).2.1
def zdq (fuel:Nat):zk->(List ze)->zc->za->Option zk:=(zQ fuel).2.2
theorem zlw {xf:zk->(List ze)->zc->za->Option zk} {sv:List ze} {x:zb} {x2:ze} {v:Int} {f:List (List UInt8)} {f2:Int} {v':Int} {f':List (List UInt8)} {f2':Int} (h:zbk xf sv x x2 v f f2=some (.inl (v',f',f2'))):zcI xf sv x x2 v f f2=zcI xf sv x x2 v' f' f2':=zW (body:=fun s:(Int×(List (List UInt8))×Int)=>zbk xf sv x x2 s.1 s.2.1 s.2.2) h
theorem zlx {xf:zk->(List ze)->zc->za->Option zk} {sv:List ze} {x:zb} {x2:ze} {v:Int} {f:List (List UInt8)} {f2:Int} {wC:((List (List UInt8))×Int)} (h:zbk xf sv x x2 v f f2=some (.inr wC)):zcI xf sv x x2 v f f2=some wC:=zX (body:=fun s:(Int×(List (List UInt8))×Int)=>zbk xf sv x x2 s.1 s.2.1 s.2.2) h
theorem zly {x:zb} {v2:Int} {f5:List (List UInt8)} {f6:Int} {v2':Int} {f5':List (List UInt8)} {f6':Int} (h:zbl x v2 f5 f6=some (.inl (v2',f5',f6'))):zcJ x v2 f5 f6=zcJ x v2' f5' f6':=zW (body:=fun s:(Int×(List (List UInt8))×Int)=>zbl x s.1 s.2.1 s.2.2) h
theorem zlz {x:zb} {v2:Int} {f5:List (List UInt8)} {f6:Int} {wC:((List (List UInt8))×Int)} (h:zbl x v2 f5 f6=some (.inr wC)):zcJ x v2 f5 f6=some wC:=zX (body:=fun s:(Int×(List (List UInt8))×Int)=>zbl x s.1 s.2.1 s.2.2) h
theorem zmJ {f:zc} {v:za} {v2:Int} {f4:List (List UInt8)} {f5:Int} {v2':Int} {f4':List (List UInt8)} {f5':Int} (h:zbE f v v2 f4 f5=some (.inl (v2',f4',f5'))):zdb f v v2 f4 f5=zdb f v v2' f4' f5':=zW (body:=fun s:(Int×(List (List UInt8))×Int)=>zbE f v s.1 s.2.1 s.2.2) h
theorem zmK {f:zc} {v:za} {v2:Int} {f4:List (List UInt8)} {f5:Int} {wC:((List (List UInt8))×Int)} (h:zbE f v v2 f4 f5=some (.inr wC)):zdb f v v2 f4 f5=some wC:=zX (body:=fun s:(Int×(List (List UInt8))×Int)=>zbE f v s.1 s.2.1 s.2.2) h
theorem zmL {f:zc} {xe:zk->(List ze)->zc->zb->Option zk} {sv:List ze} {v:za} {v4:Int} {f8:List (List UInt8)} {f9:Int} {v4':Int} {f8':List (List UInt8)} {f9':Int} (h:zbF f xe sv v v4 f8 f9=some (.inl (v4',f8',f9'))):zdc f xe sv v v4 f8 f9=zdc f xe sv v v4' f8' f9':=zW (body:=fun s:(Int×(List (List UInt8))×Int)=>zbF f xe sv v s.1 s.2.1 s.2.2) h
theorem zmM {f:zc} {xe:zk->(List ze)->zc->zb->Option zk} {sv:List ze} {v:za} {v4:Int} {f8:List (List UInt8)} {f9:Int} {wC:((List (List UInt8))×Int)} (h:zbF f xe sv v v4 f8 f9=some (.inr wC)):zdc f xe sv v v4 f8 f9=some wC:=zX (body:=fun s:(Int×(List (List UInt8))×Int)=>zbF f xe sv v s.1 s.2.1 s.2.2) h
def zgM (wv:Option zk):Option (List UInt8):=wv>>=fun x=>zaK x.pieces>>=fun rv=>some rv
def zgL (fuel:Nat) (sv:List ze) (root:Int) (x:zb):Option ((List UInt8)×Int):=zkc fuel sv root x>>=fun rv=>if (rv !=0) then some ([],rv) else zbU fuel (⟨[],0⟩:zk) sv root x>>=fun wu=>zgM (some wu)>>=fun wy=>some (wy,0)
def zlZ (fuel:Nat) (sv:List ze) (root:Int) (x:zb):Option (Int×Int):=zkc fuel sv root x>>=fun rv=>if (rv !=0) then some (0,rv) else zbU fuel (⟨[],0⟩:zk) sv root x>>=fun wu=>some (wu.size,0)
def zfw (fuel:Nat):Option Bool:=zgL fuel ([(⟨[109],([(⟨[97],1,3,true,false,0⟩:zc)]:List zc)⟩:ze)]:List ze) 0 (⟨([(⟨1,([1,300]:List Int),[],[]⟩:za)]:List za),[]⟩:zb)>>=fun rv=>(if ((i64.wrap rv.2)==0) then (zhx rv.1 ([(10:UInt8),(3:UInt8),(1:UInt8),(172:UInt8),(2:UInt8)]:List UInt8)>>=fun wu=>some wu) else some false)>>=fun g=>some g
def zdu (fuel:Nat) (sv:List ze) (root:Int) (x:zb) (y:zb):Option Bool:=zfw fuel>>=fun rv=>if (!rv) then some false else ((zgw sv>>=fun wu=>if (!wu) then some true else zbz fuel x 70>>=fun wy=>if (decide (wy>1500)) then some true else zbz fuel y 70>>=fun wM=>if (decide (wM>1500)) then some true else zhM fuel x>>=fun rv5=>if (decide (rv5>64)) then some true else zhM fuel y>>=fun rv6=>some (decide (rv6>64)))>>=fun g=>if g then some true else (zgL fuel sv root x>>=fun rv7=>zgL fuel sv root y>>=fun rv8=>if (((i64.wrap rv7.2) !=0)|| ((i64.wrap rv8.2) !=0)) then some true else zjv fuel sv root x y>>=fun rv9=>zlZ fuel sv root rv9.1>>=fun rv10=>app 1 ([]:List UInt8) rv7.1>>=fun v3=>app 1 v3 rv8.1>>=fun v4=>ztx fuel sv root v4 64>>=fun rv11=>(if ((i64.wrap ((i64.wrap ((i64.wrap rv9.2)+(i64.wrap rv10.2)))+(i64.wrap rv11.2)))==0) then (if (decide (rv10.1<=(i64.wrap ((rv7.1.length:Int)+(rv8.1.length:Int))))) then (zlT fuel rv11.1 rv9.1>>=fun rv12=>some rv12) else some false) else some false)>>=fun g2=>some g2))
end
end Go.Proofs.YtkgohoggipdokaaGreat
