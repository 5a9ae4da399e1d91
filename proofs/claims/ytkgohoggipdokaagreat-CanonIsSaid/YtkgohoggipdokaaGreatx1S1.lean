/-
  What the Go functions do, as plain functions. No condition.
-/
import Derived.Test.YtkgohoggipdokaaGreatx1K2
set_option autoImplicit true
set_option relaxedAutoImplicit true
namespace Go.Proofs.YtkgohoggipdokaaGreat
open Go.IntKind (i32 i64 u32 u64 u8)
open Go
set_option linter.unusedVariables false
abbrev Str:=List UInt8
structure zOK where
  a0:Str
  a1:Str
  a2:Str
  a3:Str
  a4:Str
  a5:Str
  a6:Str
  a7:Str
  a8:Str
  a9:Str
  a10:Str
  a11:Str
  a12:Str
  a13:Str
  a14:Str deriving DecidableEq
structure zn where
  Number:Int
  Wire:Int
  From:Int
  At:Int
  To:Int deriving DecidableEq
def zH:Rp zn:=⟨5,true,fun x=>[.int .i64 x.Number,.int .i64 x.Wire,.int .i64 x.From,.int .i64 x.At,.int .i64 x.To],fun _=>rfl,by decide⟩
structure zf where
  Record:zn
  Field:Int
  Run:Bool deriving DecidableEq
def zh:Rp zf:=⟨7,true,fun x=>[.int .i64 x.Record.Number,.int .i64 x.Record.Wire,.int .i64 x.Record.From,.int .i64 x.Record.At,.int .i64 x.Record.To,.int .i64 x.Field,.bool x.Run],fun _=>rfl,by decide⟩
structure zt where
  name:Str
  wire:Int deriving DecidableEq
def zaJ:Rp zt:=⟨2,true,fun x=>[.str x.name,.int .i64 x.wire],fun _=>rfl,by decide⟩
mutual
structure zd where
  Values:(List zb)
  Unknown:(List Str)
structure zb where
  Number:Int
  Words:(List Int)
  Texts:(List Str)
  Subs:(List zd)
end
mutual
def zhV:zd->List LV | ⟨x0,x1⟩=>[.sl x0.length 4 (zdM x0),.sl x1.length Rp.str.size (x1.flatMap Rp.str.lv)]
def zhv:List zd->List LV | []=>[] | x::l=>zhV x++zhv l
def zdV:zb->List LV | ⟨x0,x1,x2,x3⟩=>[.int .i64 x0,.sl x1.length (Rp.int .u64).size (x1.flatMap (Rp.int .u64).lv),.sl x2.length Rp.str.size (x2.flatMap Rp.str.lv),.sl x3.length 2 (zhv x3)]
def zdM:List zb->List LV | []=>[] | x::l=>zdV x++zdM l
end
theorem zsS (l:List zd):zhv l=l.flatMap zhV:=by
  induction l with
  | nil=>rfl
  | cons x l ih=>rw [zhv,ih,xU]
def zm:Rp zd:=⟨2,true,zhV,fun x=>by cases x;rfl,by decide⟩
theorem zlJ (l:List zb):zdM l=l.flatMap zdV:=by
  induction l with
  | nil=>rfl
  | cons x l ih=>rw [zdM,ih,xU]
def zj:Rp zb:=⟨4,true,zdV,fun x=>by cases x;rfl,by decide⟩
theorem zbb (x:zd):zm.lv x=[.sl x.Values.length zj.size (x.Values.flatMap zj.lv),.sl x.Unknown.length Rp.str.size (x.Unknown.flatMap Rp.str.lv)]:=by
  cases x;simp only [zm,zhV,zlJ,zj]<;>rfl
theorem zaa (x:zb):zj.lv x=[.int .i64 x.Number,.sl x.Words.length (Rp.int .u64).size (x.Words.flatMap (Rp.int .u64).lv),.sl x.Texts.length Rp.str.size (x.Texts.flatMap Rp.str.lv),.sl x.Subs.length zm.size (x.Subs.flatMap zm.lv)]:=by
  cases x;simp only [zj,zdV,zsS,zm]<;>rfl
structure za where
  Name:Str
  Number:Int
  Kind:Int
  Repeated:Bool
  Packed:Bool
  Of:Int deriving DecidableEq
def ze:Rp za:=⟨6,true,fun x=>[.str x.Name,.int .i64 x.Number,.int .i64 x.Kind,.bool x.Repeated,.bool x.Packed,.int .i64 x.Of],fun _=>rfl,by decide⟩
structure zc where
  Name:Str
  Fields:(List za) deriving DecidableEq
def zg:Rp zc:=⟨2,true,fun x=>[.str x.Name,.sl x.Fields.length ze.size (x.Fields.flatMap ze.lv)],fun _=>rfl,by decide⟩
structure zao where
  Number:Int
  Wire:Int deriving DecidableEq
def zcq:Rp zao:=⟨2,true,fun x=>[.int .i64 x.Number,.int .i64 x.Wire],fun _=>rfl,by decide⟩
structure zu where
  message:Int
  name:Str deriving DecidableEq
def zO:Rp zu:=⟨2,true,fun x=>[.int .i64 x.message,.str x.name],fun _=>rfl,by decide⟩
structure zw where
  message:Int
  number:Int deriving DecidableEq
def zP:Rp zw:=⟨2,true,fun x=>[.int .i64 x.message,.int .i64 x.number],fun _=>rfl,by decide⟩
structure zaS where
  size:Int
  kinds:(List Int)
  names:(List (zu×Bool))
  numbers:(List (zw×Bool))
structure zaR where
  Message:Int
  Field:Int
  What:Int deriving DecidableEq
def zeJ:Rp zaR:=⟨3,true,fun x=>[.int .i64 x.Message,.int .i64 x.Field,.int .i64 x.What],fun _=>rfl,by decide⟩
structure zU where
  number:Int
  wire:Int deriving DecidableEq
def zak:Rp zU:=⟨2,true,fun x=>[.int .i64 x.number,.int .i64 x.wire],fun _=>rfl,by decide⟩
structure zX where
  field:Int
  run:Bool
  e:Int deriving DecidableEq
def zan:Rp zX:=⟨3,true,fun x=>[.int .i64 x.field,.bool x.run,.int .u8 x.e],fun _=>rfl,by decide⟩
structure zM where
  R:zn
  Field:Int
  Run:Bool deriving DecidableEq
def zaK:Rp zM:=⟨7,true,fun x=>[.int .i64 x.R.Number,.int .i64 x.R.Wire,.int .i64 x.R.From,.int .i64 x.R.At,.int .i64 x.R.To,.int .i64 x.Field,.bool x.Run],fun _=>rfl,by decide⟩
structure zk where
  message:Int
  number:Int
  wire:Int deriving DecidableEq
def zo:Rp zk:=⟨3,true,fun x=>[.int .i64 x.message,.int .i64 x.number,.int .i64 x.wire],fun _=>rfl,by decide⟩
structure zay where
  s:(List zc)
  b:(List UInt8)
  met:(List (zk×zf))
structure zA where
  depth:Int
  place:Int
  e:Int deriving DecidableEq
def zaG:Rp zA:=⟨3,true,fun x=>[.int .i64 x.depth,.int .i64 x.place,.int .u8 x.e],fun _=>rfl,by decide⟩
structure zNa where
  a0:Int
  a1:Int deriving DecidableEq
structure zi where
  pieces:(List (List UInt8))
  size:Int deriving DecidableEq
def zgF:Rp zi:=⟨2,true,fun x=>[.sl x.pieces.length (Rp.list Rp.byte).size (x.pieces.flatMap (Rp.list Rp.byte).lv),.int .i64 x.size],fun _=>rfl,by decide⟩
noncomputable section
def zdq (n:Int):Option (List UInt8):=if (decide (n<0)) then none else if (decide ((i64.wrap (n - (i64.wrap (0 - 0))))>0)) then (mkO 1 (0:UInt8) (i64.wrap (n - (i64.wrap (0 - 0)))) (i64.wrap (n - (i64.wrap (0 - 0))))>>=fun v=>cut v 0 0>>=fun v2=>some v2) else some []
def zau (kD:List (List UInt8)) (size:Int) (v:Int):Option ((Int×Int)⊕Int):=if (decide (v<(kD.length:Int))) then (idx kD v>>=fun x=>if (decide ((i64.wrap (size+(x.length:Int)))<0)) then none else some (.inl ((i64.wrap (size+(x.length:Int))),(i64.wrap (v+1))))) else some (.inr size)
def zby (kD:List (List UInt8)) (size:Int) (v:Int):Option Int:=zaf (fun s:(Int×Int)=>zau kD s.1 s.2) (size,v)
def zav (kD:List (List UInt8)) (kJ:List UInt8) (v2:Int):Option (((List UInt8)×Int)⊕(List UInt8)):=if (decide (v2<(kD.length:Int))) then (idx kD v2>>=fun x2=>app 1 kJ x2>>=fun v3=>some (.inl (v3,(i64.wrap (v2+1))))) else some (.inr kJ)
def zbz (kD:List (List UInt8)) (kJ:List UInt8) (v2:Int):Option (List UInt8):=zaf (fun s:((List UInt8)×Int)=>zav kD s.1 s.2) (kJ,v2)
def zaz (kD:List (List UInt8)):Option (List UInt8):=zby kD 0 0>>=fun q=>zdq q>>=fun rv=>zbz kD rv 0>>=fun q2=>some q2
theorem zjq (h:zau kD size v=some (.inl (size',v'))):zby kD size v=zby kD size' v':=zF (body:=fun s:(Int×Int)=>zau kD s.1 s.2) h
theorem zjr (h:zau kD size v=some (.inr kc)):zby kD size v=some kc:=zG (body:=fun s:(Int×Int)=>zau kD s.1 s.2) h
theorem zjs (h:zav kD kJ v2=some (.inl (newslice',v2'))):zbz kD kJ v2=zbz kD newslice' v2':=zF (body:=fun s:((List UInt8)×Int)=>zav kD s.1 s.2) h
theorem zjt (h:zav kD kJ v2=some (.inr kc)):zbz kD kJ v2=some kc:=zG (body:=fun s:((List UInt8)×Int)=>zav kD s.1 s.2) h
def zaI (sv:List Int) (v:Int) (v2:Int):Option (Int⊕(Unit⊕Int)):=if (decide (v2<(sv.length:Int))) then (idx sv v2>>=fun x=>if (v==x) then some (.inr (.inr v2)) else some (.inl (i64.wrap (v2+1)))) else some (.inr (.inl ()))
def zcc (sv:List Int) (v:Int) (v2:Int):Option (Unit⊕Int):=zaf (fun s:Int=>zaI sv v s) v2
def zdK (sv:List Int) (v:Int):Option Int:=zcc sv v 0>>=fun q=>match q with | .inl u=>(some (-1)) | .inr u2=>(some u2)
theorem zkx (h:zaI sv v v2=some (.inl v2')):zcc sv v v2=zcc sv v v2':=zF (body:=fun s:Int=>zaI sv v s) h
theorem zhf (h:zaI sv v v2=some (.inr kc)):zcc sv v v2=some kc:=zG (body:=fun s:Int=>zaI sv v s) h
def zcI (sv:List Int) (v:Int):Option Bool:=zdK sv v>>=fun rv=>some (decide (rv>=0))
def zax (s1:List Int) (s2:List Int) (v:Int):Option (Int⊕(Unit⊕Unit)):=if (decide (v<(s1.length:Int))) then (idx s1 v>>=fun x=>idx s2 v>>=fun x2=>if (x !=x2) then some (.inr (.inr ())) else some (.inl (i64.wrap (v+1)))) else some (.inr (.inl ()))
def zaY (s1:List Int) (s2:List Int) (v:Int):Option (Unit⊕Unit):=zaf (fun s:Int=>zax s1 s2 s) v
def zeP (s1:List Int) (s2:List Int):Option Bool:=if ((s1.length:Int) !=(s2.length:Int)) then some false else (zaY s1 s2 0>>=fun q=>match q with | .inl u=>(some true) | .inr u2=>(some false))
theorem ziG (h:zax s1 s2 v=some (.inl v')):zaY s1 s2 v=zaY s1 s2 v':=zF (body:=fun s:Int=>zax s1 s2 s) h
theorem zfj (h:zax s1 s2 v=some (.inr kc)):zaY s1 s2 v=some kc:=zG (body:=fun s:Int=>zax s1 s2 s) h
def zaw (s1:List Str) (s2:List Str) (v:Int):Option (Int⊕(Unit⊕Unit)):=if (decide (v<(s1.length:Int))) then (idx s1 v>>=fun x=>idx s2 v>>=fun x2=>if (!(x==x2)) then some (.inr (.inr ())) else some (.inl (i64.wrap (v+1)))) else some (.inr (.inl ()))
def zaX (s1:List Str) (s2:List Str) (v:Int):Option (Unit⊕Unit):=zaf (fun s:Int=>zaw s1 s2 s) v
def zdd (s1:List Str) (s2:List Str):Option Bool:=if ((s1.length:Int) !=(s2.length:Int)) then some false else (zaX s1 s2 0>>=fun q=>match q with | .inl u=>(some true) | .inr u2=>(some false))
theorem ziF (h:zaw s1 s2 v=some (.inl v')):zaX s1 s2 v=zaX s1 s2 v':=zF (body:=fun s:Int=>zaw s1 s2 s) h
theorem zfi (h:zaw s1 s2 v=some (.inr kc)):zaX s1 s2 v=some kc:=zG (body:=fun s:Int=>zaw s1 s2 s) h
def znq (av:List UInt8) (b:List UInt8):Option Bool:=some (av==b)
def zgl (wv2:Int) (n:Int):Option ((Int×Int)⊕Int):=if (wv2 !=0) then some (.inl ((shrI .u64 wv2 7),(i64.wrap (n+1)))) else some (.inr n)
def ziY (wv2:Int) (n:Int):Option Int:=zaf (fun s:(Int×Int)=>zgl s.1 s.2) (wv2,n)
def zoi (wv:Int):Option Int:=ziY (shrI .u64 wv 7) 1>>=fun q=>some q
theorem zwe (h:zgl wv2 n=some (.inl (wv2',n'))):ziY wv2 n=ziY wv2' n':=zF (body:=fun s:(Int×Int)=>zgl s.1 s.2) h
theorem zwf (h:zgl wv2 n=some (.inr kc)):ziY wv2 n=some kc:=zG (body:=fun s:(Int×Int)=>zgl s.1 s.2) h
def zdo (v:List UInt8) (wv:Int) (b:List UInt8) (v2:Int):Option (((List UInt8)×Int)⊕(List UInt8)):=if (decide (v2<(v.length:Int))) then (shrO .u64 wv (i64.wrap (8*v2))>>=fun v3=>idx b v2>>=fun x=>zhX (u8.wrap v3)>>=fun y2=>some (.inl ((b.set (Int.toNat v2) y2),(i64.wrap (v2+1))))) else some (.inr b)
def zgS (v:List UInt8) (wv:Int) (b:List UInt8) (v2:Int):Option (List UInt8):=zaf (fun s:((List UInt8)×Int)=>zdo v wv s.1 s.2) (b,v2)
def zkK (wv:Int) (n:Int):Option (List UInt8):=mkO 1 (0:UInt8) (if (8:Int)<(if n<0 then 0 else n) then 8 else if n<0 then 0 else n) (if (8:Int)<(if n<0 then 0 else n) then 8 else if n<0 then 0 else n)>>=fun v=>zgS v wv v 0>>=fun q=>some q
theorem zsI {v:List UInt8} {wv:Int} {b:List UInt8} {v2:Int} {b':List UInt8} {v2':Int} (h:zdo v wv b v2=some (.inl (b',v2'))):zgS v wv b v2=zgS v wv b' v2':=zF (body:=fun s:((List UInt8)×Int)=>zdo v wv s.1 s.2) h
theorem zsJ {v:List UInt8} {wv:Int} {b:List UInt8} {v2:Int} {kc:List UInt8} (h:zdo v wv b v2=some (.inr kc)):zgS v wv b v2=some kc:=zG (body:=fun s:((List UInt8)×Int)=>zdo v wv s.1 s.2) h
def zkf (wv:Int):Option Int:=some (u32.wrap wv)
def zkL (wv:Int):Option Int:=zkf wv>>=fun rv=>some (i32.wrap rv)
def zkM (n:Int):Option Int:=some (u64.wrap (i64.wrap n))
def zfm (v:List UInt8) (wv:Int) (v2:Int):Option ((Int×Int)⊕Int):=if (decide (v2<(v.length:Int))) then (idx v v2>>=fun x=>shlO .u64 (u64.wrap (x.toNat:Int)) (i64.wrap (8*v2))>>=fun v3=>some (.inl ((orI .u64 wv v3),(i64.wrap (v2+1))))) else some (.inr wv)
def zil (v:List UInt8) (wv:Int) (v2:Int):Option Int:=zaf (fun s:(Int×Int)=>zfm v s.1 s.2) (wv,v2)
def zoj (b:List UInt8):Option Int:=cut b 0 (if (8:Int)<(b.length:Int) then 8 else (b.length:Int))>>=fun v=>zil v 0 0>>=fun q=>some q
theorem zuG (h:zfm v wv v2=some (.inl (wv',v2'))):zil v wv v2=zil v wv' v2':=zF (body:=fun s:(Int×Int)=>zfm v s.1 s.2) h
theorem zuH (h:zfm v wv v2=some (.inr kc)):zil v wv v2=some kc:=zG (body:=fun s:(Int×Int)=>zfm v s.1 s.2) h
def zbc (n:Int) (wv2:Int) (out:List UInt8) (i:Int):Option ((Int×(List UInt8)×Int)⊕(List UInt8)):=if ((decide (i<n))&&(decide (i<8))) then (zhX (u8.wrap (Int.tmod wv2 256))>>=fun y=>app 1 out ([y]:List UInt8)>>=fun v2=>some (.inl ((u64.wrap (Int.tdiv wv2 256)),v2,(i64.wrap (i+1))))) else some (.inr out)
def zcM (n:Int) (wv2:Int) (out:List UInt8) (i:Int):Option (List UInt8):=zaf (fun s:(Int×(List UInt8)×Int)=>zbc n s.1 s.2.1 s.2.2) (wv2,out,i)
def zea (wv:Int) (n:Int):Option (List UInt8):=zcM n wv [] 0>>=fun q=>some q
theorem zmh {n:Int} {wv2:Int} {out:List UInt8} {i:Int} {wv2':Int} {out':List UInt8} {i':Int} (h:zbc n wv2 out i=some (.inl (wv2',out',i'))):zcM n wv2 out i=zcM n wv2' out' i':=zF (body:=fun s:(Int×(List UInt8)×Int)=>zbc n s.1 s.2.1 s.2.2) h
theorem zmi {n:Int} {wv2:Int} {out:List UInt8} {i:Int} {kc:List UInt8} (h:zbc n wv2 out i=some (.inr kc)):zcM n wv2 out i=some kc:=zG (body:=fun s:(Int×(List UInt8)×Int)=>zbc n s.1 s.2.1 s.2.2) h
def zgm (av:List UInt8) (b:List UInt8):Option Bool:=some (av==b)
def zbI (b:List UInt8) (wv:Int) (place:Int) (i:Int):Option ((Int×Int×Int)⊕Int):=if ((decide (i<(b.length:Int)))&&(decide (i<8))) then (idx b i>>=fun x=>some (.inl ((u64.wrap (wv+(u64.wrap ((u64.wrap (x.toNat:Int))*place)))),(u64.wrap (place*256)),(i64.wrap (i+1))))) else some (.inr wv)
def zdx (b:List UInt8) (wv:Int) (place:Int) (i:Int):Option Int:=zaf (fun s:(Int×Int×Int)=>zbI b s.1 s.2.1 s.2.2) (wv,place,i)
def zgo (b:List UInt8):Option Int:=zdx b 0 1 0>>=fun q=>some q
theorem znJ {b:List UInt8} {wv:Int} {place:Int} {i:Int} {wv':Int} {place':Int} {i':Int} (h:zbI b wv place i=some (.inl (wv',place',i'))):zdx b wv place i=zdx b wv' place' i':=zF (body:=fun s:(Int×Int×Int)=>zbI b s.1 s.2.1 s.2.2) h
theorem znK {b:List UInt8} {wv:Int} {place:Int} {i:Int} {kc:Int} (h:zbI b wv place i=some (.inr kc)):zdx b wv place i=some kc:=zG (body:=fun s:(Int×Int×Int)=>zbI b s.1 s.2.1 s.2.2) h
def zff (wv:Int):Option Int:=if (decide ((i64.wrap (Int.tmod wv 4294967296))>=2147483648)) then some (i64.wrap ((i64.wrap (Int.tmod wv 4294967296)) - 4294967296)) else some (i64.wrap (Int.tmod wv 4294967296))
def zgn (n:Int):Option Int:=if (decide (n>=0)) then some (u64.wrap n) else some (u64.wrap (18446744073709551615 - (u64.wrap (i64.wrap (0 - (i64.wrap (n+1)))))))
def zdr (v:List UInt8) (wv:Int) (v2:Int):Option ((Int×Int)⊕(Unit⊕(Int×Int×Int))):=if (decide (v2<(v.length:Int))) then (idx v v2>>=fun x=>if ((v2==9)&&(decide ((x.toNat:Int)>1))) then some (.inr (.inr (0,0,4))) else shlO .u64 (u64.wrap (andI .u8 (x.toNat:Int) 127)) (i64.wrap (7*v2))>>=fun v4=>if (decide ((x.toNat:Int)<128)) then some (.inr (.inr ((orI .u64 wv v4),(i64.wrap (v2+1)),0))) else some (.inl ((orI .u64 wv v4),(i64.wrap (v2+1))))) else some (.inr (.inl ()))
def zhi (v:List UInt8) (wv:Int) (v2:Int):Option (Unit⊕(Int×Int×Int)):=zaf (fun s:(Int×Int)=>zdr v s.1 s.2) (wv,v2)
def zhk (b:List UInt8):Option (Int×Int×Int):=cut b 0 (if (10:Int)<(b.length:Int) then 10 else (b.length:Int))>>=fun v=>zhi v 0 0>>=fun q=>match q with | .inl u=>(some (0,0,3)) | .inr u2=>(some (u2.1,u2.2.1,u2.2.2))
theorem ztl (h:zdr v wv v2=some (.inl (wv',v2'))):zhi v wv v2=zhi v wv' v2':=zF (body:=fun s:(Int×Int)=>zdr v s.1 s.2) h
theorem ziW (h:zdr v wv v2=some (.inr kc)):zhi v wv v2=some kc:=zG (body:=fun s:(Int×Int)=>zdr v s.1 s.2) h
def zeI (wv2:Int) (l:List UInt8):Option ((Int×(List UInt8))⊕(Int×(List UInt8))):=if (decide (wv2>=128)) then (zhX (orI .u8 (u8.wrap wv2) 128)>>=fun y=>app 1 l ([y]:List UInt8)>>=fun v3=>some (.inl ((shrI .u64 wv2 7),v3))) else some (.inr (wv2,l))
def ziO (wv2:Int) (l:List UInt8):Option (Int×(List UInt8)):=zaf (fun s:(Int×(List UInt8))=>zeI s.1 s.2) (wv2,l)
def ziV (b:List UInt8) (wv:Int):Option (List UInt8):=zoi wv>>=fun rv=>mkO 1 (0:UInt8) 0 (i64.wrap ((b.length:Int)+rv))>>=fun v=>app 1 v b>>=fun v2=>ziO wv v2>>=fun q=>zhX (u8.wrap q.1)>>=fun y2=>app 1 q.2 ([y2]:List UInt8)>>=fun v4=>some v4
theorem zuv {wv2:Int} {l:List UInt8} {wv2':Int} {l':List UInt8} (h:zeI wv2 l=some (.inl (wv2',l'))):ziO wv2 l=ziO wv2' l':=zF (body:=fun s:(Int×(List UInt8))=>zeI s.1 s.2) h
theorem zuw {wv2:Int} {l:List UInt8} {kc:(Int×(List UInt8))} (h:zeI wv2 l=some (.inr kc)):ziO wv2 l=some kc:=zG (body:=fun s:(Int×(List UInt8))=>zeI s.1 s.2) h
def zfL (xt:Int->Option (List UInt8)) (wv:Int):Option (List UInt8):=if (decide (wv<128)) then (zhX (u8.wrap wv)>>=fun y=>some ([y]:List UInt8)) else zhX (u8.wrap (u64.wrap (128+(Int.tmod wv 128))))>>=fun y2=>xt (u64.wrap (Int.tdiv wv 128))>>=fun rv=>app 1 ([y2]:List UInt8) rv>>=fun v=>some v
def zcN:Nat->Int->Option (List UInt8) | 0,_=>none | fuel+1,wv=>zfL (zcN fuel) wv
def zbi (kd:Int) (b:List UInt8) (n:Int):Option (Int⊕Int):=(if (decide ((i64.wrap (kd+n))<(b.length:Int))) then (if (decide (n<10)) then (idx b (i64.wrap (kd+n))>>=fun x=>some (decide ((x.toNat:Int)>=128))) else some false) else some false)>>=fun g=>if g then some (.inl (i64.wrap (n+1))) else some (.inr n)
def zdy (kd:Int) (b:List UInt8) (n:Int):Option Int:=zaf (fun s:Int=>zbi kd b s) n
def zbJ (kd:Int) (b:List UInt8) (wv:Int) (i:Int):Option ((Int×Int)⊕Int):=if (decide (i>=0)) then (idx b (i64.wrap (kd+i))>>=fun x3=>some (.inl ((u64.wrap ((u64.wrap (128*wv))+(u64.wrap (Int.tmod (x3.toNat:Int) 128)))),(i64.wrap (i - 1))))) else some (.inr wv)
def zdz (kd:Int) (b:List UInt8) (wv:Int) (i:Int):Option Int:=zaf (fun s:(Int×Int)=>zbJ kd b s.1 s.2) (wv,i)
def zbk (b:List UInt8) (kd:Int):Option (Int×Int×Int):=zdy kd b 0>>=fun q=>if (q==10) then some (0,0,4) else if ((i64.wrap (kd+q))==(b.length:Int)) then some (0,0,3) else (if (q==9) then (idx b (i64.wrap (kd+q))>>=fun x2=>some (decide ((x2.toNat:Int)>1))) else some false)>>=fun g2=>if g2 then some (0,0,4) else zdz kd b 0 q>>=fun q2=>some (q2,(i64.wrap (q+1)),0)
theorem znL (h:zbi kd b n=some (.inl n')):zdy kd b n=zdy kd b n':=zF (body:=fun s:Int=>zbi kd b s) h
theorem zgG (h:zbi kd b n=some (.inr kc)):zdy kd b n=some kc:=zG (body:=fun s:Int=>zbi kd b s) h
theorem znM (h:zbJ kd b wv i=some (.inl (wv',i'))):zdz kd b wv i=zdz kd b wv' i':=zF (body:=fun s:(Int×Int)=>zbJ kd b s.1 s.2) h
theorem znN (h:zbJ kd b wv i=some (.inr kc)):zdz kd b wv i=some kc:=zG (body:=fun s:(Int×Int)=>zbJ kd b s.1 s.2) h
def zjn (b:List UInt8):Option (Int×Int):=zhk b>>=fun rv=>some (rv.2.1,rv.2.2)
def ziM (wire:Int):Option Bool:=if (wire==0) then if (wire==0) then some true else (some false) else if (wire==1) then if (wire==1) then some true else (some false) else if (wire==2) then if (wire==2) then some true else (some false) else if (wire==5) then some true else some false
def zlZ (t:zao):Option Bool:=(if (decide (t.Number>=1)) then (if (decide (t.Number<=536870911)) then (ziM t.Wire>>=fun rv=>some rv) else some false) else some false)>>=fun g=>some g
def zro (b:List UInt8):Option (zao×Int×Int):=zhk b>>=fun rv=>if (rv.2.2 !=0) then some ((⟨0,0⟩:zao),0,rv.2.2) else (zlZ (⟨(i64.wrap (if (536870912:Int)<(shrI .u64 rv.1 3) then 536870912 else shrI .u64 rv.1 3)),(i64.wrap (andI .u64 rv.1 7))⟩:zao)>>=fun w8=>if (!w8) then some ((⟨0,0⟩:zao),0,5) else (some ((⟨(i64.wrap (if (536870912:Int)<(shrI .u64 rv.1 3) then 536870912 else shrI .u64 rv.1 3)),(i64.wrap (andI .u64 rv.1 7))⟩:zao),rv.2.1,0)))
def zrp (t:zao):Option Int:=some (orI .u64 (shlI .u64 (u64.wrap t.Number) 3) (u64.wrap t.Wire))
def zpE (b:List UInt8) (t:zao):Option ((List UInt8)×Int):=zlZ t>>=fun rv=>if (!rv) then some ([],2) else zrp t>>=fun w8=>ziV b w8>>=fun kg=>some (kg,0)
def zfM (number:Int) (wire:Int):Option Bool:=some ((decide (number>=1))&&((decide (number<=536870911))&&((wire==0)|| ((wire==1)|| ((wire==2)|| (wire==5))))))
def zgV (fuel:Nat) (number:Int) (wire:Int):Option (List UInt8):=zcN fuel (u64.wrap (i64.wrap ((i64.wrap (8*number))+wire)))>>=fun rv=>some rv
def zgp (b:List UInt8) (kd:Int):Option (Int×Int×Int×Int):=zbk b kd>>=fun rv=>if (rv.2.2 !=0) then some (0,0,0,rv.2.2) else (if (decide (rv.1>4294967295)) then some true else zfM (i64.wrap (u64.wrap (Int.tdiv rv.1 8))) (i64.wrap (Int.tmod rv.1 8))>>=fun w8=>some (!w8))>>=fun g=>if g then some (0,0,0,5) else some ((i64.wrap (u64.wrap (Int.tdiv rv.1 8))),(i64.wrap (Int.tmod rv.1 8)),rv.2.1,0)
def zuu (c:Int):Option (Int×Int):=if ((shrI .u8 c 7)==0) then some (1,(u32.wrap c)) else if ((shrI .u8 c 5)==6) then some (2,(u32.wrap (andI .u8 c 31))) else if ((shrI .u8 c 4)==14) then some (3,(u32.wrap (andI .u8 c 15))) else if ((shrI .u8 c 3)==30) then some (4,(u32.wrap (andI .u8 c 7))) else some (0,0)
def zoP (wv:Int):Option Int:=if ((shrI .u32 wv 7)==0) then some 1 else if ((shrI .u32 wv 11)==0) then some 2 else if ((shrI .u32 wv 11)==27) then some 0 else if ((shrI .u32 wv 16)==0) then some 3 else if (decide (wv<=1114111)) then some 4 else some 0
def zfz (v2:List UInt8) (wv:Int) (v3:Int):Option ((Int×Int)⊕(Int⊕Unit)):=if (decide (v3<(v2.length:Int))) then (idx v2 v3>>=fun x2=>if ((shrI .u8 (x2.toNat:Int) 6) !=2) then some (.inr (.inr ())) else some (.inl ((orI .u32 (shlI .u32 wv 6) (u32.wrap (andI .u8 (x2.toNat:Int) 63))),(i64.wrap (v3+1))))) else some (.inr (.inl wv))
def zde (v2:List UInt8) (wv:Int) (v3:Int):Option (Int⊕Unit):=zaf (fun s:(Int×Int)=>zfz v2 s.1 s.2) (wv,v3)
def zoO (b:List UInt8):Option Int:=if ((b.length:Int)==0) then some 0 else (idx b 0>>=fun x=>zuu (x.toNat:Int)>>=fun rv=>if ((rv.1==0)|| (decide (rv.1>(b.length:Int)))) then some 0 else (cut b 1 rv.1>>=fun v2=>zde v2 rv.2 0>>=fun q=>match q with | .inl u=>(zoP u>>=fun w8=>if (rv.1 !=w8) then some 0 else some rv.1) | .inr u2=>(some 0)))
theorem zwo (h:zfz v2 wv v3=some (.inl (wv',v3'))):zde v2 wv v3=zde v2 wv' v3':=zF (body:=fun s:(Int×Int)=>zfz v2 s.1 s.2) h
theorem zpQ (h:zfz v2 wv v3=some (.inr kc)):zde v2 wv v3=some kc:=zG (body:=fun s:(Int×Int)=>zfz v2 s.1 s.2) h
def zgE (b:List UInt8) (kd:Int) (points:Int) (size:Int):Option ((Int×Int×Int)⊕(Int×Int)):=if (decide (size>0)) then (cut b (i64.wrap (kd+size)) (b.length:Int)>>=fun v=>zoO v>>=fun w8=>some (.inl ((i64.wrap (kd+size)),(i64.wrap (points+1)),w8))) else some (.inr (kd,points))
def zij (b:List UInt8) (kd:Int) (points:Int) (size:Int):Option (Int×Int):=zaf (fun s:(Int×Int×Int)=>zgE b s.1 s.2.1 s.2.2) (kd,points,size)
def zrw (b:List UInt8):Option (Int×Int):=zoO b>>=fun rv=>zij b 0 0 rv>>=fun q=>some (q.1,q.2)
theorem zwp (h:zgE b kd points size=some (.inl (atv',points',size'))):zij b kd points size=zij b atv' points' size':=zF (body:=fun s:(Int×Int×Int)=>zgE b s.1 s.2.1 s.2.2) h
theorem zwq (h:zgE b kd points size=some (.inr kc)):zij b kd points size=some kc:=zG (body:=fun s:(Int×Int×Int)=>zgE b s.1 s.2.1 s.2.2) h
def zoN (b:List UInt8):Option Int:=zrw b>>=fun rv=>some rv.1
def zkC (b:List UInt8):Option Bool:=zoN b>>=fun rv=>some (rv==(b.length:Int))
def zgW (rv:Int):Option (List UInt8):=if ((decide (rv<0))|| ((decide (rv>1114111))|| ((decide (rv>=55296))&&(decide (rv<=57343))))) then some [] else if (decide (rv<128)) then (zhX (u8.wrap rv)>>=fun y=>some ([y]:List UInt8)) else if (decide (rv<2048)) then (zhX (u8.wrap (i64.wrap (192+(i64.wrap (Int.tdiv rv 64)))))>>=fun y2=>zhX (u8.wrap (i64.wrap (128+(Int.tmod rv 64))))>>=fun y3=>some ([y2,y3]:List UInt8)) else if (decide (rv<65536)) then (zhX (u8.wrap (i64.wrap (224+(i64.wrap (Int.tdiv rv 4096)))))>>=fun y4=>zhX (u8.wrap (i64.wrap (128+(Int.tmod (i64.wrap (Int.tdiv rv 64)) 64))))>>=fun y5=>zhX (u8.wrap (i64.wrap (128+(Int.tmod rv 64))))>>=fun y6=>some ([y4,y5,y6]:List UInt8)) else zhX (u8.wrap (i64.wrap (240+(i64.wrap (Int.tdiv rv 262144)))))>>=fun y7=>zhX (u8.wrap (i64.wrap (128+(Int.tmod (i64.wrap (Int.tdiv rv 4096)) 64))))>>=fun y8=>zhX (u8.wrap (i64.wrap (128+(Int.tmod (i64.wrap (Int.tdiv rv 64)) 64))))>>=fun y9=>zhX (u8.wrap (i64.wrap (128+(Int.tmod rv 64))))>>=fun y10=>some ([y7,y8,y9,y10]:List UInt8)
def zbK (kd:Int) (b:List UInt8) (n:Int) (w8:Int) (i:Int):Option ((Int×Int)⊕Int):=if (decide (i<n)) then (idx b (i64.wrap (kd+i))>>=fun x3=>some (.inl ((i64.wrap ((i64.wrap (64*w8))+(Int.tmod (i64.wrap (x3.toNat:Int)) 64))),(i64.wrap (i+1))))) else some (.inr w8)
def zbL (kd:Int) (b:List UInt8) (n:Int) (w8:Int) (i:Int):Option Int:=zaf (fun s:(Int×Int)=>zbK kd b n s.1 s.2) (w8,i)
def zci (kd:Int) (b:List UInt8) (n:Int):Option (Int⊕(Unit⊕Int)):=if ((decide (n<=4))&&(decide ((i64.wrap (kd+n))<=(b.length:Int)))) then (idx b kd>>=fun x=>((if (decide (n>1)) then (idx ([0,0,32,16,8]:List Int) n>>=fun x2=>remI (i64.wrap (x.toNat:Int)) x2>>=fun v3=>some v3) else (some (i64.wrap (x.toNat:Int))) :Option Int))>>=fun p=>zbL kd b n p 1>>=fun q=>zgW q>>=fun kq=>cut b kd (i64.wrap (kd+n))>>=fun v4=>if (kq==v4) then some (.inr (.inr n)) else some (.inl (i64.wrap (n+1)))) else some (.inr (.inl ()))
def zdB (kd:Int) (b:List UInt8) (n:Int):Option (Unit⊕Int):=zaf (fun s:Int=>zci kd b s) n
def zgq (b:List UInt8) (kd:Int):Option Int:=zdB kd b 1>>=fun q2=>match q2 with | .inl u=>(some 0) | .inr u2=>(some u2)
theorem znP (h:zbK kd b n w8 i=some (.inl (rv2',i'))):zbL kd b n w8 i=zbL kd b n rv2' i':=zF (body:=fun s:(Int×Int)=>zbK kd b n s.1 s.2) h
theorem znQ (h:zbK kd b n w8 i=some (.inr kc)):zbL kd b n w8 i=some kc:=zG (body:=fun s:(Int×Int)=>zbK kd b n s.1 s.2) h
theorem znO (h:zci kd b n=some (.inl n')):zdB kd b n=zdB kd b n':=zF (body:=fun s:Int=>zci kd b s) h
theorem zgH (h:zci kd b n=some (.inr kc)):zdB kd b n=some kc:=zG (body:=fun s:Int=>zci kd b s) h
def zbp (b:List UInt8) (km:Int) (kd:Int) (count:Int):Option ((Int×Int)⊕(Int×Int)):=zgq b kd>>=fun rv=>if ((rv==0)|| (decide ((i64.wrap (kd+rv))>km))) then some (.inr (kd,count)) else some (.inl ((i64.wrap (kd+rv)),(i64.wrap (count+1))))
def zct (b:List UInt8) (km:Int) (kd:Int) (count:Int):Option (Int×Int):=zaf (fun s:(Int×Int)=>zbp b km s.1 s.2) (kd,count)
def zfN (b:List UInt8) (km:Int):Option (Int×Int):=zct b km 0 0>>=fun q=>some (q.1,q.2)
theorem zmX (h:zbp b km kd count=some (.inl (atv',count'))):zct b km kd count=zct b km atv' count':=zF (body:=fun s:(Int×Int)=>zbp b km s.1 s.2) h
theorem zmY (h:zbp b km kd count=some (.inr kc)):zct b km kd count=some kc:=zG (body:=fun s:(Int×Int)=>zbp b km s.1 s.2) h
def zdt (b:List UInt8):Option Bool:=zfN b (b.length:Int)>>=fun rv=>some (rv.1==(b.length:Int))
def zjg (wire:Int) (b:List UInt8):Option (Int×Int×Int):=if (wire==0) then (zjn b>>=fun rv=>some (0,rv.1,rv.2)) else (((if (wire==1) then some (0,0,8) else (if (wire==5) then some (0,0,4) else if (wire==2) then (zhk b>>=fun w8=>some (w8.2.1,w8.2.2,w8.1)) else some (0,0,0)) :Option (Int×Int×Int)))>>=fun p=>if (p.2.1 !=0) then some (0,0,p.2.1) else if (decide (p.2.2>(u64.wrap (i64.wrap ((b.length:Int) - p.1))))) then some (0,0,3) else some (p.1,(i64.wrap (p.1+(i64.wrap p.2.2))),0))
def zie (b:List UInt8) (kz:Int):Option (zn×Int):=if ((decide (kz<0))|| (decide (kz>=(b.length:Int)))) then some ((⟨0,0,0,0,0⟩:zn),2) else (cut b kz (b.length:Int)>>=fun v2=>zro v2>>=fun rv=>if (rv.2.2 !=0) then some ((⟨0,0,0,0,0⟩:zn),rv.2.2) else (cut b (i64.wrap (kz+rv.2.1)) (b.length:Int)>>=fun v3=>zjg rv.1.Wire v3>>=fun w8=>if (w8.2.2 !=0) then some ((⟨0,0,0,0,0⟩:zn),w8.2.2) else (some ((⟨rv.1.Number,rv.1.Wire,kz,(i64.wrap ((i64.wrap (kz+rv.2.1))+w8.1)),(i64.wrap ((i64.wrap (kz+rv.2.1))+w8.2.1))⟩:zn),0))))
def zla (wire:Int) (value:List UInt8):Option Bool:=if (wire==2) then some true else zjg wire value>>=fun rv=>some ((rv.2.2==0)&&(rv.2.1==(value.length:Int)))
def zkq (b:List UInt8) (number:Int) (wire:Int) (value:List UInt8):Option ((List UInt8)×Int):=zpE ([]:List UInt8) (⟨number,wire⟩:zao)>>=fun rv=>(if (rv.2 !=0) then some true else zla wire value>>=fun w8=>some (!w8))>>=fun g=>if g then some ([],2) else if (wire==2) then (ziV rv.1 (u64.wrap (value.length:Int))>>=fun kg=>zaz ([b,kg,value]:List (List UInt8))>>=fun kq=>some (kq,0)) else zaz ([b,rv.1,value]:List (List UInt8))>>=fun rv5=>some (rv5,0)
def zmF (b:List UInt8) (number:Int) (value:List UInt8):Option (List UInt8):=zkq b number 2 value>>=fun rv=>if (rv.2 !=0) then (zaz ([b]:List (List UInt8))>>=fun w8=>some w8) else some rv.1
def zdC (fuel:Nat) (number:Int) (wire:Int) (value:List UInt8):Option (List UInt8):=zgV fuel number wire>>=fun rv=>if (wire==2) then (zcN fuel (u64.wrap (value.length:Int))>>=fun w8=>app 1 rv w8>>=fun v=>app 1 v value>>=fun v2=>some v2) else app 1 rv value>>=fun v3=>some v3
def zgr (wire:Int) (value:List UInt8):Option Bool:=if (wire==0) then (zbk value 0>>=fun rv=>some ((rv.2.2==0)&&(rv.2.1==(value.length:Int)))) else (some ((wire==2)|| (if (wire==1) then ((value.length:Int)==8)|| ((wire==5)&&((value.length:Int)==4)) else (wire==5)&&((value.length:Int)==4))))
def zeU (b:List UInt8) (kz:Int):Option (zn×Int):=if ((decide (kz<0))|| (decide (kz>=(b.length:Int)))) then some ((⟨0,0,0,0,0⟩:zn),2) else (zgp b kz>>=fun rv=>if (rv.2.2.2 !=0) then some ((⟨0,0,0,0,0⟩:zn),rv.2.2.2) else (((if (rv.2.1==5) then some 4 else (some 8) :Option Int))>>=fun p=>((if (rv.2.1==0) then (zbk b (i64.wrap (kz+rv.2.2.1))>>=fun w8=>if (w8.2.2 !=0) then some (.inr w8.2.2) else some (.inl w8.2.1)) else (some (.inl p)) :Option (Int⊕Int)))>>=fun p2=>match p2 with | .inl u=>(((if (rv.2.1==2) then (zbk b (i64.wrap (kz+rv.2.2.1))>>=fun kg=>if (kg.2.2 !=0) then some (.inr kg.2.2) else if (decide (kg.1>(u64.wrap (i64.wrap ((i64.wrap ((b.length:Int) - (i64.wrap (kz+rv.2.2.1)))) - kg.2.1))))) then some (.inr 3) else some (.inl ((i64.wrap ((i64.wrap ((b.length:Int) - (i64.wrap (kz+rv.2.2.1)))) - kg.2.1)),(i64.wrap kg.1),(i64.wrap ((i64.wrap (kz+rv.2.2.1))+kg.2.1))))) else (some (.inl ((i64.wrap ((b.length:Int) - (i64.wrap (kz+rv.2.2.1)))),u,(i64.wrap (kz+rv.2.2.1))))) :Option ((Int×Int×Int)⊕Int)))>>=fun p3=>match p3 with | .inl u2=>(if (decide (u2.2.1>u2.1)) then some ((⟨0,0,0,0,0⟩:zn),3) else some ((⟨rv.1,rv.2.1,kz,u2.2.2,(i64.wrap (u2.2.2+u2.2.1))⟩:zn),0)) | .inr u3=>(some ((⟨0,0,0,0,0⟩:zn),u3))) | .inr u4=>(some ((⟨0,0,0,0,0⟩:zn),u4))))
def zpp (wv:Int):Option Int:=some (if (1:Int)<wv then 1 else wv)
def zib (k:Int) (wv:Int):Option (Int×Int):=((if (k==1) then some (k==1) else (some (k==8)) :Option Bool))>>=fun p=>if p then (zkL wv>>=fun rv=>zkM rv>>=fun w8=>some (w8,0)) else ((if (k==3) then some (k==3) else (if (k==5) then some (k==5) else if (k==9) then some (k==9) else if (k==10) then some (k==10) else some (k==11)) :Option Bool))>>=fun p2=>if p2 then (zkf wv>>=fun kg=>some ((u64.wrap kg),0)) else if (k==7) then (zpp wv>>=fun kq=>some (kq,0)) else ((if (k==2) then some (k==2) else (if (k==4) then some (k==4) else if (k==6) then some (k==6) else if (k==12) then some (k==12) else if (k==13) then some (k==13) else some (k==14)) :Option Bool))>>=fun p3=>if p3 then some (wv,0) else some (0,2)
def zmz:Option (List (Int×zt)):=some (mput (mput (mput (mput (mput (mput (mput (mput (mput (mput (mput (mput (mput (mput (mput (mput (mput ([]:List (Int×zt)) 1 (⟨[105,110,116,51,50],0⟩:zt)) 2 (⟨[105,110,116,54,52],0⟩:zt)) 3 (⟨[117,105,110,116,51,50],0⟩:zt)) 4 (⟨[117,105,110,116,54,52],0⟩:zt)) 5 (⟨[115,105,110,116,51,50],0⟩:zt)) 6 (⟨[115,105,110,116,54,52],0⟩:zt)) 7 (⟨[98,111,111,108],0⟩:zt)) 8 (⟨[101,110,117,109],0⟩:zt)) 9 (⟨[102,105,120,101,100,51,50],5⟩:zt)) 10 (⟨[115,102,105,120,101,100,51,50],5⟩:zt)) 11 (⟨[102,108,111,97,116],5⟩:zt)) 12 (⟨[102,105,120,101,100,54,52],1⟩:zt)) 13 (⟨[115,102,105,120,101,100,54,52],1⟩:zt)) 14 (⟨[100,111,117,98,108,101],1⟩:zt)) 15 (⟨[115,116,114,105,110,103],2⟩:zt)) 16 (⟨[98,121,116,101,115],2⟩:zt)) 17 (⟨[109,101,115,115,97,103,101],2⟩:zt))
def zqO:Option (List Int):=zmz>>=fun rv=>ztE rv>>=fun v=>some v
def zlT (k:Int):Option (Int×Int):=zmz>>=fun rv=>if (!(mget rv k).isSome) then some (0,2) else some (((mget rv k).getD (⟨[],0⟩:zt)).wire,0)
def zes (k:Int):Option Bool:=some ((decide (k>=1))&&(decide (k<=17)))
def zjc (k:Int):Option Bool:=zlT k>>=fun rv=>some ((rv.2==0)&&(rv.1 !=2))
def zda (k:Int):Option Int:=if (decide (k>=15)) then some 2 else if (decide (k>=12)) then some 1 else if (decide (k>=9)) then some 5 else some 0
def zaN (k:Int):Option Bool:=some ((decide (k>=1))&&(decide (k<=14)))
def zdu (k:Int) (wv:Int):Option Int:=((if (k==1) then some (k==1) else (some (k==8)) :Option Bool))>>=fun p=>if p then (zff wv>>=fun rv=>zgn rv>>=fun w8=>some w8) else ((if (k==3) then some (k==3) else (if (k==5) then some (k==5) else if (k==9) then some (k==9) else if (k==10) then some (k==10) else some (k==11)) :Option Bool))>>=fun p2=>if p2 then some (Int.tmod wv 4294967296) else if (k==7) then if (decide (wv>0)) then some 1 else (some 0) else some wv
def zhe (c:Int):Option Bool:=some ((decide (c>=48))&&(decide (c<=57)))
def zhF (c:Int):Option Bool:=some (if (decide (c>=97)) then (decide (c<=122))|| (if (decide (c>=65)) then (decide (c<=90))|| (c==95) else c==95) else (if (decide (c>=65)) then (decide (c<=90))|| (c==95) else c==95))
def zcT (name:Str) (v2:Int):Option (Int⊕(Unit⊕Unit)):=if (decide (v2<(name.length:Int))) then ((idx name v2>>=fun c2=>zhF (c2.toNat:Int)>>=fun w8=>if (!w8) then (idx name v2>>=fun c3=>zhe (c3.toNat:Int)>>=fun kg=>some (!kg)) else some false)>>=fun g2=>if g2 then some (.inr (.inr ())) else some (.inl (i64.wrap (v2+1)))) else some (.inr (.inl ()))
def zfB (name:Str) (v2:Int):Option (Unit⊕Unit):=zaf (fun s:Int=>zcT name s) v2
def zhK (name:Str):Option Bool:=(if (name==[]) then some true else if (decide ((name.length:Int)>60)) then some true else idx name 0>>=fun c=>zhe (c.toNat:Int)>>=fun rv=>some rv)>>=fun g=>if g then some false else (zfB name 0>>=fun q=>match q with | .inl u=>(some true) | .inr u2=>(some false))
theorem zrn (h:zcT name v2=some (.inl v2')):zfB name v2=zfB name v2':=zF (body:=fun s:Int=>zcT name s) h
theorem zlf (h:zcT name v2=some (.inr kc)):zfB name v2=some kc:=zG (body:=fun s:Int=>zcT name s) h
def zhG (n:Int):Option Bool:=some ((decide (n>=1))&&((decide (n<=536870911))&&((decide (n<19000))|| (decide (n>19999)))))
def zif (f:za):Option Bool:=(if f.Repeated then (zjc f.Kind>>=fun rv=>some rv) else some false)>>=fun g=>some g
def zfV (c:zaS) (f:za):Option Bool:=if (f.Kind==17) then some ((decide (f.Of>=0))&&(decide (f.Of<c.size))) else some (f.Of==0)
def zfU (c:zaS) (message:Int) (f:za):Option (Int×(List (zu×Bool))×(List (zw×Bool))):=zhK f.Name>>=fun rv=>if (!rv) then some (5,c.names,c.numbers) else if ((mget c.names (⟨message,f.Name⟩:zu)).getD false) then some (6,c.names,c.numbers) else zhG f.Number>>=fun w8=>if (!w8) then some (7,c.names,c.numbers) else if ((mget c.numbers (⟨message,f.Number⟩:zw)).getD false) then some (8,c.names,c.numbers) else zcI c.kinds f.Kind>>=fun kg=>if (!kg) then some (9,c.names,c.numbers) else (if f.Packed then (zif f>>=fun kq=>some (!kq)) else some false)>>=fun g=>if g then some (10,c.names,c.numbers) else zfV c f>>=fun rv5=>if (!rv5) then some (11,c.names,c.numbers) else some (0,(mput c.names (⟨message,f.Name⟩:zu) true),(mput c.numbers (⟨message,f.Number⟩:zw) true))
def zeO (c:zaS) (m:zc):Option (Int×(List (zu×Bool))×(List (zw×Bool))):=zhK m.Name>>=fun rv=>if (!rv) then some (2,c.names,c.numbers) else if ((mget c.names (⟨(-1),m.Name⟩:zu)).getD false) then some (3,c.names,c.numbers) else if (decide ((m.Fields.length:Int)>200)) then some (4,c.names,c.numbers) else some (0,(mput c.names (⟨(-1),m.Name⟩:zu) true),c.numbers)
def zbY (i:Int) (sv:List zc) (n3:Int) (k:Int):Option ((Int×Int)⊕Int):=idx sv i>>=fun x3=>if (decide (k<(x3.Fields.length:Int))) then (idx sv i>>=fun x4=>idx x4.Fields k>>=fun x5=>some (.inl ((i64.wrap (n3+(i64.wrap (Int.tdiv (x5.Name.length:Int) 100)))),(i64.wrap (k+1))))) else some (.inr n3)
def zdZ (i:Int) (sv:List zc) (n3:Int) (k:Int):Option Int:=zaf (fun s:(Int×Int)=>zbY i sv s.1 s.2) (n3,k)
def zbX (sv:List zc) (n:Int) (i:Int):Option ((Int×Int)⊕Int):=if (decide (i<(sv.length:Int))) then (idx sv i>>=fun x=>idx sv i>>=fun x2=>zdZ i sv (i64.wrap ((i64.wrap ((i64.wrap (n+1))+(i64.wrap (Int.tdiv (x.Name.length:Int) 100))))+(x2.Fields.length:Int))) 0>>=fun q=>some (.inl (q,(i64.wrap (i+1))))) else some (.inr n)
def zdY (sv:List zc) (n:Int) (i:Int):Option Int:=zaf (fun s:(Int×Int)=>zbX sv s.1 s.2) (n,i)
def zgU (sv:List zc):Option Bool:=zdY sv 0 0>>=fun q2=>some (decide (q2<=500))
theorem zoo (h:zbY i sv n3 k=some (.inl (n3',k'))):zdZ i sv n3 k=zdZ i sv n3' k':=zF (body:=fun s:(Int×Int)=>zbY i sv s.1 s.2) h
theorem zop (h:zbY i sv n3 k=some (.inr kc)):zdZ i sv n3 k=some kc:=zG (body:=fun s:(Int×Int)=>zbY i sv s.1 s.2) h
theorem zom (h:zbX sv n i=some (.inl (n',i'))):zdY sv n i=zdY sv n' i':=zF (body:=fun s:(Int×Int)=>zbX sv s.1 s.2) h
theorem zon (h:zbX sv n i=some (.inr kc)):zdY sv n i=some kc:=zG (body:=fun s:(Int×Int)=>zbX sv s.1 s.2) h
def zco (rv:List Int) (sv:List zc) (v2:Int) (x:zc) (v3:Int) (f6:List (zu×Bool)) (f7:List (zw×Bool)):Option ((Int×(List (zu×Bool))×(List (zw×Bool)))⊕(((List (zu×Bool))×(List (zw×Bool)))⊕(Int×Int))):=if (decide (v3<(x.Fields.length:Int))) then (idx x.Fields v3>>=fun x2=>zfU (⟨(sv.length:Int),rv,f6,f7⟩:zaS) v2 x2>>=fun rv5=>if (rv5.1 !=0) then some (.inr (.inr (v3,rv5.1))) else some (.inl ((i64.wrap (v3+1)),rv5.2.1,rv5.2.2))) else some (.inr (.inl (f6,f7)))
def zei (rv:List Int) (sv:List zc) (v2:Int) (x:zc) (v3:Int) (f6:List (zu×Bool)) (f7:List (zw×Bool)):Option (((List (zu×Bool))×(List (zw×Bool)))⊕(Int×Int)):=zaf (fun s:(Int×(List (zu×Bool))×(List (zw×Bool)))=>zco rv sv v2 x s.1 s.2.1 s.2.2) (v3,f6,f7)
def zbl (rv:List Int) (sv:List zc) (v2:Int) (f:List (zu×Bool)) (f2:List (zw×Bool)):Option ((Int×(List (zu×Bool))×(List (zw×Bool)))⊕(Unit⊕(Int×Int×Int))):=if (decide (v2<(sv.length:Int))) then (idx sv v2>>=fun x=>zeO (⟨(sv.length:Int),rv,f,f2⟩:zaS) x>>=fun kg=>if (kg.1 !=0) then some (.inr (.inr (v2,(-1),kg.1))) else (zei rv sv v2 x 0 kg.2.1 kg.2.2>>=fun q=>match q with | .inl u=>(some (.inl ((i64.wrap (v2+1)),u.1,u.2))) | .inr u2=>(some (.inr (.inr (v2,u2.1,u2.2)))))) else some (.inr (.inl ()))
def zgi (rv:List Int) (sv:List zc) (v2:Int) (f:List (zu×Bool)) (f2:List (zw×Bool)):Option (Unit⊕(Int×Int×Int)):=zaf (fun s:(Int×(List (zu×Bool))×(List (zw×Bool)))=>zbl rv sv s.1 s.2.1 s.2.2) (v2,f,f2)
def zjN (sv:List zc):Option (zaR×Int):=if ((decide ((sv.length:Int)<1))|| (decide ((sv.length:Int)>100))) then some ((⟨(-1),(-1),1⟩:zaR),9) else (zqO>>=fun rv=>zgi rv sv 0 ([]:List (zu×Bool)) ([]:List (zw×Bool))>>=fun q2=>match q2 with | .inl u3=>(some ((⟨0,0,0⟩:zaR),0)) | .inr u4=>(some ((⟨u4.1,u4.2.1,u4.2.2⟩:zaR),9)))
theorem zso {f6:List (zu×Bool)} {f7:List (zw×Bool)} (h:zco rv sv v2 x v3 f6 f7=some (.inl (v3',f6',f7'))):zei rv sv v2 x v3 f6 f7=zei rv sv v2 x v3' f6' f7':=zF (body:=fun s:(Int×(List (zu×Bool))×(List (zw×Bool)))=>zco rv sv v2 x s.1 s.2.1 s.2.2) h
theorem zly {f6:List (zu×Bool)} {f7:List (zw×Bool)} (h:zco rv sv v2 x v3 f6 f7=some (.inr kc)):zei rv sv v2 x v3 f6 f7=some kc:=zG (body:=fun s:(Int×(List (zu×Bool))×(List (zw×Bool)))=>zco rv sv v2 x s.1 s.2.1 s.2.2) h
theorem zsn {f2:List (zw×Bool)} (h:zbl rv sv v2 f f2=some (.inl (v2',f',f2'))):zgi rv sv v2 f f2=zgi rv sv v2' f' f2':=zF (body:=fun s:(Int×(List (zu×Bool))×(List (zw×Bool)))=>zbl rv sv s.1 s.2.1 s.2.2) h
theorem zfh {f2:List (zw×Bool)} (h:zbl rv sv v2 f f2=some (.inr kc)):zgi rv sv v2 f f2=some kc:=zG (body:=fun s:(Int×(List (zu×Bool))×(List (zw×Bool)))=>zbl rv sv s.1 s.2.1 s.2.2) h
def zir (sv:List zc):Option Bool:=zjN sv>>=fun rv=>some (rv.2==0)
def zbM (sv:Str) (i:Int):Option (Int⊕(Unit⊕Unit)):=if (decide (i<(sv.length:Int))) then (idx sv i>>=fun c=>if (!(if (decide ((c.toNat:Int)>=65)) then (decide ((c.toNat:Int)<=90))|| (if (decide ((c.toNat:Int)>=97)) then (decide ((c.toNat:Int)<=122))|| (((c.toNat:Int)==95)|| ((decide (i>0))&&((decide ((c.toNat:Int)>=48))&&(decide ((c.toNat:Int)<=57))))) else (((c.toNat:Int)==95)|| ((decide (i>0))&&((decide ((c.toNat:Int)>=48))&&(decide ((c.toNat:Int)<=57)))))) else (if (decide ((c.toNat:Int)>=97)) then (decide ((c.toNat:Int)<=122))|| (((c.toNat:Int)==95)|| ((decide (i>0))&&((decide ((c.toNat:Int)>=48))&&(decide ((c.toNat:Int)<=57))))) else (((c.toNat:Int)==95)|| ((decide (i>0))&&((decide ((c.toNat:Int)>=48))&&(decide ((c.toNat:Int)<=57)))))))) then some (.inr (.inr ())) else some (.inl (i64.wrap (i+1)))) else some (.inr (.inl ()))
def zdD (sv:Str) (i:Int):Option (Unit⊕Unit):=zaf (fun s:Int=>zbM sv s) i
def zeV (sv:Str):Option Bool:=zdD sv 0>>=fun q=>match q with | .inl u=>(some ((decide ((sv.length:Int)>=1))&&(decide ((sv.length:Int)<=60)))) | .inr u2=>(some false)
theorem znR (h:zbM sv i=some (.inl i')):zdD sv i=zdD sv i':=zF (body:=fun s:Int=>zbM sv s) h
theorem ziK (h:zbM sv i=some (.inr kc)):zdD sv i=some kc:=zG (body:=fun s:Int=>zbM sv s) h
def zbt (i:Int) (k:Int) (sv:List zc) (x2:za) (name:Bool) (number:Bool) (j:Int):Option ((Bool×Bool×Int)⊕(Bool×Bool)):=if (decide (j<k)) then ((if name then some true else idx sv i>>=fun x3=>idx x3.Fields j>>=fun x4=>some (x4.Name==x2.Name))>>=fun g=>(if number then some true else idx sv i>>=fun x5=>idx x5.Fields j>>=fun x6=>some (x6.Number==x2.Number))>>=fun g2=>some (.inl (g,g2,(i64.wrap (j+1))))) else some (.inr (name,number))
def zdk (i:Int) (k:Int) (sv:List zc) (x2:za) (name:Bool) (number:Bool) (j:Int):Option (Bool×Bool):=zaf (fun s:(Bool×Bool×Int)=>zbt i k sv x2 s.1 s.2.1 s.2.2) (name,number,j)
def zfP (sv:List zc) (i:Int) (k:Int):Option Int:=idx sv i>>=fun x=>idx x.Fields k>>=fun x2=>zdk i k sv x2 false false 0>>=fun q=>zeV x2.Name>>=fun rv=>if (!rv) then some 5 else (if q.1 then some 6 else (if ((decide (x2.Number<1))|| ((decide (x2.Number>536870911))|| ((decide (x2.Number>=19000))&&(decide (x2.Number<20000))))) then some 7 else (if q.2 then some 8 else (zes x2.Kind>>=fun w8=>if (!w8) then some 9 else ((if x2.Packed then (if x2.Repeated then (zaN x2.Kind>>=fun kg=>some (!kg)) else some (!false)) else some false)>>=fun g3=>if g3 then some 10 else (if (if (x2.Kind==17) then (decide (x2.Of<0))|| ((decide (x2.Of>=(sv.length:Int)))|| ((x2.Kind !=17)&&(x2.Of !=0))) else (x2.Kind !=17)&&(x2.Of !=0)) then some 11 else some 0))))))
theorem znd (h:zbt i k sv x2 name number j=some (.inl (name',number',j'))):zdk i k sv x2 name number j=zdk i k sv x2 name' number' j':=zF (body:=fun s:(Bool×Bool×Int)=>zbt i k sv x2 s.1 s.2.1 s.2.2) h
theorem zne (h:zbt i k sv x2 name number j=some (.inr kc)):zdk i k sv x2 name number j=some kc:=zG (body:=fun s:(Bool×Bool×Int)=>zbt i k sv x2 s.1 s.2.1 s.2.2) h
def zbr (i:Int) (sv:List zc) (twice:Bool) (k:Int):Option ((Bool×Int)⊕Bool):=if (decide (k<i)) then ((if twice then some true else idx sv k>>=fun x=>idx sv i>>=fun x2=>some (x.Name==x2.Name))>>=fun g=>some (.inl (g,(i64.wrap (k+1))))) else some (.inr twice)
def zdi (i:Int) (sv:List zc) (twice:Bool) (k:Int):Option Bool:=zaf (fun s:(Bool×Int)=>zbr i sv s.1 s.2) (twice,k)
def zbs (i:Int) (sv:List zc) (k2:Int):Option (Int⊕(Unit⊕(Int×Int))):=idx sv i>>=fun x5=>if (decide (k2<(x5.Fields.length:Int))) then (zfP sv i k2>>=fun w8=>if (decide (w8>0)) then some (.inr (.inr (k2,w8))) else some (.inl (i64.wrap (k2+1)))) else some (.inr (.inl ()))
def zdj (i:Int) (sv:List zc) (k2:Int):Option (Unit⊕(Int×Int)):=zaf (fun s:Int=>zbs i sv s) k2
def zbq (sv:List zc) (i:Int):Option (Int⊕(Unit⊕(Int×Int×Int))):=if (decide (i<(sv.length:Int))) then (zdi i sv false 0>>=fun q=>idx sv i>>=fun x3=>zeV x3.Name>>=fun rv=>if (!rv) then some (.inr (.inr (i,(-1),2))) else (if q then some (.inr (.inr (i,(-1),3))) else (idx sv i>>=fun x4=>if (decide ((x4.Fields.length:Int)>200)) then some (.inr (.inr (i,(-1),4))) else (zdj i sv 0>>=fun q2=>match q2 with | .inl u=>(some (.inl (i64.wrap (i+1)))) | .inr u2=>(some (.inr (.inr (i,u2.1,u2.2)))))))) else some (.inr (.inl ()))
def zdh (sv:List zc) (i:Int):Option (Unit⊕(Int×Int×Int)):=zaf (fun s:Int=>zbq sv s) i
def zfO (sv:List zc):Option (Int×Int×Int):=if (((sv.length:Int)==0)|| (decide ((sv.length:Int)>100))) then some ((-1),(-1),1) else (zdh sv 0>>=fun q3=>match q3 with | .inl u3=>(some (0,0,0)) | .inr u4=>(some (u4.1,u4.2.1,u4.2.2)))
theorem zna (h:zbr i sv twice k=some (.inl (twice',k'))):zdi i sv twice k=zdi i sv twice' k':=zF (body:=fun s:(Bool×Int)=>zbr i sv s.1 s.2) h
theorem znb (h:zbr i sv twice k=some (.inr kc)):zdi i sv twice k=some kc:=zG (body:=fun s:(Bool×Int)=>zbr i sv s.1 s.2) h
theorem znc (h:zbs i sv k2=some (.inl k2')):zdj i sv k2=zdj i sv k2':=zF (body:=fun s:Int=>zbs i sv s) h
theorem ziy (h:zbs i sv k2=some (.inr kc)):zdj i sv k2=some kc:=zG (body:=fun s:Int=>zbs i sv s) h
theorem zmZ (h:zbq sv i=some (.inl i')):zdh sv i=zdh sv i':=zF (body:=fun s:Int=>zbq sv s) h
theorem zcW (h:zbq sv i=some (.inr kc)):zdh sv i=some kc:=zG (body:=fun s:Int=>zbq sv s) h
def zgA (f:za) (v:Int):Option Bool:=some (f.Number==v)
def zC (sv:List za) (v:Int) (v2:Int):Option (Int⊕(Unit⊕Int)):=if (decide (v2<(sv.length:Int))) then (idx sv v2>>=fun x=>zgA x v>>=fun rv=>if rv then some (.inr (.inr v2)) else some (.inl (i64.wrap (v2+1)))) else some (.inr (.inl ()))
def zW (sv:List za) (v:Int) (v2:Int):Option (Unit⊕Int):=zaf (fun s:Int=>zC sv v s) v2
def zar (sv:List za) (v:Int):Option Int:=zW sv v 0>>=fun q=>match q with | .inl u=>(some (-1)) | .inr u2=>(some u2)
theorem zdJ (h:zC sv v v2=some (.inl v2')):zW sv v v2=zW sv v v2':=zF (body:=fun s:Int=>zC sv v s) h
theorem zbA (h:zC sv v v2=some (.inr kc)):zW sv v v2=some kc:=zG (body:=fun s:Int=>zC sv v s) h
def zcC (m:zc) (v:Int):Option (Int×Bool):=zar m.Fields v>>=fun rv=>some ((if rv<0 then 0 else rv),(decide (rv>=0)))
def zeh (m:zc) (number:Int):Option (Int×Bool):=zcC m number>>=fun rv=>some (rv.1,rv.2)
def zbu (m:zc) (number:Int) (i:Int):Option (Int⊕(Unit⊕Int)):=if (decide (i<(m.Fields.length:Int))) then (idx m.Fields i>>=fun x=>if (x.Number==number) then some (.inr (.inr i)) else some (.inl (i64.wrap (i+1)))) else some (.inr (.inl ()))
def zdl (m:zc) (number:Int) (i:Int):Option (Unit⊕Int):=zaf (fun s:Int=>zbu m number s) i
def zet (m:zc) (number:Int):Option Int:=zdl m number 0>>=fun q=>match q with | .inl u=>(some (-1)) | .inr u2=>(some u2)
theorem znf (h:zbu m number i=some (.inl i')):zdl m number i=zdl m number i':=zF (body:=fun s:Int=>zbu m number s) h
theorem ziz (h:zbu m number i=some (.inr kc)):zdl m number i=some kc:=zG (body:=fun s:Int=>zbu m number s) h
def zbe (i:Int) (m:zc) (out:List Int) (k:Int):Option (Int⊕Int):=(if (decide (k<(out.length:Int))) then (idx out k>>=fun x=>idx m.Fields x>>=fun x2=>idx m.Fields i>>=fun x3=>some (decide (x2.Number<=x3.Number))) else some false)>>=fun g=>if g then some (.inl (i64.wrap (k+1))) else some (.inr k)
def zcP (i:Int) (m:zc) (out:List Int) (k:Int):Option Int:=zaf (fun s:Int=>zbe i m out s) k
def zbd (m:zc) (out:List Int) (i:Int):Option (((List Int)×Int)⊕(List Int)):=if (decide (i<(m.Fields.length:Int))) then (zcP i m out 0>>=fun q=>cut out 0 q>>=fun v2=>app 8 ([]:List Int) v2>>=fun v3=>app 8 v3 ([i]:List Int)>>=fun v4=>cut out q (out.length:Int)>>=fun v5=>app 8 v4 v5>>=fun v6=>some (.inl (v6,(i64.wrap (i+1))))) else some (.inr out)
def zcO (m:zc) (out:List Int) (i:Int):Option (List Int):=zaf (fun s:((List Int)×Int)=>zbd m s.1 s.2) (out,i)
def zfg (m:zc):Option (List Int):=zcO m [] 0>>=fun q2=>some q2
theorem zml {i:Int} {m:zc} {out:List Int} {k:Int} {k':Int} (h:zbe i m out k=some (.inl k')):zcP i m out k=zcP i m out k':=zF (body:=fun s:Int=>zbe i m out s) h
theorem zhZ {i:Int} {m:zc} {out:List Int} {k:Int} {kc:Int} (h:zbe i m out k=some (.inr kc)):zcP i m out k=some kc:=zG (body:=fun s:Int=>zbe i m out s) h
theorem zmj {m:zc} {out:List Int} {i:Int} {out':List Int} {i':Int} (h:zbd m out i=some (.inl (out',i'))):zcO m out i=zcO m out' i':=zF (body:=fun s:((List Int)×Int)=>zbd m s.1 s.2) h
theorem zmk {m:zc} {out:List Int} {i:Int} {kc:List Int} (h:zbd m out i=some (.inr kc)):zcO m out i=some kc:=zG (body:=fun s:((List Int)×Int)=>zbd m s.1 s.2) h
def zfQ (sv:List zc):Option Bool:=zfO sv>>=fun rv=>some (rv.2.2==0)
def zhx (k:Int):Option (Int×Int):=((if (k==1) then some (k==1) else (if (k==2) then some (k==2) else if (k==3) then some (k==3) else if (k==4) then some (k==4) else if (k==5) then some (k==5) else if (k==6) then some (k==6) else if (k==7) then some (k==7) else some (k==8)) :Option Bool))>>=fun p=>if p then some (0,0) else ((if (k==9) then some (k==9) else (if (k==10) then some (k==10) else some (k==11)) :Option Bool))>>=fun p2=>if p2 then some (4,0) else if (k==12) then if (k==12) then some (8,0) else (some (0,2)) else if (k==13) then if (k==13) then some (8,0) else (some (0,2)) else if (k==14) then some (8,0) else some (0,2)
def zjM (b:List UInt8):Option (Int×Int):=zhk b>>=fun rv=>if ((rv.2.2 !=0)|| (rv.2.1 !=(b.length:Int))) then some (0,12) else some (rv.1,0)
def zjL (k:Int) (b:List UInt8):Option (Int×Int):=zhx k>>=fun rv=>if (rv.2 !=0) then some (0,rv.2) else if (rv.1==0) then (zjM b>>=fun w8=>some (w8.1,w8.2)) else if (rv.1 !=(b.length:Int)) then some (0,12) else zoj b>>=fun kg=>some (kg,0)
def zle (k:Int) (b:List UInt8):Option (Int×Int):=zjL k b>>=fun rv=>if (rv.2 !=0) then some (0,rv.2) else zib k rv.1>>=fun w8=>some (w8.1,w8.2)
def zkw (k:Int) (wv:Int):Option ((List UInt8)×Int):=zhx k>>=fun rv=>if (rv.2 !=0) then some ([],rv.2) else zib k wv>>=fun w8=>if (rv.1==0) then (ziV ([]:List UInt8) w8.1>>=fun kg=>some (kg,w8.2)) else zkK w8.1 rv.1>>=fun kq=>some (kq,w8.2)
def zjj (k:Int) (wv:Int):Option Int:=zhx k>>=fun rv=>if ((rv.2 !=0)|| (rv.1 !=0)) then some rv.1 else zib k wv>>=fun w8=>zoi w8.1>>=fun kg=>some kg
def zfA (fuel:Nat) (k:Int) (wv:Int):Option (List UInt8):=zdu k wv>>=fun rv=>if (decide (k>=12)) then (zea rv 8>>=fun w8=>some w8) else if (decide (k>=9)) then (zea rv 4>>=fun kg=>some kg) else zcN fuel rv>>=fun kq=>some kq
def zeW (k:Int) (b:List UInt8):Option (Int×Int):=zaN k>>=fun rv=>if (!rv) then some (0,2) else zda k>>=fun w8=>zgr w8 b>>=fun kg=>if (!kg) then some (0,12) else zgo b>>=fun kq=>zda k>>=fun rv5=>if (rv5==0) then (zbk b 0>>=fun rv6=>zdu k rv6.1>>=fun rv7=>some (rv7,0)) else zdu k kq>>=fun rv8=>some (rv8,0)
def zlY (k:Int):Option Int:=zjj k 0>>=fun rv=>some rv
def zoG (wide:Int) (b:List UInt8):Option (Int×Int):=if (wide==1) then (zjn b>>=fun rv=>some (rv.1,rv.2)) else if (decide (wide>(b.length:Int))) then some (0,3) else some (wide,0)
def zcb {σ:Type} (kf:(Rnd σ ((List UInt8)×Int))) (rv:Int) (w9:List UInt8) (sg2:σ):Option (((List UInt8)×σ)⊕(σ⊕σ)):=if (decide ((w9.length:Int)>0)) then (zoG rv w9>>=fun w8=>cut w9 0 w8.1>>=fun v3=>kf sg2 (v3,w8.2)>>=fun y2=>if ((!y2.1)|| (w8.2 !=0)) then some (.inr (.inr y2.2)) else cut w9 w8.1 (w9.length:Int)>>=fun v5=>some (.inl (v5,y2.2))) else some (.inr (.inl sg2))
def zgh {σ:Type} (kf:(Rnd σ ((List UInt8)×Int))) (rv:Int) (w9:List UInt8) (sg2:σ):Option (σ⊕σ):=zaf (fun s:((List UInt8)×σ)=>zcb kf rv s.1 s.2) (w9,sg2)
def zfr {σ:Type} (v:Int) (v2:List UInt8) (kf:Rnd σ ((List UInt8)×Int)) (sg:σ):Option σ:=zlY v>>=fun rv=>if (rv==0) then (kf sg (([]:List UInt8),2)>>=fun y=>some y.2) else (zgh kf rv v2 sg>>=fun q=>match q with | .inl u=>(some u) | .inr u2=>(some u2))
theorem zsm {σ:Type} {kf:(Rnd σ ((List UInt8)×Int))} {rv:Int} {w9:List UInt8} {sg2:σ} {rest':List UInt8} {sg2':σ} (h:zcb kf rv w9 sg2=some (.inl (rest',sg2'))):zgh kf rv w9 sg2=zgh kf rv rest' sg2':=zF (body:=fun s:((List UInt8)×σ)=>zcb kf rv s.1 s.2) h
theorem ziE {σ:Type} {kf:(Rnd σ ((List UInt8)×Int))} {rv:Int} {w9:List UInt8} {sg2:σ} {kc:(σ⊕σ)} (h:zcb kf rv w9 sg2=some (.inr kc)):zgh kf rv w9 sg2=some kc:=zG (body:=fun s:((List UInt8)×σ)=>zcb kf rv s.1 s.2) h
def zku (k:Int) (b:List UInt8):Option (Int×(List UInt8)):=some (k,b)
def zeD (k:Int) (f:List Int) (x:List UInt8) (x2:Int):Option ((List Int)⊕(Int×(List Int))):=if (x2 !=0) then some (.inr (x2,f)) else zle k x>>=fun w8=>app 8 f ([w8.1]:List Int)>>=fun v=>some (.inl v)
def zoF (k:Int) (b:List UInt8):Option ((List Int)×Int):=zku k b>>=fun rv=>zfr rv.1 rv.2 (rnd (fun (s:List Int) (x:((List UInt8)×Int))=>zeD k s x.1 x.2)) (.inl [])>>=fun q=>match q with | .inl u=>(some (u,0)) | .inr j=>(some ([],j.1))
def zaT (b:List UInt8) (k:Int) (out:List Int) (kd:Int):Option (((List Int)×Int)⊕((List Int)⊕Int)):=if (decide (kd<(b.length:Int))) then (((if (decide (k<12)) then some 4 else (some 8) :Option Int))>>=fun p=>((if (decide (k<9)) then (zbk b kd>>=fun w8=>if (w8.2.2 !=0) then some (.inr w8.2.2) else some (.inl w8.2.1)) else (some (.inl p)) :Option (Int⊕Int)))>>=fun p2=>match p2 with | .inl u=>(if (decide ((i64.wrap (kd+u))>(b.length:Int))) then some (.inr (.inr 3)) else app 8 out ([(i64.wrap (kd+u))]:List Int)>>=fun v3=>some (.inl (v3,(i64.wrap (kd+u))))) | .inr u2=>(some (.inr (.inr u2)))) else some (.inr (.inl out))
def zcE (b:List UInt8) (k:Int) (out:List Int) (kd:Int):Option ((List Int)⊕Int):=zaf (fun s:((List Int)×Int)=>zaT b k s.1 s.2) (out,kd)
def zeX (k:Int) (b:List UInt8):Option ((List Int)×Int):=zaN k>>=fun rv=>if (!rv) then some ([],2) else (zcE b k [] 0>>=fun q=>match q with | .inl u3=>(some (u3,0)) | .inr u4=>(some ([],u4)))
theorem znS {b:List UInt8} {k:Int} {out:List Int} {kd:Int} {out':List Int} {atv':Int} (h:zaT b k out kd=some (.inl (out',atv'))):zcE b k out kd=zcE b k out' atv':=zF (body:=fun s:((List Int)×Int)=>zaT b k s.1 s.2) h
theorem ziL {b:List UInt8} {k:Int} {out:List Int} {kd:Int} {kc:((List Int)⊕Int)} (h:zaT b k out kd=some (.inr kc)):zcE b k out kd=some kc:=zG (body:=fun s:((List Int)×Int)=>zaT b k s.1 s.2) h
def zfy (k:Int) (l:List Int) (b:List UInt8) (v:Int):Option (((List UInt8)×Int)⊕(List UInt8)):=if (decide (v<(l.length:Int))) then (idx l v>>=fun x=>zkw k x>>=fun w8=>app 1 b w8.1>>=fun v2=>some (.inl (v2,(i64.wrap (v+1))))) else some (.inr b)
def zji (k:Int) (l:List Int) (b:List UInt8) (v:Int):Option (List UInt8):=zaf (fun s:((List UInt8)×Int)=>zfy k l s.1 s.2) (b,v)
def zrj (k:Int) (l:List Int):Option ((List UInt8)×Int):=zlY k>>=fun rv=>if (rv==0) then some ([],2) else zji k l [] 0>>=fun q=>some (q,0)
theorem zwh {k:Int} {l:List Int} {b:List UInt8} {v:Int} {b':List UInt8} {v':Int} (h:zfy k l b v=some (.inl (b',v'))):zji k l b v=zji k l b' v':=zF (body:=fun s:((List UInt8)×Int)=>zfy k l s.1 s.2) h
theorem zwi {k:Int} {l:List Int} {b:List UInt8} {v:Int} {kc:List UInt8} (h:zfy k l b v=some (.inr kc)):zji k l b v=some kc:=zG (body:=fun s:((List UInt8)×Int)=>zfy k l s.1 s.2) h
def zbN (fuel:Nat) (k:Int) (l:List Int) (out:List UInt8) (i:Int):Option (((List UInt8)×Int)⊕(List UInt8)):=if (decide (i<(l.length:Int))) then (idx l i>>=fun x=>zfA fuel k x>>=fun rv=>app 1 out rv>>=fun v=>some (.inl (v,(i64.wrap (i+1))))) else some (.inr out)
def zdE (fuel:Nat) (k:Int) (l:List Int) (out:List UInt8) (i:Int):Option (List UInt8):=zaf (fun s:((List UInt8)×Int)=>zbN fuel k l s.1 s.2) (out,i)
def zgt (fuel:Nat) (k:Int) (l:List Int):Option (List UInt8):=zdE fuel k l [] 0>>=fun q=>some q
theorem znT {fuel:Nat} {k:Int} {l:List Int} {out:List UInt8} {i:Int} {out':List UInt8} {i':Int} (h:zbN fuel k l out i=some (.inl (out',i'))):zdE fuel k l out i=zdE fuel k l out' i':=zF (body:=fun s:((List UInt8)×Int)=>zbN fuel k l s.1 s.2) h
theorem znU {fuel:Nat} {k:Int} {l:List Int} {out:List UInt8} {i:Int} {kc:List UInt8} (h:zbN fuel k l out i=some (.inr kc)):zdE fuel k l out i=some kc:=zG (body:=fun s:((List UInt8)×Int)=>zbN fuel k l s.1 s.2) h
def zaL (b:List UInt8) (k:Int) (rv:((List Int)×Int)) (out:List Int) (i:Int):Option (((List Int)×Int)⊕(List Int)):=if (decide (i<(rv.1.length:Int))) then (((if (decide (i>0)) then (idx rv.1 (i64.wrap (i - 1))>>=fun x=>some x) else (some 0) :Option Int))>>=fun p=>idx rv.1 i>>=fun x2=>cut b p x2>>=fun v=>zeW k v>>=fun w8=>app 8 out ([w8.1]:List Int)>>=fun v2=>some (.inl (v2,(i64.wrap (i+1))))) else some (.inr out)
def zbV (b:List UInt8) (k:Int) (rv:((List Int)×Int)) (out:List Int) (i:Int):Option (List Int):=zaf (fun s:((List Int)×Int)=>zaL b k rv s.1 s.2) (out,i)
def zfR (k:Int) (b:List UInt8):Option ((List Int)×Int):=zeX k b>>=fun rv=>zbV b k rv [] 0>>=fun q=>some (q,rv.2)
theorem zng {b:List UInt8} {k:Int} {rv:((List Int)×Int)} {out:List Int} {i:Int} {out':List Int} {i':Int} (h:zaL b k rv out i=some (.inl (out',i'))):zbV b k rv out i=zbV b k rv out' i':=zF (body:=fun s:((List Int)×Int)=>zaL b k rv s.1 s.2) h
theorem zgc {b:List UInt8} {k:Int} {rv:((List Int)×Int)} {out:List Int} {i:Int} {kc:List Int} (h:zaL b k rv out i=some (.inr kc)):zbV b k rv out i=some kc:=zG (body:=fun s:((List Int)×Int)=>zaL b k rv s.1 s.2) h
def zgz (f:Int) (x:List UInt8) (x2:Int):Option (Int⊕(Int×Int)):=if (x2 !=0) then some (.inr (x2,f)) else some (.inl (i64.wrap (f+1)))
def zoE (k:Int) (b:List UInt8):Option (Int×Int):=zku k b>>=fun rv=>zfr rv.1 rv.2 (rnd (fun (s:Int) (x:((List UInt8)×Int))=>zgz s x.1 x.2)) (.inl 0)>>=fun q=>match q with | .inl u=>(some (u,0)) | .inr j=>(some (0,j.1))
def zjQ (f:za) (v:Int):Option Bool:=some (f.Number==v)
def zJ (sv:List za) (v:Int) (v2:Int):Option (Int⊕(Unit⊕Int)):=if (decide (v2<(sv.length:Int))) then (idx sv v2>>=fun x=>zjQ x v>>=fun rv=>if rv then some (.inr (.inr v2)) else some (.inl (i64.wrap (v2+1)))) else some (.inr (.inl ()))
def zZ (sv:List za) (v:Int) (v2:Int):Option (Unit⊕Int):=zaf (fun s:Int=>zJ sv v s) v2
def zaD (sv:List za) (v:Int):Option Int:=zZ sv v 0>>=fun q=>match q with | .inl u=>(some (-1)) | .inr u2=>(some u2)
theorem zel (h:zJ sv v v2=some (.inl v2')):zZ sv v v2=zZ sv v v2':=zF (body:=fun s:Int=>zJ sv v s) h
theorem zbT (h:zJ sv v v2=some (.inr kc)):zZ sv v v2=some kc:=zG (body:=fun s:Int=>zJ sv v s) h
def zmR (m:zc) (number:Int):Option Int:=zaD m.Fields number>>=fun rv=>some rv
def zmS (f:za) (wire:Int):Option Bool:=(if f.Repeated then (if (wire==2) then (zjc f.Kind>>=fun rv=>some rv) else some false) else some false)>>=fun g=>some g
def zoS (k:Int) (wire:Int):Option Bool:=zlT k>>=fun rv=>some ((rv.2==0)&&(rv.1==wire))
def zjo (m:zc) (hv:zU):Option zX:=zmR m hv.number>>=fun rv=>if (rv==(-1)) then some (⟨(-1),false,0⟩:zX) else idx m.Fields rv>>=fun x=>zmS x hv.wire>>=fun w8=>(if (!w8) then (zoS x.Kind hv.wire>>=fun kg=>some (!kg)) else some false)>>=fun g=>if g then some (⟨0,false,6⟩:zX) else some (⟨rv,w8,0⟩:zX)
def zmb (m:zc) (b:List UInt8) (kz:Int) (met:List (zU×zX)):Option (zf×Int×(List (zU×zX))):=zie b kz>>=fun rv=>if (rv.2 !=0) then some ((⟨(⟨0,0,0,0,0⟩:zn),0,false⟩:zf),rv.2,met) else (((if (!(mget met (⟨rv.1.Number,rv.1.Wire⟩:zU)).isSome) then (zjo m (⟨rv.1.Number,rv.1.Wire⟩:zU)>>=fun w8=>some ((mput met (⟨rv.1.Number,rv.1.Wire⟩:zU) w8),w8.field,w8.run,w8.e)) else (some (met,((mget met (⟨rv.1.Number,rv.1.Wire⟩:zU)).getD (⟨0,false,0⟩:zX)).field,((mget met (⟨rv.1.Number,rv.1.Wire⟩:zU)).getD (⟨0,false,0⟩:zX)).run,((mget met (⟨rv.1.Number,rv.1.Wire⟩:zU)).getD (⟨0,false,0⟩:zX)).e)) :Option ((List (zU×zX))×Int×Bool×Int)))>>=fun p=>if (p.2.2.2 !=0) then some ((⟨(⟨0,0,0,0,0⟩:zn),0,false⟩:zf),p.2.2.2,p.1) else some ((⟨rv.1,p.2.1,p.2.2.1⟩:zf),0,p.1))
def zej (b:List UInt8) (m:zc) (l:List zf) (met:List (zU×zX)) (kz:Int):Option (((List zf)×(List (zU×zX))×Int)⊕((List zf)⊕(Int×Int))):=if (decide (kz<(b.length:Int))) then (zmb m b kz met>>=fun w8=>if (w8.2.1 !=0) then some (.inr (.inr (kz,w8.2.1))) else app 56 l ([w8.1]:List zf)>>=fun v=>some (.inl (v,w8.2.2,w8.1.Record.To))) else some (.inr (.inl l))
def zik (b:List UInt8) (m:zc) (l:List zf) (met:List (zU×zX)) (kz:Int):Option ((List zf)⊕(Int×Int)):=zaf (fun s:((List zf)×(List (zU×zX))×Int)=>zej b m s.1 s.2.1 s.2.2) (l,met,kz)
def zrz (m:zc) (b:List UInt8):Option ((List zf)×Int×Int):=zik b m [] ([]:List (zU×zX)) 0>>=fun q=>match q with | .inl u=>(some (u,0,0)) | .inr u2=>(some ([],u2.1,u2.2))
theorem zpR (h:zej b m l met kz=some (.inl (l',ku,fromv'))):zik b m l met kz=zik b m l' ku fromv':=zF (body:=fun s:((List zf)×(List (zU×zX))×Int)=>zej b m s.1 s.2.1 s.2.2) h
theorem zlt (h:zej b m l met kz=some (.inr kc)):zik b m l met kz=some kc:=zG (body:=fun s:((List zf)×(List (zU×zX))×Int)=>zej b m s.1 s.2.1 s.2.2) h
def zoR (m:zc) (b:List UInt8) (kz:Int):Option (zf×Int):=zmb m b kz ([]:List (zU×zX))>>=fun w8=>some (w8.1,w8.2.1)
def zeY (m:zc) (b:List UInt8) (kz:Int):Option (zM×Int):=zeU b kz>>=fun rv=>if (rv.2 !=0) then some ((⟨(⟨0,0,0,0,0⟩:zn),0,false⟩:zM),rv.2) else zet m rv.1.Number>>=fun w8=>if (decide (w8<0)) then some ((⟨rv.1,(-1),false⟩:zM),0) else idx m.Fields w8>>=fun x=>(if x.Repeated then (zaN x.Kind>>=fun kg=>if kg then some (rv.1.Wire==2) else some false) else some false)>>=fun g=>if g then some ((⟨rv.1,w8,true⟩:zM),0) else (zes x.Kind>>=fun kq=>if (!kq) then some true else zda x.Kind>>=fun rv5=>some (rv5 !=rv.1.Wire))>>=fun g2=>if g2 then some ((⟨(⟨0,0,0,0,0⟩:zn),0,false⟩:zM),6) else some ((⟨rv.1,w8,false⟩:zM),0)
def zaO (b:List UInt8) (m:zc) (out:List zM) (kd:Int):Option (((List zM)×Int)⊕((List zM)⊕(Int×Int))):=if (decide (kd<(b.length:Int))) then (zeY m b kd>>=fun rv=>if (rv.2 !=0) then some (.inr (.inr (kd,rv.2))) else app 56 out ([rv.1]:List zM)>>=fun v3=>some (.inl (v3,rv.1.R.To))) else some (.inr (.inl out))
def zcZ (b:List UInt8) (m:zc) (out:List zM) (kd:Int):Option ((List zM)⊕(Int×Int)):=zaf (fun s:((List zM)×Int)=>zaO b m s.1 s.2) (out,kd)
def zgX (m:zc) (b:List UInt8):Option ((List zM)×Int×Int):=zcZ b m [] 0>>=fun q=>match q with | .inl u=>(some (u,0,0)) | .inr u2=>(some ([],u2.1,u2.2))
theorem zjb {b:List UInt8} {m:zc} {out:List zM} {kd:Int} {out':List zM} {atv':Int} (h:zaO b m out kd=some (.inl (out',atv'))):zcZ b m out kd=zcZ b m out' atv':=zF (body:=fun s:((List zM)×Int)=>zaO b m s.1 s.2) h
theorem zgY {b:List UInt8} {m:zc} {out:List zM} {kd:Int} {kc:((List zM)⊕(Int×Int))} (h:zaO b m out kd=some (.inr kc)):zcZ b m out kd=some kc:=zG (body:=fun s:((List zM)×Int)=>zaO b m s.1 s.2) h
def zhH (wv:zay) (message:Int) (kz:Int) (tov:Int):Option (zf×Int×(List (zk×zf))):=cut wv.b 0 tov>>=fun v=>zie v kz>>=fun rv=>if (rv.2 !=0) then some ((⟨(⟨0,0,0,0,0⟩:zn),0,false⟩:zf),rv.2,wv.met) else (if (!(mget wv.met (⟨message,rv.1.Number,rv.1.Wire⟩:zk)).isSome) then (idx wv.s message>>=fun x=>zoR x v kz>>=fun w8=>if (w8.2 !=0) then some ((⟨(⟨0,0,0,0,0⟩:zn),0,false⟩:zf),w8.2,wv.met) else some ((⟨rv.1,w8.1.Field,w8.1.Run⟩:zf),0,(mput wv.met (⟨message,rv.1.Number,rv.1.Wire⟩:zk) w8.1))) else (some ((⟨rv.1,(((mget wv.met (⟨message,rv.1.Number,rv.1.Wire⟩:zk)).getD (⟨(⟨0,0,0,0,0⟩:zn),0,false⟩:zf)).Field),(((mget wv.met (⟨message,rv.1.Number,rv.1.Wire⟩:zk)).getD (⟨(⟨0,0,0,0,0⟩:zn),0,false⟩:zf)).Run)⟩:zf),0,wv.met)))
def zlm (f:za) (isRun:Bool) (value:List UInt8):Option Int:=if isRun then (zoE f.Kind value>>=fun rv=>some rv.2) else (if (f.Kind==15) then (zkC value>>=fun w8=>some (!w8)) else some false)>>=fun g=>if g then some 7 else if (f.Kind==17) then some 8 else some 0
def zaH (d:Int) (message:Int) (xk:zay->Int->zf->Int->Option (zA×(List (zk×zf)))) (tov:Int) (wv:zay) (wv2:List (zk×zf)) (kG:Int) (depth:Int):Option (((List (zk×zf))×Int×Int)⊕(((List (zk×zf))×Int)⊕((List (zk×zf))×Int×Int×Int))):=if (decide (kG<tov)) then (zhH (⟨wv.s,wv.b,wv2⟩:zay) message kG tov>>=fun w8=>if (w8.2.1 !=0) then some (.inr (.inr (w8.2.2,0,kG,w8.2.1))) else xk (⟨wv.s,wv.b,w8.2.2⟩:zay) message w8.1 d>>=fun kq=>if (kq.1.e !=0) then some (.inr (.inr (kq.2,kq.1.depth,kq.1.place,kq.1.e))) else some (.inl (kq.2,w8.1.Record.To,(if depth<kq.1.depth then kq.1.depth else depth)))) else some (.inr (.inl (wv2,depth)))
def zcu (d:Int) (message:Int) (xk:zay->Int->zf->Int->Option (zA×(List (zk×zf)))) (tov:Int) (wv:zay) (wv2:List (zk×zf)) (kG:Int) (depth:Int):Option (((List (zk×zf))×Int)⊕((List (zk×zf))×Int×Int×Int)):=zaf (fun s:((List (zk×zf))×Int×Int)=>zaH d message xk tov wv s.1 s.2.1 s.2.2) (wv2,kG,depth)
def zeS (xr:zay->Int->Int->Int->Int->Option (zA×(List (zk×zf)))) (xk:zay->Int->zf->Int->Option (zA×(List (zk×zf)))) (wv:zay) (message:Int) (kz:Int) (tov:Int) (d:Int):Option (zA×(List (zk×zf))):=zcu d message xk tov wv wv.met kz 0>>=fun q=>match q with | .inl u=>(some ((⟨u.2,0,0⟩:zA),u.1)) | .inr u2=>(some ((⟨u2.2.1,u2.2.2.1,u2.2.2.2⟩:zA),u2.1))
def zeA (xr:zay->Int->Int->Int->Int->Option (zA×(List (zk×zf)))) (xk:zay->Int->zf->Int->Option (zA×(List (zk×zf)))) (wv:zay) (message:Int) (v:zf) (d:Int):Option (zA×(List (zk×zf))):=if (v.Field==(-1)) then some ((⟨0,0,0⟩:zA),wv.met) else idx wv.s message>>=fun x=>idx x.Fields v.Field>>=fun x2=>if ((x2.Kind==17)&&(decide (d>0))) then (xr wv x2.Of v.Record.At v.Record.To (i64.wrap (d - 1))>>=fun w8=>some ((⟨(i64.wrap (w8.1.depth+1)),w8.1.place,w8.1.e⟩:zA),w8.2)) else cut wv.b v.Record.At v.Record.To>>=fun v3=>zlm x2 v.Run v3>>=fun kg=>if (kg !=0) then some ((⟨0,v.Record.From,kg⟩:zA),wv.met) else some ((⟨0,0,0⟩:zA),wv.met)
def zaB:Nat->(zay->Int->Int->Int->Int->Option (zA×(List (zk×zf))))×(zay->Int->zf->Int->Option (zA×(List (zk×zf)))) | 0=>(fun _ _ _ _ _=>none,fun _ _ _ _=>none) | fuel+1=>(fun wv message kz tov d=>zeS (zaB fuel).1 (zaB fuel).2 wv message kz tov d,fun wv message v d=>zeA (zaB fuel).1 (zaB fuel).2 wv message v d)
def zbm (fuel:Nat):zay->Int->Int->Int->Int->Option (zA×(List (zk×zf))):=(zaB fuel).1
def zez (fuel:Nat):zay->Int->zf->Int->Option (zA×(List (zk×zf))):=(zaB fuel).2
theorem znm (h:zaH d message xk tov wv wv2 kG depth=some (.inl (wv2',fromv2',depth'))):zcu d message xk tov wv wv2 kG depth=zcu d message xk tov wv wv2' fromv2' depth':=zF (body:=fun s:((List (zk×zf))×Int×Int)=>zaH d message xk tov wv s.1 s.2.1 s.2.2) h
theorem zem (h:zaH d message xk tov wv wv2 kG depth=some (.inr kc)):zcu d message xk tov wv wv2 kG depth=some kc:=zG (body:=fun s:((List (zk×zf))×Int×Int)=>zaH d message xk tov wv s.1 s.2.1 s.2.2) h
def zkD (sv:List zc) (root:Int) (d:Int):Option Int:=zir sv>>=fun rv=>if (!rv) then some 9 else (if ((decide (root<0))|| ((decide (root>=(sv.length:Int)))|| ((decide (d<0))|| (decide (d>64))))) then some 2 else some 0)
def zmQ (fuel:Nat) (sv:List zc) (root:Int) (b:List UInt8) (d:Int):Option zA:=zkD sv root d>>=fun rv=>if (rv !=0) then some (⟨0,0,rv⟩:zA) else (zbm fuel (⟨sv,b,([]:List (zk×zf))⟩:zay) root 0 (b.length:Int) d>>=fun kg=>some kg.1)
def zll (fuel:Nat) (sv:List zc) (root:Int) (b:List UInt8) (d:Int):Option (Int×Int):=zmQ fuel sv root b d>>=fun rv=>some (rv.place,rv.e)
def zgu (sv:List zc) (root:Int) (d:Int):Option Int:=zfQ sv>>=fun rv=>if (!rv) then some 9 else (if ((decide (root<0))|| ((decide (root>=(sv.length:Int)))|| ((decide (d<0))|| (decide (d>64))))) then some 2 else some 0)
def zaZ (b:List UInt8) (d:Int) (m:Int) (xl:(List zc)->Int->(List UInt8)->Int->Option (Int×Int)) (sv:List zc) (kd:Int):Option (Int⊕(Unit⊕(Int×Int))):=if (decide (kd<(b.length:Int))) then (idx sv m>>=fun x=>zeY x b kd>>=fun rv=>if (rv.2 !=0) then some (.inr (.inr (kd,rv.2))) else cut b rv.1.R.At rv.1.R.To>>=fun v3=>if (decide (rv.1.Field>=0)) then (idx sv m>>=fun x2=>idx x2.Fields rv.1.Field>>=fun x3=>if rv.1.Run then (zeX x3.Kind v3>>=fun w8=>if (w8.2 !=0) then some (.inr (.inr (kd,w8.2))) else some (.inl rv.1.R.To)) else (if (x3.Kind==15) then (zdt v3>>=fun kg=>some (!kg)) else some false)>>=fun g=>if g then some (.inr (.inr (kd,7))) else if (x3.Kind==17) then (if (d==0) then some (.inr (.inr (kd,8))) else xl sv x3.Of v3 (i64.wrap (d - 1))>>=fun kq=>if (kq.2 !=0) then some (.inr (.inr ((i64.wrap (rv.1.R.At+kq.1)),kq.2))) else some (.inl rv.1.R.To)) else some (.inl rv.1.R.To)) else some (.inl rv.1.R.To)) else some (.inr (.inl ()))
def zbW (b:List UInt8) (d:Int) (m:Int) (xl:(List zc)->Int->(List UInt8)->Int->Option (Int×Int)) (sv:List zc) (kd:Int):Option (Unit⊕(Int×Int)):=zaf (fun s:Int=>zaZ b d m xl sv s) kd
def zcF (xl:(List zc)->Int->(List UInt8)->Int->Option (Int×Int)) (sv:List zc) (m:Int) (b:List UInt8) (d:Int):Option (Int×Int):=zbW b d m xl sv 0>>=fun q=>match q with | .inl u=>(some (0,0)) | .inr u2=>(some (u2.1,u2.2))
def zbP:Nat->(List zc)->Int->(List UInt8)->Int->Option (Int×Int) | 0,_,_,_,_=>none | fuel+1,sv,m,b,d=>zcF (zbP fuel) sv m b d
theorem znh {b:List UInt8} {d:Int} {m:Int} {xl:(List zc)->Int->(List UInt8)->Int->Option (Int×Int)} {sv:List zc} {kd:Int} {atv':Int} (h:zaZ b d m xl sv kd=some (.inl atv')):zbW b d m xl sv kd=zbW b d m xl sv atv':=zF (body:=fun s:Int=>zaZ b d m xl sv s) h
theorem zgd {b:List UInt8} {d:Int} {m:Int} {xl:(List zc)->Int->(List UInt8)->Int->Option (Int×Int)} {sv:List zc} {kd:Int} {kc:(Unit⊕(Int×Int))} (h:zaZ b d m xl sv kd=some (.inr kc)):zbW b d m xl sv kd=some kc:=zG (body:=fun s:Int=>zaZ b d m xl sv s) h
def zfS (fuel:Nat) (sv:List zc) (root:Int) (b:List UInt8) (d:Int):Option (Int×Int):=zgu sv root d>>=fun rv=>if (rv !=0) then some (0,rv) else zbP fuel sv root b d>>=fun w8=>some (w8.1,w8.2)
def zhz (fuel:Nat) (sv:List zc) (root:Int) (b:List UInt8) (d:Int):Option Bool:=zfS fuel sv root b d>>=fun rv=>some (rv.2==0)
def zfb (v:zb):Option Int:=some (i64.wrap ((i64.wrap ((v.Words.length:Int)+(v.Texts.length:Int)))+(v.Subs.length:Int)))
def zeG (b:List UInt8) (l:List zf) (all:List Str) (v2:Int):Option (((List Str)×Int)⊕(List Str)):=if (decide (v2<(l.length:Int))) then (idx l v2>>=fun x=>cut b x.Record.At x.Record.To>>=fun v3=>idx all v2>>=fun x2=>some (.inl ((all.set (Int.toNat v2) v3),(i64.wrap (v2+1))))) else some (.inr all)
def zhN (b:List UInt8) (l:List zf) (all:List Str) (v2:Int):Option (List Str):=zaf (fun s:((List Str)×Int)=>zeG b l s.1 s.2) (all,v2)
def zmO (b:List UInt8) (l:List zf):Option (List Str):=mkO 16 ([]:Str) (l.length:Int) (l.length:Int)>>=fun v=>zhN b l v 0>>=fun q=>some q
theorem zup (h:zeG b l all v2=some (.inl (all',v2'))):zhN b l all v2=zhN b l all' v2':=zF (body:=fun s:((List Str)×Int)=>zeG b l s.1 s.2) h
theorem zuq (h:zeG b l all v2=some (.inr kc)):zhN b l all v2=some kc:=zG (body:=fun s:((List Str)×Int)=>zeG b l s.1 s.2) h
def zeH (b:List UInt8) (k:Int) (l:List zf) (all:List Int) (v:Int):Option (((List Int)×Int)⊕(List Int)):=if (decide (v<(l.length:Int))) then (idx l v>>=fun x=>cut b x.Record.At x.Record.To>>=fun v2=>zoF k v2>>=fun rv=>app 8 all rv.1>>=fun v3=>some (.inl (v3,(i64.wrap (v+1))))) else some (.inr all)
def zhO (b:List UInt8) (k:Int) (l:List zf) (all:List Int) (v:Int):Option (List Int):=zaf (fun s:((List Int)×Int)=>zeH b k l s.1 s.2) (all,v)
def zmP (k:Int) (b:List UInt8) (l:List zf):Option (List Int):=zhO b k l [] 0>>=fun q=>some q
theorem zur (h:zeH b k l all v=some (.inl (all',v'))):zhO b k l all v=zhO b k l all' v':=zF (body:=fun s:((List Int)×Int)=>zeH b k l s.1 s.2) h
theorem zus (h:zeH b k l all v=some (.inr kc)):zhO b k l all v=some kc:=zG (body:=fun s:((List Int)×Int)=>zeH b k l s.1 s.2) h
def zcJ (b:List UInt8) (rv:((List zf)×Int×Int)) (known:List (Int×(List zf))) (v:Int) (f:List Str):Option (((List (Int×(List zf)))×Int×(List Str))⊕((List (Int×(List zf)))×(List Str))):=if (decide (v<(rv.1.length:Int))) then (idx rv.1 v>>=fun x2=>if (x2.Field==(-1)) then (cut b x2.Record.From x2.Record.To>>=fun v2=>app 16 f ([v2]:List Str)>>=fun v3=>some (.inl (known,(i64.wrap (v+1)),v3))) else app 56 ((mget known x2.Record.Number).getD []) ([x2]:List zf)>>=fun v4=>some (.inl ((mput known x2.Record.Number v4),(i64.wrap (v+1)),f))) else some (.inr (known,f))
def zgj (b:List UInt8) (rv:((List zf)×Int×Int)) (known:List (Int×(List zf))) (v:Int) (f:List Str):Option ((List (Int×(List zf)))×(List Str)):=zaf (fun s:((List (Int×(List zf)))×Int×(List Str))=>zcJ b rv s.1 s.2.1 s.2.2) (known,v,f)
def zcK (b:List UInt8) (q:((List (Int×(List zf)))×(List Str))) (xg:(List zc)->za->(List UInt8)->(List zf)->Option zb) (sv:List zc) (v5:List Int) (x:zc) (v6:Int) (f3:List zb):Option ((Int×(List zb))⊕(List zb)):=if (decide (v6<(v5.length:Int))) then (idx v5 v6>>=fun x3=>idx ((mget q.1 x3).getD []) 0>>=fun x4=>idx x.Fields x4.Field>>=fun x5=>xg sv x5 b ((mget q.1 x3).getD [])>>=fun w8=>zfb w8>>=fun kg=>if (decide (kg>0)) then (app 80 f3 ([w8]:List zb)>>=fun v7=>some (.inl ((i64.wrap (v6+1)),v7))) else some (.inl ((i64.wrap (v6+1)),f3))) else some (.inr f3)
def zgk (b:List UInt8) (q:((List (Int×(List zf)))×(List Str))) (xg:(List zc)->za->(List UInt8)->(List zf)->Option zb) (sv:List zc) (v5:List Int) (x:zc) (v6:Int) (f3:List zb):Option (List zb):=zaf (fun s:(Int×(List zb))=>zcK b q xg sv v5 x s.1 s.2) (v6,f3)
def zii (xf:(List zc)->Int->(List UInt8)->Option zd) (xq:(List zc)->za->(List UInt8)->(List zf)->Option (List zd)) (xg:(List zc)->za->(List UInt8)->(List zf)->Option zb) (sv:List zc) (message:Int) (b:List UInt8):Option zd:=idx sv message>>=fun x=>zrz x b>>=fun rv=>zgj b rv ([]:List (Int×(List zf))) 0 []>>=fun q=>ztE q.1>>=fun v5=>zgk b q xg sv v5 x 0 []>>=fun q2=>some (⟨q2,q.2⟩:zd)
def zft (b:List UInt8) (l:List zf) (pieces:List (List UInt8)) (v2:Int):Option (((List (List UInt8))×Int)⊕(List (List UInt8))):=if (decide (v2<(l.length:Int))) then (idx l v2>>=fun x=>cut b x.Record.At x.Record.To>>=fun v3=>idx pieces v2>>=fun x2=>some (.inl ((pieces.set (Int.toNat v2) v3),(i64.wrap (v2+1))))) else some (.inr pieces)
def ziv (b:List UInt8) (l:List zf) (pieces:List (List UInt8)) (v2:Int):Option (List (List UInt8)):=zaf (fun s:((List (List UInt8))×Int)=>zft b l s.1 s.2) (pieces,v2)
def zfu (f:za) (p:List (List UInt8)) (xf:(List zc)->Int->(List UInt8)->Option zd) (sv:List zc) (all:List zd) (v6:Int):Option (((List zd)×Int)⊕(List zd)):=if (decide (v6<(p.length:Int))) then (idx p v6>>=fun x3=>xf sv f.Of x3>>=fun w8=>idx all v6>>=fun x4=>some (.inl ((all.set (Int.toNat v6) w8),(i64.wrap (v6+1))))) else some (.inr all)
def zgD (f:za) (p:List (List UInt8)) (xf:(List zc)->Int->(List UInt8)->Option zd) (sv:List zc) (all:List zd) (v6:Int):Option (List zd):=zaf (fun s:((List zd)×Int)=>zfu f p xf sv s.1 s.2) (all,v6)
def zjm (xf:(List zc)->Int->(List UInt8)->Option zd) (xq:(List zc)->za->(List UInt8)->(List zf)->Option (List zd)) (xg:(List zc)->za->(List UInt8)->(List zf)->Option zb) (sv:List zc) (f:za) (b:List UInt8) (l:List zf):Option (List zd):=mkO 24 ([]:List UInt8) (l.length:Int) (l.length:Int)>>=fun v=>ziv b l v 0>>=fun q=>((if ((!f.Repeated)&&(decide ((q.length:Int)>1))) then (zaz q>>=fun rv=>some ([rv]:List (List UInt8))) else (some q) :Option (List (List UInt8))))>>=fun p=>mkO 48 ((⟨[],[]⟩:zd):zd) (p.length:Int) (p.length:Int)>>=fun v5=>zgD f p xf sv v5 0>>=fun q2=>some q2
def ziw (xf:(List zc)->Int->(List UInt8)->Option zd) (xq:(List zc)->za->(List UInt8)->(List zf)->Option (List zd)) (xg:(List zc)->za->(List UInt8)->(List zf)->Option zb) (sv:List zc) (f:za) (b:List UInt8) (l:List zf):Option zb:=((if ((!f.Repeated)&&(f.Kind !=17)) then (cut l (i64.wrap ((l.length:Int) - 1)) (l.length:Int)>>=fun v2=>some v2) else (some l) :Option (List zf)))>>=fun p=>if (f.Kind==17) then (xq sv f b p>>=fun rv=>some (⟨f.Number,[],[],rv⟩:zb)) else ((if (f.Kind==15) then some (f.Kind==15) else (some (f.Kind==16)) :Option Bool))>>=fun p2=>if p2 then (zmO b p>>=fun w8=>some (⟨f.Number,[],w8,[]⟩:zb)) else zmP f.Kind b p>>=fun kg=>some (⟨f.Number,kg,[],[]⟩:zb)
def zaj:Nat->((List zc)->Int->(List UInt8)->Option zd)×((List zc)->za->(List UInt8)->(List zf)->Option (List zd))×((List zc)->za->(List UInt8)->(List zf)->Option zb) | 0=>(fun _ _ _=>none,fun _ _ _ _=>none,fun _ _ _ _=>none) | fuel+1=>(fun sv message b=>zii (zaj fuel).1 (zaj fuel).2.1 (zaj fuel).2.2 sv message b,fun sv f b l=>zjm (zaj fuel).1 (zaj fuel).2.1 (zaj fuel).2.2 sv f b l,fun sv f b l=>ziw (zaj fuel).1 (zaj fuel).2.1 (zaj fuel).2.2 sv f b l)
def zfs (fuel:Nat):(List zc)->Int->(List UInt8)->Option zd:=(zaj fuel).1
def zsd (fuel:Nat):(List zc)->za->(List UInt8)->(List zf)->Option (List zd):=(zaj fuel).2.1
def zkB (fuel:Nat):(List zc)->za->(List UInt8)->(List zf)->Option zb:=(zaj fuel).2.2
theorem zlz (h:zcJ b rv known v f=some (.inl (known',v',f'))):zgj b rv known v f=zgj b rv known' v' f':=zF (body:=fun s:((List (Int×(List zf)))×Int×(List Str))=>zcJ b rv s.1 s.2.1 s.2.2) h
theorem zsp (h:zcJ b rv known v f=some (.inr kc)):zgj b rv known v f=some kc:=zG (body:=fun s:((List (Int×(List zf)))×Int×(List Str))=>zcJ b rv s.1 s.2.1 s.2.2) h
theorem zlA {f3:List zb} (h:zcK b q xg sv v5 x v6 f3=some (.inl (v6',f3'))):zgk b q xg sv v5 x v6 f3=zgk b q xg sv v5 x v6' f3':=zF (body:=fun s:(Int×(List zb))=>zcK b q xg sv v5 x s.1 s.2) h
theorem zsq {f3:List zb} (h:zcK b q xg sv v5 x v6 f3=some (.inr kc)):zgk b q xg sv v5 x v6 f3=some kc:=zG (body:=fun s:(Int×(List zb))=>zcK b q xg sv v5 x s.1 s.2) h
theorem zvr (h:zft b l pieces v2=some (.inl (pieces',v2'))):ziv b l pieces v2=ziv b l pieces' v2':=zF (body:=fun s:((List (List UInt8))×Int)=>zft b l s.1 s.2) h
theorem zvs (h:zft b l pieces v2=some (.inr kc)):ziv b l pieces v2=some kc:=zG (body:=fun s:((List (List UInt8))×Int)=>zft b l s.1 s.2) h
theorem zvt (h:zfu f p xf sv all v6=some (.inl (all',v6'))):zgD f p xf sv all v6=zgD f p xf sv all' v6':=zF (body:=fun s:((List zd)×Int)=>zfu f p xf sv s.1 s.2) h
theorem zvu (h:zfu f p xf sv all v6=some (.inr kc)):zgD f p xf sv all v6=some kc:=zG (body:=fun s:((List zd)×Int)=>zfu f p xf sv s.1 s.2) h
def zui (fuel:Nat) (sv:List zc) (root:Int) (b:List UInt8) (d:Int):Option (zd×Int):=zll fuel sv root b d>>=fun rv=>if (rv.2 !=0) then some ((⟨[],[]⟩:zd),rv.2) else zfs fuel sv root b>>=fun w8=>some (w8,0)
def zeF (km:Int) (xb:zd->Int->Option Int) (x2:zb) (deep3:Int) (v3:Int):Option ((Int×Int)⊕(Int⊕Int)):=if (decide (v3<(x2.Subs.length:Int))) then (idx x2.Subs v3>>=fun x3=>if (decide (km<=0)) then some (.inr (.inr 1)) else xb x3 (i64.wrap (km - 1))>>=fun rv=>if (decide ((if deep3<(i64.wrap (1+rv)) then i64.wrap (1+rv) else deep3)>km)) then some (.inr (.inr (if deep3<(i64.wrap (1+rv)) then i64.wrap (1+rv) else deep3))) else some (.inl ((if deep3<(i64.wrap (1+rv)) then i64.wrap (1+rv) else deep3),(i64.wrap (v3+1))))) else some (.inr (.inl deep3))
def zhM (km:Int) (xb:zd->Int->Option Int) (x2:zb) (deep3:Int) (v3:Int):Option (Int⊕Int):=zaf (fun s:(Int×Int)=>zeF km xb x2 s.1 s.2) (deep3,v3)
def zeE (km:Int) (xb:zd->Int->Option Int) (x:zd) (deep:Int) (v:Int):Option ((Int×Int)⊕(Int⊕Int)):=if (decide (v<(x.Values.length:Int))) then (idx x.Values v>>=fun x2=>zhM km xb x2 deep 0>>=fun q=>match q with | .inl u=>(some (.inl (u,(i64.wrap (v+1))))) | .inr u2=>(some (.inr (.inr u2)))) else some (.inr (.inl deep))
def zhL (km:Int) (xb:zd->Int->Option Int) (x:zd) (deep:Int) (v:Int):Option (Int⊕Int):=zaf (fun s:(Int×Int)=>zeE km xb x s.1 s.2) (deep,v)
def zjO (xb:zd->Int->Option Int) (x:zd) (km:Int):Option Int:=zhL km xb x 0 0>>=fun q2=>match q2 with | .inl u3=>(some u3) | .inr u4=>(some u4)
def zgM:Nat->zd->Int->Option Int | 0,_,_=>none | fuel+1,x,km=>zjO (zgM fuel) x km
theorem zul (h:zeF km xb x2 deep3 v3=some (.inl (deep3',v3'))):zhM km xb x2 deep3 v3=zhM km xb x2 deep3' v3':=zF (body:=fun s:(Int×Int)=>zeF km xb x2 s.1 s.2) h
theorem zum (h:zeF km xb x2 deep3 v3=some (.inr kc)):zhM km xb x2 deep3 v3=some kc:=zG (body:=fun s:(Int×Int)=>zeF km xb x2 s.1 s.2) h
theorem zuj (h:zeE km xb x deep v=some (.inl (deep',v'))):zhL km xb x deep v=zhL km xb x deep' v':=zF (body:=fun s:(Int×Int)=>zeE km xb x s.1 s.2) h
theorem zuk (h:zeE km xb x deep v=some (.inr kc)):zhL km xb x deep v=some kc:=zG (body:=fun s:(Int×Int)=>zeE km xb x s.1 s.2) h
def zky (fuel:Nat) (x:zd):Option Int:=zgM fuel x 131072>>=fun rv=>some rv
def zma (fuel:Nat) (x:zd):Option Bool:=zky fuel x>>=fun rv=>some (decide (rv<=131072))
def zcV (l:List Str) (v:Int):Option (Int⊕(Unit⊕Unit)):=if (decide (v<(l.length:Int))) then (idx l v>>=fun x=>lenO x>>=fun v2=>zkC v2>>=fun rv=>if (!rv) then some (.inr (.inr ())) else some (.inl (i64.wrap (v+1)))) else some (.inr (.inl ()))
def zfD (l:List Str) (v:Int):Option (Unit⊕Unit):=zaf (fun s:Int=>zcV l s) v
def ziN (l:List Str):Option Bool:=zfD l 0>>=fun q=>match q with | .inl u=>(some true) | .inr u2=>(some false)
theorem zru (h:zcV l v=some (.inl v')):zfD l v=zfD l v':=zF (body:=fun s:Int=>zcV l s) h
theorem zli (h:zcV l v=some (.inr kc)):zfD l v=some kc:=zG (body:=fun s:Int=>zcV l s) h
def zih (m:zc) (text:Str):Option Bool:=lenO text>>=fun v=>zie v 0>>=fun rv=>if ((rv.2 !=0)|| (rv.1.To !=(text.length:Int))) then some false else zeh m rv.1.Number>>=fun w8=>some (!w8.2)
def zbj (k:Int) (l:List Int) (v:Int):Option (Int⊕(Unit⊕Unit)):=if (decide (v<(l.length:Int))) then (idx l v>>=fun x=>zib k x>>=fun rv=>if ((rv.2 !=0)|| (rv.1 !=x)) then some (.inr (.inr ())) else some (.inl (i64.wrap (v+1)))) else some (.inr (.inl ()))
def zdL (k:Int) (l:List Int) (v:Int):Option (Unit⊕Unit):=zaf (fun s:Int=>zbj k l s) v
def zgC (k:Int) (l:List Int):Option Bool:=zdL k l 0>>=fun q=>match q with | .inl u=>(some true) | .inr u2=>(some false)
theorem zod (h:zbj k l v=some (.inl v')):zdL k l v=zdL k l v':=zF (body:=fun s:Int=>zbj k l s) h
theorem zgL (h:zbj k l v=some (.inr kc)):zdL k l v=some kc:=zG (body:=fun s:Int=>zbj k l s) h
def zca (l:List zd) (message:Int) (xh:(List zc)->Int->zd->Option Bool) (sv:List zc) (v2:Int):Option (Int⊕(Unit⊕Unit)):=if (decide (v2<(l.length:Int))) then (idx l v2>>=fun x=>xh sv message x>>=fun rv=>if (!rv) then some (.inr (.inr ())) else some (.inl (i64.wrap (v2+1)))) else some (.inr (.inl ()))
def zec (l:List zd) (message:Int) (xh:(List zc)->Int->zd->Option Bool) (sv:List zc) (v2:Int):Option (Unit⊕Unit):=zaf (fun s:Int=>zca l message xh sv s) v2
def zfY (xo:(List zc)->Int->(List zd)->Option Bool) (xc:za->(List zc)->zb->Option Bool) (xh:(List zc)->Int->zd->Option Bool) (sv:List zc) (message:Int) (l:List zd):Option Bool:=if ((decide (message<0))|| (decide (message>=(sv.length:Int)))) then some false else (zec l message xh sv 0>>=fun q=>match q with | .inl u=>(some true) | .inr u2=>(some false))
def zlj (xo:(List zc)->Int->(List zd)->Option Bool) (xc:za->(List zc)->zb->Option Bool) (xh:(List zc)->Int->zd->Option Bool) (f:za) (sv:List zc) (v:zb):Option Bool:=zfb v>>=fun rv=>if ((rv==0)|| ((decide (rv>1))&&(!f.Repeated))) then some false else if (f.Kind==15) then ((if ((v.Texts.length:Int)==rv) then (ziN v.Texts>>=fun w8=>some w8) else some false)>>=fun g=>some g) else if (f.Kind==16) then some ((v.Texts.length:Int)==rv) else if (f.Kind==17) then ((if ((v.Subs.length:Int)==rv) then (xo sv f.Of v.Subs>>=fun kg=>some kg) else some false)>>=fun g2=>some g2) else (if ((v.Words.length:Int)==rv) then (zgC f.Kind v.Words>>=fun kq=>some kq) else some false)>>=fun g3=>some g3
def zcf (xc:za->(List zc)->zb->Option Bool) (sv:List zc) (x:zd) (x2:zc) (last:Int) (v:Int):Option ((Int×Int)⊕(Unit⊕Unit)):=if (decide (v<(x.Values.length:Int))) then (idx x.Values v>>=fun x3=>zeh x2 x3.Number>>=fun rv=>(if (!rv.2) then some true else if (decide (x3.Number<=last)) then some true else idx x2.Fields rv.1>>=fun x4=>xc x4 sv x3>>=fun w8=>some (!w8))>>=fun g=>if g then some (.inr (.inr ())) else some (.inl (x3.Number,(i64.wrap (v+1))))) else some (.inr (.inl ()))
def zfc (xc:za->(List zc)->zb->Option Bool) (sv:List zc) (x:zd) (x2:zc) (last:Int) (v:Int):Option (Unit⊕Unit):=zaf (fun s:(Int×Int)=>zcf xc sv x x2 s.1 s.2) (last,v)
def zcx (x:zd) (x2:zc) (v3:Int):Option (Int⊕(Unit⊕Unit)):=if (decide (v3<(x.Unknown.length:Int))) then (idx x.Unknown v3>>=fun x5=>zih x2 x5>>=fun kg=>if (!kg) then some (.inr (.inr ())) else some (.inl (i64.wrap (v3+1)))) else some (.inr (.inl ()))
def zfd (x:zd) (x2:zc) (v3:Int):Option (Unit⊕Unit):=zaf (fun s:Int=>zcx x x2 s) v3
def zhh (xo:(List zc)->Int->(List zd)->Option Bool) (xc:za->(List zc)->zb->Option Bool) (xh:(List zc)->Int->zd->Option Bool) (sv:List zc) (message:Int) (x:zd):Option Bool:=idx sv message>>=fun x2=>zfc xc sv x x2 0 0>>=fun q=>match q with | .inl u=>(zfd x x2 0>>=fun q2=>match q2 with | .inl u2=>(some true) | .inr u3=>(some false)) | .inr u4=>(some false)
def zac:Nat->((List zc)->Int->(List zd)->Option Bool)×(za->(List zc)->zb->Option Bool)×((List zc)->Int->zd->Option Bool) | 0=>(fun _ _ _=>none,fun _ _ _=>none,fun _ _ _=>none) | fuel+1=>(fun sv message l=>zfY (zac fuel).1 (zac fuel).2.1 (zac fuel).2.2 sv message l,fun f sv v=>zlj (zac fuel).1 (zac fuel).2.1 (zac fuel).2.2 f sv v,fun sv message x=>zhh (zac fuel).1 (zac fuel).2.1 (zac fuel).2.2 sv message x)
def zhg (fuel:Nat):(List zc)->Int->(List zd)->Option Bool:=(zac fuel).1
def zjl (fuel:Nat):za->(List zc)->zb->Option Bool:=(zac fuel).2.1
def zdX (fuel:Nat):(List zc)->Int->zd->Option Bool:=(zac fuel).2.2
theorem zoM (h:zca l message xh sv v2=some (.inl v2')):zec l message xh sv v2=zec l message xh sv v2':=zF (body:=fun s:Int=>zca l message xh sv s) h
theorem zjk (h:zca l message xh sv v2=some (.inr kc)):zec l message xh sv v2=some kc:=zG (body:=fun s:Int=>zca l message xh sv s) h
theorem zqh (h:zcf xc sv x x2 last v=some (.inl (last',v'))):zfc xc sv x x2 last v=zfc xc sv x x2 last' v':=zF (body:=fun s:(Int×Int)=>zcf xc sv x x2 s.1 s.2) h
theorem zjY (h:zcf xc sv x x2 last v=some (.inr kc)):zfc xc sv x x2 last v=some kc:=zG (body:=fun s:(Int×Int)=>zcf xc sv x x2 s.1 s.2) h
theorem zqi (h:zcx x x2 v3=some (.inl v3')):zfd x x2 v3=zfd x x2 v3':=zF (body:=fun s:Int=>zcx x x2 s) h
theorem zjZ (h:zcx x x2 v3=some (.inr kc)):zfd x x2 v3=some kc:=zG (body:=fun s:Int=>zcx x x2 s) h
def zgv (v:zb):Option Int:=some (i64.wrap ((i64.wrap ((v.Words.length:Int)+(v.Texts.length:Int)))+(v.Subs.length:Int)))
def zkz (fuel:Nat) (sv:List zc) (root:Int) (x:zd):Option Bool:=(zkD sv root 0>>=fun rv=>if (rv==0) then (zma fuel x>>=fun w8=>if w8 then (zdX fuel sv root x>>=fun kg=>some kg) else some false) else some false)>>=fun g=>some g
def zrv (xm:zd->zd->Option Bool) (xn:zb->zb->Option Bool) (xu:(List zb)->(List zb)->Option Bool) (xw:(List zd)->(List zd)->Option Bool) (av:zd) (b:zd):Option Bool:=(xu av.Values b.Values>>=fun rv=>if rv then (zdd av.Unknown b.Unknown>>=fun w8=>some w8) else some false)>>=fun g=>some g
def zkA (xm:zd->zd->Option Bool) (xn:zb->zb->Option Bool) (xu:(List zb)->(List zb)->Option Bool) (xw:(List zd)->(List zd)->Option Bool) (v:zb) (wv:zb):Option Bool:=(if (v.Number==wv.Number) then (zeP v.Words wv.Words>>=fun rv=>if rv then (zdd v.Texts wv.Texts>>=fun w8=>if w8 then (xw v.Subs wv.Subs>>=fun kg=>some kg) else some false) else some false) else some false)>>=fun g=>some g
def zv (xn:zb->zb->Option Bool) (s1:List zb) (s2:List zb) (v:Int):Option (Int⊕(Unit⊕Unit)):=if (decide (v<(s1.length:Int))) then (idx s1 v>>=fun x=>idx s2 v>>=fun x2=>xn x x2>>=fun rv=>if (!rv) then some (.inr (.inr ())) else some (.inl (i64.wrap (v+1)))) else some (.inr (.inl ()))
def zD (xn:zb->zb->Option Bool) (s1:List zb) (s2:List zb) (v:Int):Option (Unit⊕Unit):=zaf (fun s:Int=>zv xn s1 s2 s) v
def zah (xm:zd->zd->Option Bool) (xn:zb->zb->Option Bool) (xu:(List zb)->(List zb)->Option Bool) (xw:(List zd)->(List zd)->Option Bool) (s1:List zb) (s2:List zb):Option Bool:=if ((s1.length:Int) !=(s2.length:Int)) then some false else (zD xn s1 s2 0>>=fun q=>match q with | .inl u=>(some true) | .inr u2=>(some false))
def zB (xm:zd->zd->Option Bool) (s1:List zd) (s2:List zd) (v:Int):Option (Int⊕(Unit⊕Unit)):=if (decide (v<(s1.length:Int))) then (idx s1 v>>=fun x=>idx s2 v>>=fun x2=>xm x x2>>=fun rv=>if (!rv) then some (.inr (.inr ())) else some (.inl (i64.wrap (v+1)))) else some (.inr (.inl ()))
def zN (xm:zd->zd->Option Bool) (s1:List zd) (s2:List zd) (v:Int):Option (Unit⊕Unit):=zaf (fun s:Int=>zB xm s1 s2 s) v
def zat (xm:zd->zd->Option Bool) (xn:zb->zb->Option Bool) (xu:(List zb)->(List zb)->Option Bool) (xw:(List zd)->(List zd)->Option Bool) (s1:List zd) (s2:List zd):Option Bool:=if ((s1.length:Int) !=(s2.length:Int)) then some false else (zN xm s1 s2 0>>=fun q=>match q with | .inl u=>(some true) | .inr u2=>(some false))
def zI:Nat->(zd->zd->Option Bool)×(zb->zb->Option Bool)×((List zb)->(List zb)->Option Bool)×((List zd)->(List zd)->Option Bool) | 0=>(fun _ _=>none,fun _ _=>none,fun _ _=>none,fun _ _=>none) | fuel+1=>(fun av b=>zrv (zI fuel).1 (zI fuel).2.1 (zI fuel).2.2.1 (zI fuel).2.2.2 av b,fun v wv=>zkA (zI fuel).1 (zI fuel).2.1 (zI fuel).2.2.1 (zI fuel).2.2.2 v wv,fun s1 s2=>zah (zI fuel).1 (zI fuel).2.1 (zI fuel).2.2.1 (zI fuel).2.2.2 s1 s2,fun s1 s2=>zat (zI fuel).1 (zI fuel).2.1 (zI fuel).2.2.1 (zI fuel).2.2.2 s1 s2)
def ziu (fuel:Nat):zd->zd->Option Bool:=(zI fuel).1
def zeR (fuel:Nat):zb->zb->Option Bool:=(zI fuel).2.1
def zQ (fuel:Nat):(List zb)->(List zb)->Option Bool:=(zI fuel).2.2.1
def zY (fuel:Nat):(List zd)->(List zd)->Option Bool:=(zI fuel).2.2.2
theorem zbU (h:zv xn s1 s2 v=some (.inl v')):zD xn s1 s2 v=zD xn s1 s2 v':=zF (body:=fun s:Int=>zv xn s1 s2 s) h
theorem zaC (h:zv xn s1 s2 v=some (.inr kc)):zD xn s1 s2 v=some kc:=zG (body:=fun s:Int=>zv xn s1 s2 s) h
theorem zcB (h:zB xm s1 s2 v=some (.inl v')):zN xm s1 s2 v=zN xm s1 s2 v':=zF (body:=fun s:Int=>zB xm s1 s2 s) h
theorem zaQ (h:zB xm s1 s2 v=some (.inr kc)):zN xm s1 s2 v=some kc:=zG (body:=fun s:Int=>zB xm s1 s2 s) h
def zvo (fuel:Nat) (av:zd) (b:zd):Option Bool:=(zma fuel av>>=fun rv=>if rv then (ziu fuel av b>>=fun w8=>some w8) else some false)>>=fun g=>some g
def zbR (b:List UInt8) (i:Int) (xa:(List zc)->Int->(List UInt8)->Option zd) (rv:((List zM)×Int×Int)) (w8:List Int) (sv:List zc) (x5:za) (kH:List UInt8) (met:Bool) (k:Int) (f3:List Int) (f4:List Str) (f5:List zd):Option (((List UInt8)×Bool×Int×(List Int)×(List Str)×(List zd))⊕((List UInt8)×Bool×(List Int)×(List Str)×(List zd))):=if (decide (k<(rv.1.length:Int))) then (idx rv.1 k>>=fun x6=>idx w8 i>>=fun x7=>if (x6.Field !=x7) then some (.inl (kH,met,(i64.wrap (k+1)),f3,f4,f5)) else idx rv.1 k>>=fun x8=>idx rv.1 k>>=fun x9=>cut b x8.R.At x9.R.To>>=fun v=>((if (!x5.Repeated) then some ([],[]) else (some (f3,f4)) :Option ((List Int)×(List Str))))>>=fun p=>idx rv.1 k>>=fun x10=>if x10.Run then (zfR x5.Kind v>>=fun kg=>app 8 p.1 kg.1>>=fun v2=>some (.inl (kH,true,(i64.wrap (k+1)),v2,p.2,f5))) else zaN x5.Kind>>=fun kq=>if kq then (zeW x5.Kind v>>=fun rv5=>app 8 p.1 ([rv5.1]:List Int)>>=fun v3=>some (.inl (kH,true,(i64.wrap (k+1)),v3,p.2,f5))) else if ((x5.Kind==17)&&x5.Repeated) then (xa sv x5.Of v>>=fun rv6=>app 48 f5 ([rv6]:List zd)>>=fun v5=>some (.inl (kH,true,(i64.wrap (k+1)),p.1,p.2,v5))) else if (x5.Kind==17) then (app 1 kH v>>=fun v6=>some (.inl (v6,true,(i64.wrap (k+1)),p.1,p.2,f5))) else app 16 p.2 ([v]:List Str)>>=fun v7=>some (.inl (kH,true,(i64.wrap (k+1)),p.1,v7,f5))) else some (.inr (kH,met,f3,f4,f5))
def zev (b:List UInt8) (i:Int) (xa:(List zc)->Int->(List UInt8)->Option zd) (rv:((List zM)×Int×Int)) (w8:List Int) (sv:List zc) (x5:za) (kH:List UInt8) (met:Bool) (k:Int) (f3:List Int) (f4:List Str) (f5:List zd):Option ((List UInt8)×Bool×(List Int)×(List Str)×(List zd)):=zaf (fun s:((List UInt8)×Bool×Int×(List Int)×(List Str)×(List zd))=>zbR b i xa rv w8 sv x5 s.1 s.2.1 s.2.2.1 s.2.2.2.1 s.2.2.2.2.1 s.2.2.2.2.2) (kH,met,k,f3,f4,f5)
def zbQ (b:List UInt8) (xa:(List zc)->Int->(List UInt8)->Option zd) (root:Int) (rv:((List zM)×Int×Int)) (w8:List Int) (sv:List zc) (i:Int) (f:List zb):Option ((Int×(List zb))⊕(List zb)):=if (decide (i<(w8.length:Int))) then (idx sv root>>=fun x3=>idx w8 i>>=fun x4=>idx x3.Fields x4>>=fun x5=>zev b i xa rv w8 sv x5 [] false 0 [] [] []>>=fun q=>((if (q.2.1&&((x5.Kind==17)&&(!x5.Repeated))) then (xa sv x5.Of q.1>>=fun rv7=>some ([rv7]:List zd)) else (some q.2.2.2.2) :Option (List zd)))>>=fun p2=>zgv (⟨x5.Number,q.2.2.1,q.2.2.2.1,p2⟩:zb)>>=fun rv8=>if (decide (rv8>0)) then (app 80 f ([(⟨x5.Number,q.2.2.1,q.2.2.2.1,p2⟩:zb)]:List zb)>>=fun v9=>some (.inl ((i64.wrap (i+1)),v9))) else some (.inl ((i64.wrap (i+1)),f))) else some (.inr f)
def zeu (b:List UInt8) (xa:(List zc)->Int->(List UInt8)->Option zd) (root:Int) (rv:((List zM)×Int×Int)) (w8:List Int) (sv:List zc) (i:Int) (f:List zb):Option (List zb):=zaf (fun s:(Int×(List zb))=>zbQ b xa root rv w8 sv s.1 s.2) (i,f)
def zba (b:List UInt8) (rv:((List zM)×Int×Int)) (k2:Int) (f12:List Str):Option ((Int×(List Str))⊕(List Str)):=if (decide (k2<(rv.1.length:Int))) then (idx rv.1 k2>>=fun x11=>if (decide (x11.Field<0)) then (idx rv.1 k2>>=fun x12=>idx rv.1 k2>>=fun x13=>cut b x12.R.From x13.R.To>>=fun v10=>app 16 f12 ([v10]:List Str)>>=fun v11=>some (.inl ((i64.wrap (k2+1)),v11))) else some (.inl ((i64.wrap (k2+1)),f12))) else some (.inr f12)
def zew (b:List UInt8) (rv:((List zM)×Int×Int)) (k2:Int) (f12:List Str):Option (List Str):=zaf (fun s:(Int×(List Str))=>zba b rv s.1 s.2) (k2,f12)
def zgw (xa:(List zc)->Int->(List UInt8)->Option zd) (sv:List zc) (root:Int) (b:List UInt8):Option zd:=idx sv root>>=fun x=>zgX x b>>=fun rv=>idx sv root>>=fun x2=>zfg x2>>=fun w8=>zeu b xa root rv w8 sv 0 []>>=fun q2=>zew b rv 0 []>>=fun q3=>some (⟨q2,q3⟩:zd)
def zee:Nat->(List zc)->Int->(List UInt8)->Option zd | 0,_,_,_=>none | fuel+1,sv,root,b=>zgw (zee fuel) sv root b
theorem zjy {b:List UInt8} {i:Int} {xa:(List zc)->Int->(List UInt8)->Option zd} {rv:((List zM)×Int×Int)} {w8:List Int} {sv:List zc} {x5:za} {kH:List UInt8} {met:Bool} {k:Int} {f3:List Int} {f4:List Str} {f5:List zd} {joined':List UInt8} {ku:Bool} {k':Int} {f3':List Int} {f4':List Str} {f5':List zd} (h:zbR b i xa rv w8 sv x5 kH met k f3 f4 f5=some (.inl (joined',ku,k',f3',f4',f5'))):zev b i xa rv w8 sv x5 kH met k f3 f4 f5=zev b i xa rv w8 sv x5 joined' ku k' f3' f4' f5':=zF (body:=fun s:((List UInt8)×Bool×Int×(List Int)×(List Str)×(List zd))=>zbR b i xa rv w8 sv x5 s.1 s.2.1 s.2.2.1 s.2.2.2.1 s.2.2.2.2.1 s.2.2.2.2.2) h
theorem zpi {b:List UInt8} {i:Int} {xa:(List zc)->Int->(List UInt8)->Option zd} {rv:((List zM)×Int×Int)} {w8:List Int} {sv:List zc} {x5:za} {kH:List UInt8} {met:Bool} {k:Int} {f3:List Int} {f4:List Str} {f5:List zd} {kc:((List UInt8)×Bool×(List Int)×(List Str)×(List zd))} (h:zbR b i xa rv w8 sv x5 kH met k f3 f4 f5=some (.inr kc)):zev b i xa rv w8 sv x5 kH met k f3 f4 f5=some kc:=zG (body:=fun s:((List UInt8)×Bool×Int×(List Int)×(List Str)×(List zd))=>zbR b i xa rv w8 sv x5 s.1 s.2.1 s.2.2.1 s.2.2.2.1 s.2.2.2.2.1 s.2.2.2.2.2) h
theorem zpg {b:List UInt8} {xa:(List zc)->Int->(List UInt8)->Option zd} {root:Int} {rv:((List zM)×Int×Int)} {w8:List Int} {sv:List zc} {i:Int} {f:List zb} {i':Int} {f':List zb} (h:zbQ b xa root rv w8 sv i f=some (.inl (i',f'))):zeu b xa root rv w8 sv i f=zeu b xa root rv w8 sv i' f':=zF (body:=fun s:(Int×(List zb))=>zbQ b xa root rv w8 sv s.1 s.2) h
theorem zph {b:List UInt8} {xa:(List zc)->Int->(List UInt8)->Option zd} {root:Int} {rv:((List zM)×Int×Int)} {w8:List Int} {sv:List zc} {i:Int} {f:List zb} {kc:List zb} (h:zbQ b xa root rv w8 sv i f=some (.inr kc)):zeu b xa root rv w8 sv i f=some kc:=zG (body:=fun s:(Int×(List zb))=>zbQ b xa root rv w8 sv s.1 s.2) h
theorem zjz {b:List UInt8} {rv:((List zM)×Int×Int)} {k2:Int} {f12:List Str} {k2':Int} {f12':List Str} (h:zba b rv k2 f12=some (.inl (k2',f12'))):zew b rv k2 f12=zew b rv k2' f12':=zF (body:=fun s:(Int×(List Str))=>zba b rv s.1 s.2) h
theorem zpj {b:List UInt8} {rv:((List zM)×Int×Int)} {k2:Int} {f12:List Str} {kc:List Str} (h:zba b rv k2 f12=some (.inr kc)):zew b rv k2 f12=some kc:=zG (body:=fun s:(Int×(List Str))=>zba b rv s.1 s.2) h
def zme (fuel:Nat) (sv:List zc) (root:Int) (x:zd):Option Int:=zkz fuel sv root x>>=fun rv=>if rv then some 0 else (zir sv>>=fun w8=>if (!w8) then some 9 else (if ((decide (root<0))|| (decide (root>=(sv.length:Int)))) then some 2 else some 12))
def zmg (k:Int):Option Int:=zjj k 0>>=fun rv=>if (rv==4) then some 5 else if (rv==8) then some 1 else some 0
def zmf (number:Int) (size:Int):Option (List UInt8):=zmF ([]:List UInt8) number ([]:List UInt8)>>=fun rv=>zkw 4 (u64.wrap size)>>=fun w8=>cut rv 0 (i64.wrap ((rv.length:Int) - 1))>>=fun v=>app 1 v w8.1>>=fun v2=>some v2
def zcl (wv:zi) (b:List UInt8):Option zi:=app 24 wv.pieces ([b]:List (List UInt8))>>=fun v=>some (⟨v,(i64.wrap (wv.size+(b.length:Int)))⟩:zi)
def zcr (wv:zi) (number:Int) (wire:Int) (value:List UInt8):Option zi:=zkq ([]:List UInt8) number wire value>>=fun rv=>zcl wv rv.1>>=fun w8=>some w8
def zfI (wv:zi) (f:za) (l:List Int):Option zi:=zrj f.Kind l>>=fun rv=>if f.Repeated then (zcr wv f.Number 2 rv.1>>=fun w8=>some w8) else zmg f.Kind>>=fun kg=>zcr wv f.Number kg rv.1>>=fun kq=>some kq
def zaV (xe:zi->(List zc)->za->zb->Option zi) (sv:List zc) (x:zd) (x2:zc) (v:Int) (f:List (List UInt8)) (f2:Int):Option ((Int×(List (List UInt8))×Int)⊕((List (List UInt8))×Int)):=if (decide (v<(x.Values.length:Int))) then (idx x.Values v>>=fun x3=>zeh x2 x3.Number>>=fun rv=>idx x2.Fields rv.1>>=fun x4=>xe (⟨f,f2⟩:zi) sv x4 x3>>=fun w8=>some (.inl ((i64.wrap (v+1)),w8.pieces,w8.size))) else some (.inr (f,f2))
def zcy (xe:zi->(List zc)->za->zb->Option zi) (sv:List zc) (x:zd) (x2:zc) (v:Int) (f:List (List UInt8)) (f2:Int):Option ((List (List UInt8))×Int):=zaf (fun s:(Int×(List (List UInt8))×Int)=>zaV xe sv x x2 s.1 s.2.1 s.2.2) (v,f,f2)
def zaW (x:zd) (v2:Int) (f5:List (List UInt8)) (f6:Int):Option ((Int×(List (List UInt8))×Int)⊕((List (List UInt8))×Int)):=if (decide (v2<(x.Unknown.length:Int))) then (idx x.Unknown v2>>=fun x5=>lenO x5>>=fun v3=>zcl (⟨f5,f6⟩:zi) v3>>=fun kg=>some (.inl ((i64.wrap (v2+1)),kg.pieces,kg.size))) else some (.inr (f5,f6))
def zcz (x:zd) (v2:Int) (f5:List (List UInt8)) (f6:Int):Option ((List (List UInt8))×Int):=zaf (fun s:(Int×(List (List UInt8))×Int)=>zaW x s.1 s.2.1 s.2.2) (v2,f5,f6)
def zdR (xp:zi->(List zc)->Int->zd->Option zi) (xd:zi->(List zc)->za->zd->Option zi) (xe:zi->(List zc)->za->zb->Option zi) (wv:zi) (sv:List zc) (message:Int) (x:zd):Option zi:=idx sv message>>=fun x2=>zcy xe sv x x2 0 wv.pieces wv.size>>=fun q=>zcz x 0 q.1 q.2>>=fun q2=>some (⟨q2.1,q2.2⟩:zi)
def zfH (xp:zi->(List zc)->Int->zd->Option zi) (xd:zi->(List zc)->za->zd->Option zi) (xe:zi->(List zc)->za->zb->Option zi) (wv:zi) (sv:List zc) (f:za) (x:zd):Option zi:=zcl wv ([]:List UInt8)>>=fun rv=>xp rv sv f.Of x>>=fun w8=>zmf f.Number (i64.wrap (w8.size - wv.size))>>=fun kg=>idx w8.pieces (wv.pieces.length:Int)>>=fun x2=>idx (w8.pieces.set (Int.toNat (wv.pieces.length:Int)) kg) (wv.pieces.length:Int)>>=fun x3=>some (⟨(w8.pieces.set (Int.toNat (wv.pieces.length:Int)) kg),(i64.wrap (w8.size+(x3.length:Int)))⟩:zi)
def zbn (f:za) (v:zb) (v2:Int) (f4:List (List UInt8)) (f5:Int):Option ((Int×(List (List UInt8))×Int)⊕((List (List UInt8))×Int)):=if (decide (v2<(v.Texts.length:Int))) then (idx v.Texts v2>>=fun x=>lenO x>>=fun v3=>zcr (⟨f4,f5⟩:zi) f.Number 2 v3>>=fun w8=>some (.inl ((i64.wrap (v2+1)),w8.pieces,w8.size))) else some (.inr (f4,f5))
def zdf (f:za) (v:zb) (v2:Int) (f4:List (List UInt8)) (f5:Int):Option ((List (List UInt8))×Int):=zaf (fun s:(Int×(List (List UInt8))×Int)=>zbn f v s.1 s.2.1 s.2.2) (v2,f4,f5)
def zbo (f:za) (xd:zi->(List zc)->za->zd->Option zi) (sv:List zc) (v:zb) (v4:Int) (f8:List (List UInt8)) (f9:Int):Option ((Int×(List (List UInt8))×Int)⊕((List (List UInt8))×Int)):=if (decide (v4<(v.Subs.length:Int))) then (idx v.Subs v4>>=fun x2=>xd (⟨f8,f9⟩:zi) sv f x2>>=fun kg=>some (.inl ((i64.wrap (v4+1)),kg.pieces,kg.size))) else some (.inr (f8,f9))
def zdg (f:za) (xd:zi->(List zc)->za->zd->Option zi) (sv:List zc) (v:zb) (v4:Int) (f8:List (List UInt8)) (f9:Int):Option ((List (List UInt8))×Int):=zaf (fun s:(Int×(List (List UInt8))×Int)=>zbo f xd sv v s.1 s.2.1 s.2.2) (v4,f8,f9)
def zeL (xp:zi->(List zc)->Int->zd->Option zi) (xd:zi->(List zc)->za->zd->Option zi) (xe:zi->(List zc)->za->zb->Option zi) (wv:zi) (sv:List zc) (f:za) (v:zb):Option zi:=((if (decide ((v.Words.length:Int)>0)) then (zfI wv f v.Words>>=fun rv=>some (rv.pieces,rv.size)) else (some (wv.pieces,wv.size)) :Option ((List (List UInt8))×Int)))>>=fun p=>zdf f v 0 p.1 p.2>>=fun q=>zdg f xd sv v 0 q.1 q.2>>=fun q2=>some (⟨q2.1,q2.2⟩:zi)
def zL:Nat->(zi->(List zc)->Int->zd->Option zi)×(zi->(List zc)->za->zd->Option zi)×(zi->(List zc)->za->zb->Option zi) | 0=>(fun _ _ _ _=>none,fun _ _ _ _=>none,fun _ _ _ _=>none) | fuel+1=>(fun wv sv message x=>zdR (zL fuel).1 (zL fuel).2.1 (zL fuel).2.2 wv sv message x,fun wv sv f x=>zfH (zL fuel).1 (zL fuel).2.1 (zL fuel).2.2 wv sv f x,fun wv sv f v=>zeL (zL fuel).1 (zL fuel).2.1 (zL fuel).2.2 wv sv f v)
def zbG (fuel:Nat):zi->(List zc)->Int->zd->Option zi:=(zL fuel).1
def zer (fuel:Nat):zi->(List zc)->za->zd->Option zi:=(zL fuel).2.1
def zds (fuel:Nat):zi->(List zc)->za->zb->Option zi:=(zL fuel).2.2
theorem zlB {xe:zi->(List zc)->za->zb->Option zi} {sv:List zc} {x:zd} {x2:zc} {v:Int} {f:List (List UInt8)} {f2:Int} {v':Int} {f':List (List UInt8)} {f2':Int} (h:zaV xe sv x x2 v f f2=some (.inl (v',f',f2'))):zcy xe sv x x2 v f f2=zcy xe sv x x2 v' f' f2':=zF (body:=fun s:(Int×(List (List UInt8))×Int)=>zaV xe sv x x2 s.1 s.2.1 s.2.2) h
theorem zlC {xe:zi->(List zc)->za->zb->Option zi} {sv:List zc} {x:zd} {x2:zc} {v:Int} {f:List (List UInt8)} {f2:Int} {kc:((List (List UInt8))×Int)} (h:zaV xe sv x x2 v f f2=some (.inr kc)):zcy xe sv x x2 v f f2=some kc:=zG (body:=fun s:(Int×(List (List UInt8))×Int)=>zaV xe sv x x2 s.1 s.2.1 s.2.2) h
theorem zlD {x:zd} {v2:Int} {f5:List (List UInt8)} {f6:Int} {v2':Int} {f5':List (List UInt8)} {f6':Int} (h:zaW x v2 f5 f6=some (.inl (v2',f5',f6'))):zcz x v2 f5 f6=zcz x v2' f5' f6':=zF (body:=fun s:(Int×(List (List UInt8))×Int)=>zaW x s.1 s.2.1 s.2.2) h
theorem zlE {x:zd} {v2:Int} {f5:List (List UInt8)} {f6:Int} {kc:((List (List UInt8))×Int)} (h:zaW x v2 f5 f6=some (.inr kc)):zcz x v2 f5 f6=some kc:=zG (body:=fun s:(Int×(List (List UInt8))×Int)=>zaW x s.1 s.2.1 s.2.2) h
theorem zmT {f:za} {v:zb} {v2:Int} {f4:List (List UInt8)} {f5:Int} {v2':Int} {f4':List (List UInt8)} {f5':Int} (h:zbn f v v2 f4 f5=some (.inl (v2',f4',f5'))):zdf f v v2 f4 f5=zdf f v v2' f4' f5':=zF (body:=fun s:(Int×(List (List UInt8))×Int)=>zbn f v s.1 s.2.1 s.2.2) h
theorem zmU {f:za} {v:zb} {v2:Int} {f4:List (List UInt8)} {f5:Int} {kc:((List (List UInt8))×Int)} (h:zbn f v v2 f4 f5=some (.inr kc)):zdf f v v2 f4 f5=some kc:=zG (body:=fun s:(Int×(List (List UInt8))×Int)=>zbn f v s.1 s.2.1 s.2.2) h
theorem zmV {f:za} {xd:zi->(List zc)->za->zd->Option zi} {sv:List zc} {v:zb} {v4:Int} {f8:List (List UInt8)} {f9:Int} {v4':Int} {f8':List (List UInt8)} {f9':Int} (h:zbo f xd sv v v4 f8 f9=some (.inl (v4',f8',f9'))):zdg f xd sv v v4 f8 f9=zdg f xd sv v v4' f8' f9':=zF (body:=fun s:(Int×(List (List UInt8))×Int)=>zbo f xd sv v s.1 s.2.1 s.2.2) h
theorem zmW {f:za} {xd:zi->(List zc)->za->zd->Option zi} {sv:List zc} {v:zb} {v4:Int} {f8:List (List UInt8)} {f9:Int} {kc:((List (List UInt8))×Int)} (h:zbo f xd sv v v4 f8 f9=some (.inr kc)):zdg f xd sv v v4 f8 f9=some kc:=zG (body:=fun s:(Int×(List (List UInt8))×Int)=>zbo f xd sv v s.1 s.2.1 s.2.2) h
def zeq (wv:Option zi):Option (List UInt8):=wv>>=fun x=>zaz x.pieces>>=fun rv=>some rv
def zjw (fuel:Nat) (sv:List zc) (root:Int) (x:zd):Option ((List UInt8)×Int):=zme fuel sv root x>>=fun rv=>if (rv !=0) then some ([],rv) else zbG fuel (⟨[],0⟩:zi) sv root x>>=fun w8=>zeq (some w8)>>=fun kg=>some (kg,0)
def zqp (fuel:Nat) (sv:List zc) (root:Int) (b:List UInt8):Option Bool:=zui fuel sv root b 64>>=fun rv=>if (rv.2 !=0) then some false else zbG fuel (⟨[],0⟩:zi) sv root rv.1>>=fun w8=>zeq (some w8)>>=fun kg=>znq kg b>>=fun kq=>some kq
def zfK (fuel:Nat):Option Bool:=zjw fuel ([(⟨[109],([(⟨[97],1,3,true,false,0⟩:za)]:List za)⟩:zc)]:List zc) 0 (⟨([(⟨1,([1,300]:List Int),[],[]⟩:zb)]:List zb),[]⟩:zd)>>=fun rv=>(if ((i64.wrap rv.2)==0) then (zgm rv.1 ([(10:UInt8),(3:UInt8),(1:UInt8),(172:UInt8),(2:UInt8)]:List UInt8)>>=fun w8=>some w8) else some false)>>=fun g=>some g
def zbf (xj:(List zc)->za->zb->Option (List UInt8)) (root:Int) (sv:List zc) (x:zd) (out:List UInt8) (i:Int):Option (((List UInt8)×Int)⊕(List UInt8)):=if (decide (i<(x.Values.length:Int))) then (idx sv root>>=fun x2=>idx sv root>>=fun x3=>idx x.Values i>>=fun x4=>zet x3 x4.Number>>=fun rv=>idx x2.Fields rv>>=fun x5=>idx x.Values i>>=fun x6=>xj sv x5 x6>>=fun w8=>app 1 out w8>>=fun v=>some (.inl (v,(i64.wrap (i+1))))) else some (.inr out)
def zcQ (xj:(List zc)->za->zb->Option (List UInt8)) (root:Int) (sv:List zc) (x:zd) (out:List UInt8) (i:Int):Option (List UInt8):=zaf (fun s:((List UInt8)×Int)=>zbf xj root sv x s.1 s.2) (out,i)
def zbg (x:zd) (out3:List UInt8) (i2:Int):Option (((List UInt8)×Int)⊕(List UInt8)):=if (decide (i2<(x.Unknown.length:Int))) then (idx x.Unknown i2>>=fun x7=>app 1 out3 x7>>=fun v2=>some (.inl (v2,(i64.wrap (i2+1))))) else some (.inr out3)
def zcR (x:zd) (out3:List UInt8) (i2:Int):Option (List UInt8):=zaf (fun s:((List UInt8)×Int)=>zbg x s.1 s.2) (out3,i2)
def zeo (xi:(List zc)->Int->zd->Option (List UInt8)) (xj:(List zc)->za->zb->Option (List UInt8)) (sv:List zc) (root:Int) (x:zd):Option (List UInt8):=zcQ xj root sv x [] 0>>=fun q=>zcR x q 0>>=fun q2=>some q2
def zbv (fuel:Nat) (f:za) (v:zb) (out:List UInt8) (i:Int):Option (((List UInt8)×Int)⊕(List UInt8)):=if (decide (i<(v.Texts.length:Int))) then (idx v.Texts i>>=fun x2=>lenO x2>>=fun v3=>zdC fuel f.Number 2 v3>>=fun rv8=>app 1 out rv8>>=fun v4=>some (.inl (v4,(i64.wrap (i+1))))) else some (.inr out)
def zdm (fuel:Nat) (f:za) (v:zb) (out:List UInt8) (i:Int):Option (List UInt8):=zaf (fun s:((List UInt8)×Int)=>zbv fuel f v s.1 s.2) (out,i)
def zbw (fuel:Nat) (f:za) (xi:(List zc)->Int->zd->Option (List UInt8)) (sv:List zc) (v:zb) (out3:List UInt8) (i2:Int):Option (((List UInt8)×Int)⊕(List UInt8)):=if (decide (i2<(v.Subs.length:Int))) then (idx v.Subs i2>>=fun x3=>xi sv f.Of x3>>=fun rv9=>zdC fuel f.Number 2 rv9>>=fun rv10=>app 1 out3 rv10>>=fun v5=>some (.inl (v5,(i64.wrap (i2+1))))) else some (.inr out3)
def zdn (fuel:Nat) (f:za) (xi:(List zc)->Int->zd->Option (List UInt8)) (sv:List zc) (v:zb) (out3:List UInt8) (i2:Int):Option (List UInt8):=zaf (fun s:((List UInt8)×Int)=>zbw fuel f xi sv v s.1 s.2) (out3,i2)
def zeN (fuel:Nat) (xi:(List zc)->Int->zd->Option (List UInt8)) (xj:(List zc)->za->zb->Option (List UInt8)) (sv:List zc) (f:za) (v:zb):Option (List UInt8):=zaN f.Kind>>=fun rv=>if (rv&&f.Repeated) then (zgt fuel f.Kind v.Words>>=fun w8=>zdC fuel f.Number 2 w8>>=fun kg=>some kg) else zaN f.Kind>>=fun kq=>if kq then (zda f.Kind>>=fun rv5=>idx v.Words 0>>=fun x=>zfA fuel f.Kind x>>=fun rv6=>zdC fuel f.Number rv5 rv6>>=fun rv7=>some rv7) else zdm fuel f v [] 0>>=fun q=>zdn fuel f xi sv v q 0>>=fun q2=>some q2
def zap:Nat->((List zc)->Int->zd->Option (List UInt8))×((List zc)->za->zb->Option (List UInt8)) | 0=>(fun _ _ _=>none,fun _ _ _=>none) | fuel+1=>(fun sv root x=>zeo (zap fuel).1 (zap fuel).2 sv root x,fun sv f v=>zeN fuel (zap fuel).1 (zap fuel).2 sv f v)
def zbZ (fuel:Nat):(List zc)->Int->zd->Option (List UInt8):=(zap fuel).1
def zex (fuel:Nat):(List zc)->za->zb->Option (List UInt8):=(zap fuel).2
theorem zmm {xj:(List zc)->za->zb->Option (List UInt8)} {root:Int} {sv:List zc} {x:zd} {out:List UInt8} {i:Int} {out':List UInt8} {i':Int} (h:zbf xj root sv x out i=some (.inl (out',i'))):zcQ xj root sv x out i=zcQ xj root sv x out' i':=zF (body:=fun s:((List UInt8)×Int)=>zbf xj root sv x s.1 s.2) h
theorem zmn {xj:(List zc)->za->zb->Option (List UInt8)} {root:Int} {sv:List zc} {x:zd} {out:List UInt8} {i:Int} {kc:List UInt8} (h:zbf xj root sv x out i=some (.inr kc)):zcQ xj root sv x out i=some kc:=zG (body:=fun s:((List UInt8)×Int)=>zbf xj root sv x s.1 s.2) h
theorem zmo {x:zd} {out3:List UInt8} {i2:Int} {out3':List UInt8} {i2':Int} (h:zbg x out3 i2=some (.inl (out3',i2'))):zcR x out3 i2=zcR x out3' i2':=zF (body:=fun s:((List UInt8)×Int)=>zbg x s.1 s.2) h
theorem zmp {x:zd} {out3:List UInt8} {i2:Int} {kc:List UInt8} (h:zbg x out3 i2=some (.inr kc)):zcR x out3 i2=some kc:=zG (body:=fun s:((List UInt8)×Int)=>zbg x s.1 s.2) h
theorem zni {fuel:Nat} {f:za} {v:zb} {out:List UInt8} {i:Int} {out':List UInt8} {i':Int} (h:zbv fuel f v out i=some (.inl (out',i'))):zdm fuel f v out i=zdm fuel f v out' i':=zF (body:=fun s:((List UInt8)×Int)=>zbv fuel f v s.1 s.2) h
theorem znj {fuel:Nat} {f:za} {v:zb} {out:List UInt8} {i:Int} {kc:List UInt8} (h:zbv fuel f v out i=some (.inr kc)):zdm fuel f v out i=some kc:=zG (body:=fun s:((List UInt8)×Int)=>zbv fuel f v s.1 s.2) h
theorem znk {fuel:Nat} {f:za} {xi:(List zc)->Int->zd->Option (List UInt8)} {sv:List zc} {v:zb} {out3:List UInt8} {i2:Int} {out3':List UInt8} {i2':Int} (h:zbw fuel f xi sv v out3 i2=some (.inl (out3',i2'))):zdn fuel f xi sv v out3 i2=zdn fuel f xi sv v out3' i2':=zF (body:=fun s:((List UInt8)×Int)=>zbw fuel f xi sv v s.1 s.2) h
theorem znl {fuel:Nat} {f:za} {xi:(List zc)->Int->zd->Option (List UInt8)} {sv:List zc} {v:zb} {out3:List UInt8} {i2:Int} {kc:List UInt8} (h:zbw fuel f xi sv v out3 i2=some (.inr kc)):zdn fuel f xi sv v out3 i2=some kc:=zG (body:=fun s:((List UInt8)×Int)=>zbw fuel f xi sv v s.1 s.2) h
def zeM (fuel:Nat) (sv:List zc) (root:Int) (b:List UInt8):Option Bool:=zfK fuel>>=fun rv=>if (!rv) then some false else (zgU sv>>=fun w8=>if ((!w8)|| (decide ((b.length:Int)>1500))) then some true else (zhz fuel sv root b 64>>=fun kg=>if kg then (zee fuel sv root b>>=fun kq=>zbZ fuel sv root kq>>=fun rv5=>zgm rv5 b>>=fun rv6=>some rv6) else some false)>>=fun g=>zqp fuel sv root b>>=fun rv7=>some (rv7==g))
end
end Go.Proofs.YtkgohoggipdokaaGreat
