/-
  What the Go functions do, as plain functions. No condition.
-/
import Derived.Test.YtkgohoggipdokaaGreatx2K2
set_option autoImplicit true
set_option relaxedAutoImplicit true
namespace Go.Proofs.YtkgohoggipdokaaGreat
open Go.IntKind (i32 i64 u32 u64 u8)
open Go
set_option linter.unusedVariables false
abbrev Str:=List UInt8
structure zHq where
  a0:Str
  a1:Str
  a2:Str
  a3:Str
  a4:Str
  a5:Str
  a6:Str
  a7:Str
  a8:Str
  a9:Str
  a10:Str
  a11:Str
  a12:Str
  a13:Str
  a14:Str deriving DecidableEq
structure zn where
  Number:Int
  Wire:Int
  From:Int
  At:Int
  To:Int deriving DecidableEq
def zN:Rp zn:=⟨5,true,fun x=>[.int .i64 x.Number,.int .i64 x.Wire,.int .i64 x.From,.int .i64 x.At,.int .i64 x.To],fun _=>rfl,by decide⟩
structure zjO where
  Record:zn
  Field:Int
  Run:Bool deriving DecidableEq
structure zo where
  name:Str
  wire:Int deriving DecidableEq
def zar:Rp zo:=⟨2,true,fun x=>[.str x.name,.int .i64 x.wire],fun _=>rfl,by decide⟩
mutual
structure zc where
  Values:(List za)
  Unknown:(List Str)
structure za where
  Number:Int
  Words:(List Int)
  Texts:(List Str)
  Subs:(List zc)
end
mutual
def zgy:zc->List LV | ⟨x0,x1⟩=>[.sl x0.length 4 (zdi x0),.sl x1.length Rp.str.size (x1.flatMap Rp.str.lv)]
def zgd:List zc->List LV | []=>[] | x::l=>zgy x++zgd l
def zds:za->List LV | ⟨x0,x1,x2,x3⟩=>[.int .i64 x0,.sl x1.length (Rp.int .u64).size (x1.flatMap (Rp.int .u64).lv),.sl x2.length Rp.str.size (x2.flatMap Rp.str.lv),.sl x3.length 2 (zgd x3)]
def zdi:List za->List LV | []=>[] | x::l=>zds x++zdi l
end
theorem zpt (l:List zc):zgd l=l.flatMap zgy:=by
  induction l with
  | nil=>rfl
  | cons x l ih=>rw [zgd,ih,xN]
def zi:Rp zc:=⟨2,true,zgy,fun x=>by cases x;rfl,by decide⟩
theorem zjB (l:List za):zdi l=l.flatMap zds:=by
  induction l with
  | nil=>rfl
  | cons x l ih=>rw [zdi,ih,xN]
def zf:Rp za:=⟨4,true,zds,fun x=>by cases x;rfl,by decide⟩
theorem zbu (x:zc):zi.lv x=[.sl x.Values.length zf.size (x.Values.flatMap zf.lv),.sl x.Unknown.length Rp.str.size (x.Unknown.flatMap Rp.str.lv)]:=by
  cases x;simp only [zi,zgy,zjB,zf]<;>rfl
theorem zt (x:za):zf.lv x=[.int .i64 x.Number,.sl x.Words.length (Rp.int .u64).size (x.Words.flatMap (Rp.int .u64).lv),.sl x.Texts.length Rp.str.size (x.Texts.flatMap Rp.str.lv),.sl x.Subs.length zi.size (x.Subs.flatMap zi.lv)]:=by
  cases x;simp only [zf,zds,zpt,zi]<;>rfl
structure zb where
  Name:Str
  Number:Int
  Kind:Int
  Repeated:Bool
  Packed:Bool
  Of:Int deriving DecidableEq
def zd:Rp zb:=⟨6,true,fun x=>[.str x.Name,.int .i64 x.Number,.int .i64 x.Kind,.bool x.Repeated,.bool x.Packed,.int .i64 x.Of],fun _=>rfl,by decide⟩
structure ze where
  Name:Str
  Fields:(List zb) deriving DecidableEq
def zh:Rp ze:=⟨2,true,fun x=>[.str x.Name,.sl x.Fields.length zd.size (x.Fields.flatMap zd.lv)],fun _=>rfl,by decide⟩
structure zQ where
  Number:Int
  Wire:Int deriving DecidableEq
def zbP:Rp zQ:=⟨2,true,fun x=>[.int .i64 x.Number,.int .i64 x.Wire],fun _=>rfl,by decide⟩
structure zp where
  message:Int
  name:Str deriving DecidableEq
def zE:Rp zp:=⟨2,true,fun x=>[.int .i64 x.message,.str x.name],fun _=>rfl,by decide⟩
structure zr where
  message:Int
  number:Int deriving DecidableEq
def zG:Rp zr:=⟨2,true,fun x=>[.int .i64 x.message,.int .i64 x.number],fun _=>rfl,by decide⟩
structure zax where
  size:Int
  kinds:(List Int)
  names:(List (zp×Bool))
  numbers:(List (zr×Bool))
structure zaw where
  Message:Int
  Field:Int
  What:Int deriving DecidableEq
def zdY:Rp zaw:=⟨3,true,fun x=>[.int .i64 x.Message,.int .i64 x.Field,.int .i64 x.What],fun _=>rfl,by decide⟩
structure zuv where
  number:Int
  wire:Int deriving DecidableEq
structure zuu where
  field:Int
  run:Bool
  e:Int deriving DecidableEq
structure zut where
  R:zn
  Field:Int
  Run:Bool deriving DecidableEq
structure zia where
  message:Int
  number:Int
  wire:Int deriving DecidableEq
structure zGH where
  s:(List ze)
  b:(List UInt8)
  met:(List (zia×zjO))
structure zBS where
  depth:Int
  place:Int
  e:Int deriving DecidableEq
structure zFN where
  a0:Int
  a1:Int deriving DecidableEq
structure zg where
  pieces:(List (List UInt8))
  size:Int deriving DecidableEq
def zfv:Rp zg:=⟨2,true,fun x=>[.sl x.pieces.length (Rp.list Rp.byte).size (x.pieces.flatMap (Rp.list Rp.byte).lv),.int .i64 x.size],fun _=>rfl,by decide⟩
noncomputable section
def zcJ (n:Int):Option (List UInt8):=if (decide (n<0)) then none else if (decide ((i64.wrap (n - (i64.wrap (0 - 0))))>0)) then (mkO 1 (0:UInt8) (i64.wrap (n - (i64.wrap (0 - 0)))) (i64.wrap (n - (i64.wrap (0 - 0))))>>=fun v=>cut v 0 0>>=fun v2=>some v2) else some []
def zaa (wl:List (List UInt8)) (size:Int) (v:Int):Option ((Int×Int)⊕Int):=if (decide (v<(wl.length:Int))) then (idx wl v>>=fun x=>if (decide ((i64.wrap (size+(x.length:Int)))<0)) then none else some (.inl ((i64.wrap (size+(x.length:Int))),(i64.wrap (v+1))))) else some (.inr size)
def zbb (wl:List (List UInt8)) (size:Int) (v:Int):Option Int:=zT (fun s:(Int×Int)=>zaa wl s.1 s.2) (size,v)
def zab (wl:List (List UInt8)) (wr:List UInt8) (v2:Int):Option (((List UInt8)×Int)⊕(List UInt8)):=if (decide (v2<(wl.length:Int))) then (idx wl v2>>=fun x2=>app 1 wr x2>>=fun v3=>some (.inl (v3,(i64.wrap (v2+1))))) else some (.inr wr)
def zbc (wl:List (List UInt8)) (wr:List UInt8) (v2:Int):Option (List UInt8):=zT (fun s:((List UInt8)×Int)=>zab wl s.1 s.2) (wr,v2)
def zao (wl:List (List UInt8)):Option (List UInt8):=zbb wl 0 0>>=fun q=>zcJ q>>=fun rv=>zbc wl rv 0>>=fun q2=>some q2
theorem zhF (h:zaa wl size v=some (.inl (size',v'))):zbb wl size v=zbb wl size' v':=zF (vX:=fun s:(Int×Int)=>zaa wl s.1 s.2) h
theorem zhG (h:zaa wl size v=some (.inr vZ)):zbb wl size v=some vZ:=zC (vX:=fun s:(Int×Int)=>zaa wl s.1 s.2) h
theorem zhH (h:zab wl wr v2=some (.inl (newslice',v2'))):zbc wl wr v2=zbc wl newslice' v2':=zF (vX:=fun s:((List UInt8)×Int)=>zab wl s.1 s.2) h
theorem zhI (h:zab wl wr v2=some (.inr vZ)):zbc wl wr v2=some vZ:=zC (vX:=fun s:((List UInt8)×Int)=>zab wl s.1 s.2) h
def zap (sv:List Int) (v:Int) (v2:Int):Option (Int⊕(Unit⊕Int)):=if (decide (v2<(sv.length:Int))) then (idx sv v2>>=fun x=>if (v==x) then some (.inr (.inr v2)) else some (.inl (i64.wrap (v2+1)))) else some (.inr (.inl ()))
def zbB (sv:List Int) (v:Int) (v2:Int):Option (Unit⊕Int):=zT (fun s:Int=>zap sv v s) v2
def zdf (sv:List Int) (v:Int):Option Int:=zbB sv v 0>>=fun q=>match q with | .inl u=>(some (-1)) | .inr u2=>(some u2)
theorem ziw (h:zap sv v v2=some (.inl v2')):zbB sv v v2=zbB sv v v2':=zF (vX:=fun s:Int=>zap sv v s) h
theorem zfR (h:zap sv v v2=some (.inr vZ)):zbB sv v v2=some vZ:=zC (vX:=fun s:Int=>zap sv v s) h
def zcc (sv:List Int) (v:Int):Option Bool:=zdf sv v>>=fun rv=>some (decide (rv>=0))
def zad (s1:List Int) (s2:List Int) (v:Int):Option (Int⊕(Unit⊕Unit)):=if (decide (v<(s1.length:Int))) then (idx s1 v>>=fun x=>idx s2 v>>=fun x2=>if (x !=x2) then some (.inr (.inr ())) else some (.inl (i64.wrap (v+1)))) else some (.inr (.inl ()))
def zaC (s1:List Int) (s2:List Int) (v:Int):Option (Unit⊕Unit):=zT (fun s:Int=>zad s1 s2 s) v
def zed (s1:List Int) (s2:List Int):Option Bool:=if ((s1.length:Int) !=(s2.length:Int)) then some false else (zaC s1 s2 0>>=fun q=>match q with | .inl u=>(some true) | .inr u2=>(some false))
theorem zgZ (h:zad s1 s2 v=some (.inl v')):zaC s1 s2 v=zaC s1 s2 v':=zF (vX:=fun s:Int=>zad s1 s2 s) h
theorem zer (h:zad s1 s2 v=some (.inr vZ)):zaC s1 s2 v=some vZ:=zC (vX:=fun s:Int=>zad s1 s2 s) h
def zac (s1:List Str) (s2:List Str) (v:Int):Option (Int⊕(Unit⊕Unit)):=if (decide (v<(s1.length:Int))) then (idx s1 v>>=fun x=>idx s2 v>>=fun x2=>if (!(x==x2)) then some (.inr (.inr ())) else some (.inl (i64.wrap (v+1)))) else some (.inr (.inl ()))
def zaB (s1:List Str) (s2:List Str) (v:Int):Option (Unit⊕Unit):=zT (fun s:Int=>zac s1 s2 s) v
def zcs (s1:List Str) (s2:List Str):Option Bool:=if ((s1.length:Int) !=(s2.length:Int)) then some false else (zaB s1 s2 0>>=fun q=>match q with | .inl u=>(some true) | .inr u2=>(some false))
theorem zgY (h:zac s1 s2 v=some (.inl v')):zaB s1 s2 v=zaB s1 s2 v':=zF (vX:=fun s:Int=>zac s1 s2 s) h
theorem zeq (h:zac s1 s2 v=some (.inr vZ)):zaB s1 s2 v=some vZ:=zC (vX:=fun s:Int=>zac s1 s2 s) h
def zfe (wv2:Int) (n:Int):Option ((Int×Int)⊕Int):=if (wv2 !=0) then some (.inl ((shrI .u64 wv2 7),(i64.wrap (n+1)))) else some (.inr n)
def zhs (wv2:Int) (n:Int):Option Int:=zT (fun s:(Int×Int)=>zfe s.1 s.2) (wv2,n)
def zlL (wv:Int):Option Int:=zhs (shrI .u64 wv 7) 1>>=fun q=>some q
theorem zrY (h:zfe wv2 n=some (.inl (wv2',n'))):zhs wv2 n=zhs wv2' n':=zF (vX:=fun s:(Int×Int)=>zfe s.1 s.2) h
theorem zrZ (h:zfe wv2 n=some (.inr vZ)):zhs wv2 n=some vZ:=zC (vX:=fun s:(Int×Int)=>zfe s.1 s.2) h
def zcF (v:List UInt8) (wv:Int) (b:List UInt8) (v2:Int):Option (((List UInt8)×Int)⊕(List UInt8)):=if (decide (v2<(v.length:Int))) then (shrO .u64 wv (i64.wrap (8*v2))>>=fun v3=>idx b v2>>=fun x=>zgA (u8.wrap v3)>>=fun y2=>some (.inl ((b.set (Int.toNat v2) y2),(i64.wrap (v2+1))))) else some (.inr b)
def zfJ (v:List UInt8) (wv:Int) (b:List UInt8) (v2:Int):Option (List UInt8):=zT (fun s:((List UInt8)×Int)=>zcF v wv s.1 s.2) (b,v2)
def ziG (wv:Int) (n:Int):Option (List UInt8):=mkO 1 (0:UInt8) (if (8:Int)<(if n<0 then 0 else n) then 8 else if n<0 then 0 else n) (if (8:Int)<(if n<0 then 0 else n) then 8 else if n<0 then 0 else n)>>=fun v=>zfJ v wv v 0>>=fun q=>some q
theorem zpk {v:List UInt8} {wv:Int} {b:List UInt8} {v2:Int} {b':List UInt8} {v2':Int} (h:zcF v wv b v2=some (.inl (b',v2'))):zfJ v wv b v2=zfJ v wv b' v2':=zF (vX:=fun s:((List UInt8)×Int)=>zcF v wv s.1 s.2) h
theorem zpl {v:List UInt8} {wv:Int} {b:List UInt8} {v2:Int} {vZ:List UInt8} (h:zcF v wv b v2=some (.inr vZ)):zfJ v wv b v2=some vZ:=zC (vX:=fun s:((List UInt8)×Int)=>zcF v wv s.1 s.2) h
def zii (wv:Int):Option Int:=some (u32.wrap wv)
def ziH (wv:Int):Option Int:=zii wv>>=fun rv=>some (i32.wrap rv)
def ziI (n:Int):Option Int:=some (u64.wrap (i64.wrap n))
def zaE (n:Int) (wv2:Int) (out:List UInt8) (i:Int):Option ((Int×(List UInt8)×Int)⊕(List UInt8)):=if ((decide (i<n))&&(decide (i<8))) then (zgA (u8.wrap (Int.tmod wv2 256))>>=fun y=>app 1 out ([y]:List UInt8)>>=fun v2=>some (.inl ((u64.wrap (Int.tdiv wv2 256)),v2,(i64.wrap (i+1))))) else some (.inr out)
def zce (n:Int) (wv2:Int) (out:List UInt8) (i:Int):Option (List UInt8):=zT (fun s:(Int×(List UInt8)×Int)=>zaE n s.1 s.2.1 s.2.2) (wv2,out,i)
def zdy (wv:Int) (n:Int):Option (List UInt8):=zce n wv [] 0>>=fun q=>some q
theorem zjW {n:Int} {wv2:Int} {out:List UInt8} {i:Int} {wv2':Int} {out':List UInt8} {i':Int} (h:zaE n wv2 out i=some (.inl (wv2',out',i'))):zce n wv2 out i=zce n wv2' out' i':=zF (vX:=fun s:(Int×(List UInt8)×Int)=>zaE n s.1 s.2.1 s.2.2) h
theorem zjX {n:Int} {wv2:Int} {out:List UInt8} {i:Int} {vZ:List UInt8} (h:zaE n wv2 out i=some (.inr vZ)):zce n wv2 out i=some vZ:=zC (vX:=fun s:(Int×(List UInt8)×Int)=>zaE n s.1 s.2.1 s.2.2) h
def zfi (av:List UInt8) (b:List UInt8):Option Bool:=some (av==b)
def zen (wv:Int):Option Int:=if (decide ((i64.wrap (Int.tmod wv 4294967296))>=2147483648)) then some (i64.wrap ((i64.wrap (Int.tmod wv 4294967296)) - 4294967296)) else some (i64.wrap (Int.tmod wv 4294967296))
def zfj (n:Int):Option Int:=if (decide (n>=0)) then some (u64.wrap n) else some (u64.wrap (18446744073709551615 - (u64.wrap (i64.wrap (0 - (i64.wrap (n+1)))))))
def zcK (v:List UInt8) (wv:Int) (v2:Int):Option ((Int×Int)⊕(Unit⊕(Int×Int×Int))):=if (decide (v2<(v.length:Int))) then (idx v v2>>=fun x=>if ((v2==9)&&(decide ((x.toNat:Int)>1))) then some (.inr (.inr (0,0,4))) else shlO .u64 (u64.wrap (andI .u8 (x.toNat:Int) 127)) (i64.wrap (7*v2))>>=fun v4=>if (decide ((x.toNat:Int)<128)) then some (.inr (.inr ((orI .u64 wv v4),(i64.wrap (v2+1)),0))) else some (.inl ((orI .u64 wv v4),(i64.wrap (v2+1))))) else some (.inr (.inl ()))
def zfU (v:List UInt8) (wv:Int) (v2:Int):Option (Unit⊕(Int×Int×Int)):=zT (fun s:(Int×Int)=>zcK v s.1 s.2) (wv,v2)
def zfY (b:List UInt8):Option (Int×Int×Int):=cut b 0 (if (10:Int)<(b.length:Int) then 10 else (b.length:Int))>>=fun v=>zfU v 0 0>>=fun q=>match q with | .inl u=>(some (0,0,3)) | .inr u2=>(some (u2.1,u2.2.1,u2.2.2))
theorem zpP (h:zcK v wv v2=some (.inl (wv',v2'))):zfU v wv v2=zfU v wv' v2':=zF (vX:=fun s:(Int×Int)=>zcK v s.1 s.2) h
theorem zhq (h:zcK v wv v2=some (.inr vZ)):zfU v wv v2=some vZ:=zC (vX:=fun s:(Int×Int)=>zcK v s.1 s.2) h
def zdX (wv2:Int) (l:List UInt8):Option ((Int×(List UInt8))⊕(Int×(List UInt8))):=if (decide (wv2>=128)) then (zgA (orI .u8 (u8.wrap wv2) 128)>>=fun y=>app 1 l ([y]:List UInt8)>>=fun v3=>some (.inl ((shrI .u64 wv2 7),v3))) else some (.inr (wv2,l))
def zhf (wv2:Int) (l:List UInt8):Option (Int×(List UInt8)):=zT (fun s:(Int×(List UInt8))=>zdX s.1 s.2) (wv2,l)
def zhp (b:List UInt8) (wv:Int):Option (List UInt8):=zlL wv>>=fun rv=>mkO 1 (0:UInt8) 0 (i64.wrap ((b.length:Int)+rv))>>=fun v=>app 1 v b>>=fun v2=>zhf wv v2>>=fun q=>zgA (u8.wrap q.1)>>=fun y2=>app 1 q.2 ([y2]:List UInt8)>>=fun v4=>some v4
theorem zqM {wv2:Int} {l:List UInt8} {wv2':Int} {l':List UInt8} (h:zdX wv2 l=some (.inl (wv2',l'))):zhf wv2 l=zhf wv2' l':=zF (vX:=fun s:(Int×(List UInt8))=>zdX s.1 s.2) h
theorem zqN {wv2:Int} {l:List UInt8} {vZ:(Int×(List UInt8))} (h:zdX wv2 l=some (.inr vZ)):zhf wv2 l=some vZ:=zC (vX:=fun s:(Int×(List UInt8))=>zdX s.1 s.2) h
def ziE (b2:List UInt8) (l:List Int):Option (((List UInt8)×(List Int))⊕((List Int)⊕Int)):=if (decide ((b2.length:Int)>0)) then (zfY b2>>=fun rv=>if (rv.2.2 !=0) then some (.inr (.inr rv.2.2)) else app 8 l ([rv.1]:List Int)>>=fun v2=>cut b2 rv.2.1 (b2.length:Int)>>=fun v3=>some (.inl (v3,v2))) else some (.inr (.inl l))
def zpg (b2:List UInt8) (l:List Int):Option ((List Int)⊕Int):=zT (fun s:((List UInt8)×(List Int))=>ziE s.1 s.2) (b2,l)
theorem zqL (h:ziE b2 l=some (.inr vZ)):zpg b2 l=some vZ:=zC (vX:=fun s:((List UInt8)×(List Int))=>ziE s.1 s.2) h
def zeI (xr:Int->Option (List UInt8)) (wv:Int):Option (List UInt8):=if (decide (wv<128)) then (zgA (u8.wrap wv)>>=fun y=>some ([y]:List UInt8)) else zgA (u8.wrap (u64.wrap (128+(Int.tmod wv 128))))>>=fun y2=>xr (u64.wrap (Int.tdiv wv 128))>>=fun rv=>app 1 ([y2]:List UInt8) rv>>=fun v=>some v
def zcf:Nat->Int->Option (List UInt8) | 0,_=>none | fuel+1,wv=>zeI (zcf fuel) wv
def zaK (wc:Int) (b:List UInt8) (n:Int):Option (Int⊕Int):=(if (decide ((i64.wrap (wc+n))<(b.length:Int))) then (if (decide (n<10)) then (idx b (i64.wrap (wc+n))>>=fun x=>some (decide ((x.toNat:Int)>=128))) else some false) else some false)>>=fun g=>if g then some (.inl (i64.wrap (n+1))) else some (.inr n)
def zcT (wc:Int) (b:List UInt8) (n:Int):Option Int:=zT (fun s:Int=>zaK wc b s) n
def zbk (wc:Int) (b:List UInt8) (wv:Int) (i:Int):Option ((Int×Int)⊕Int):=if (decide (i>=0)) then (idx b (i64.wrap (wc+i))>>=fun x3=>some (.inl ((u64.wrap ((u64.wrap (128*wv))+(u64.wrap (Int.tmod (x3.toNat:Int) 128)))),(i64.wrap (i - 1))))) else some (.inr wv)
def zcU (wc:Int) (b:List UInt8) (wv:Int) (i:Int):Option Int:=zT (fun s:(Int×Int)=>zbk wc b s.1 s.2) (wv,i)
def zdn (b:List UInt8) (wc:Int):Option (Int×Int×Int):=zcT wc b 0>>=fun q=>if (q==10) then some (0,0,4) else if ((i64.wrap (wc+q))==(b.length:Int)) then some (0,0,3) else (if (q==9) then (idx b (i64.wrap (wc+q))>>=fun x2=>some (decide ((x2.toNat:Int)>1))) else some false)>>=fun g2=>if g2 then some (0,0,4) else zcU wc b 0 q>>=fun q2=>some (q2,(i64.wrap (q+1)),0)
theorem zln (h:zaK wc b n=some (.inl n')):zcT wc b n=zcT wc b n':=zF (vX:=fun s:Int=>zaK wc b s) h
theorem zfx (h:zaK wc b n=some (.inr vZ)):zcT wc b n=some vZ:=zC (vX:=fun s:Int=>zaK wc b s) h
theorem zlo (h:zbk wc b wv i=some (.inl (wv',i'))):zcU wc b wv i=zcU wc b wv' i':=zF (vX:=fun s:(Int×Int)=>zbk wc b s.1 s.2) h
theorem zlp (h:zbk wc b wv i=some (.inr vZ)):zcU wc b wv i=some vZ:=zC (vX:=fun s:(Int×Int)=>zbk wc b s.1 s.2) h
def zjf (b:List UInt8):Option (Int×Int):=zfY b>>=fun rv=>some (rv.2.1,rv.2.2)
def zhd (wire:Int):Option Bool:=if (wire==0) then if (wire==0) then some true else (some false) else if (wire==1) then if (wire==1) then some true else (some false) else if (wire==2) then if (wire==2) then some true else (some false) else if (wire==5) then some true else some false
def zjN (t:zQ):Option Bool:=(if (decide (t.Number>=1)) then (if (decide (t.Number<=536870911)) then (zhd t.Wire>>=fun rv=>some rv) else some false) else some false)>>=fun g=>some g
def zom (b:List UInt8):Option (zQ×Int×Int):=zfY b>>=fun rv=>if (rv.2.2 !=0) then some ((⟨0,0⟩:zQ),0,rv.2.2) else (zjN (⟨(i64.wrap (if (536870912:Int)<(shrI .u64 rv.1 3) then 536870912 else shrI .u64 rv.1 3)),(i64.wrap (andI .u64 rv.1 7))⟩:zQ)>>=fun vV=>if (!vV) then some ((⟨0,0⟩:zQ),0,5) else (some ((⟨(i64.wrap (if (536870912:Int)<(shrI .u64 rv.1 3) then 536870912 else shrI .u64 rv.1 3)),(i64.wrap (andI .u64 rv.1 7))⟩:zQ),rv.2.1,0)))
def zon (t:zQ):Option Int:=some (orI .u64 (shlI .u64 (u64.wrap t.Number) 3) (u64.wrap t.Wire))
def zmO (b:List UInt8) (t:zQ):Option ((List UInt8)×Int):=zjN t>>=fun rv=>if (!rv) then some ([],2) else zon t>>=fun vV=>zhp b vV>>=fun v8=>some (v8,0)
def zeJ (number:Int) (wire:Int):Option Bool:=some ((decide (number>=1))&&((decide (number<=536870911))&&((wire==0)|| ((wire==1)|| ((wire==2)|| (wire==5))))))
def zfL (fuel:Nat) (number:Int) (wire:Int):Option (List UInt8):=zcf fuel (u64.wrap (i64.wrap ((i64.wrap (8*number))+wire)))>>=fun rv=>some rv
def zfk (b:List UInt8) (wc:Int):Option (Int×Int×Int×Int):=zdn b wc>>=fun rv=>if (rv.2.2 !=0) then some (0,0,0,rv.2.2) else (if (decide (rv.1>4294967295)) then some true else zeJ (i64.wrap (u64.wrap (Int.tdiv rv.1 8))) (i64.wrap (Int.tmod rv.1 8))>>=fun vV=>some (!vV))>>=fun g=>if g then some (0,0,0,5) else some ((i64.wrap (u64.wrap (Int.tdiv rv.1 8))),(i64.wrap (Int.tmod rv.1 8)),rv.2.1,0)
def zqK (c:Int):Option (Int×Int):=if ((shrI .u8 c 7)==0) then some (1,(u32.wrap c)) else if ((shrI .u8 c 5)==6) then some (2,(u32.wrap (andI .u8 c 31))) else if ((shrI .u8 c 4)==14) then some (3,(u32.wrap (andI .u8 c 15))) else if ((shrI .u8 c 3)==30) then some (4,(u32.wrap (andI .u8 c 7))) else some (0,0)
def zmp (wv:Int):Option Int:=if ((shrI .u32 wv 7)==0) then some 1 else if ((shrI .u32 wv 11)==0) then some 2 else if ((shrI .u32 wv 11)==27) then some 0 else if ((shrI .u32 wv 16)==0) then some 3 else if (decide (wv<=1114111)) then some 4 else some 0
def zey (v2:List UInt8) (wv:Int) (v3:Int):Option ((Int×Int)⊕(Int⊕Unit)):=if (decide (v3<(v2.length:Int))) then (idx v2 v3>>=fun x2=>if ((shrI .u8 (x2.toNat:Int) 6) !=2) then some (.inr (.inr ())) else some (.inl ((orI .u32 (shlI .u32 wv 6) (u32.wrap (andI .u8 (x2.toNat:Int) 63))),(i64.wrap (v3+1))))) else some (.inr (.inl wv))
def zct (v2:List UInt8) (wv:Int) (v3:Int):Option (Int⊕Unit):=zT (fun s:(Int×Int)=>zey v2 s.1 s.2) (wv,v3)
def zmo (b:List UInt8):Option Int:=if ((b.length:Int)==0) then some 0 else (idx b 0>>=fun x=>zqK (x.toNat:Int)>>=fun rv=>if ((rv.1==0)|| (decide (rv.1>(b.length:Int)))) then some 0 else (cut b 1 rv.1>>=fun v2=>zct v2 rv.2 0>>=fun q=>match q with | .inl u=>(zmp u>>=fun vV=>if (rv.1 !=vV) then some 0 else some rv.1) | .inr u2=>(some 0)))
theorem zsf (h:zey v2 wv v3=some (.inl (wv',v3'))):zct v2 wv v3=zct v2 wv' v3':=zF (vX:=fun s:(Int×Int)=>zey v2 s.1 s.2) h
theorem zmW (h:zey v2 wv v3=some (.inr vZ)):zct v2 wv v3=some vZ:=zC (vX:=fun s:(Int×Int)=>zey v2 s.1 s.2) h
def zfu (b:List UInt8) (wc:Int) (points:Int) (size:Int):Option ((Int×Int×Int)⊕(Int×Int)):=if (decide (size>0)) then (cut b (i64.wrap (wc+size)) (b.length:Int)>>=fun v=>zmo v>>=fun vV=>some (.inl ((i64.wrap (wc+size)),(i64.wrap (points+1)),vV))) else some (.inr (wc,points))
def zgJ (b:List UInt8) (wc:Int) (points:Int) (size:Int):Option (Int×Int):=zT (fun s:(Int×Int×Int)=>zfu b s.1 s.2.1 s.2.2) (wc,points,size)
def zou (b:List UInt8):Option (Int×Int):=zmo b>>=fun rv=>zgJ b 0 0 rv>>=fun q=>some (q.1,q.2)
theorem zsg (h:zfu b wc points size=some (.inl (atv',points',size'))):zgJ b wc points size=zgJ b atv' points' size':=zF (vX:=fun s:(Int×Int×Int)=>zfu b s.1 s.2.1 s.2.2) h
theorem zsh (h:zfu b wc points size=some (.inr vZ)):zgJ b wc points size=some vZ:=zC (vX:=fun s:(Int×Int×Int)=>zfu b s.1 s.2.1 s.2.2) h
def zmm (b:List UInt8):Option Int:=zou b>>=fun rv=>some rv.1
def zmn (b:List UInt8):Option Bool:=zmm b>>=fun rv=>some (rv==(b.length:Int))
def zfM (rv:Int):Option (List UInt8):=if ((decide (rv<0))|| ((decide (rv>1114111))|| ((decide (rv>=55296))&&(decide (rv<=57343))))) then some [] else if (decide (rv<128)) then (zgA (u8.wrap rv)>>=fun y=>some ([y]:List UInt8)) else if (decide (rv<2048)) then (zgA (u8.wrap (i64.wrap (192+(i64.wrap (Int.tdiv rv 64)))))>>=fun y2=>zgA (u8.wrap (i64.wrap (128+(Int.tmod rv 64))))>>=fun y3=>some ([y2,y3]:List UInt8)) else if (decide (rv<65536)) then (zgA (u8.wrap (i64.wrap (224+(i64.wrap (Int.tdiv rv 4096)))))>>=fun y4=>zgA (u8.wrap (i64.wrap (128+(Int.tmod (i64.wrap (Int.tdiv rv 64)) 64))))>>=fun y5=>zgA (u8.wrap (i64.wrap (128+(Int.tmod rv 64))))>>=fun y6=>some ([y4,y5,y6]:List UInt8)) else zgA (u8.wrap (i64.wrap (240+(i64.wrap (Int.tdiv rv 262144)))))>>=fun y7=>zgA (u8.wrap (i64.wrap (128+(Int.tmod (i64.wrap (Int.tdiv rv 4096)) 64))))>>=fun y8=>zgA (u8.wrap (i64.wrap (128+(Int.tmod (i64.wrap (Int.tdiv rv 64)) 64))))>>=fun y9=>zgA (u8.wrap (i64.wrap (128+(Int.tmod rv 64))))>>=fun y10=>some ([y7,y8,y9,y10]:List UInt8)
def zbl (wc:Int) (b:List UInt8) (n:Int) (vV:Int) (i:Int):Option ((Int×Int)⊕Int):=if (decide (i<n)) then (idx b (i64.wrap (wc+i))>>=fun x3=>some (.inl ((i64.wrap ((i64.wrap (64*vV))+(Int.tmod (i64.wrap (x3.toNat:Int)) 64))),(i64.wrap (i+1))))) else some (.inr vV)
def zbm (wc:Int) (b:List UInt8) (n:Int) (vV:Int) (i:Int):Option Int:=zT (fun s:(Int×Int)=>zbl wc b n s.1 s.2) (vV,i)
def zbF (wc:Int) (b:List UInt8) (n:Int):Option (Int⊕(Unit⊕Int)):=if ((decide (n<=4))&&(decide ((i64.wrap (wc+n))<=(b.length:Int)))) then (idx b wc>>=fun x=>((if (decide (n>1)) then (idx ([0,0,32,16,8]:List Int) n>>=fun x2=>remI (i64.wrap (x.toNat:Int)) x2>>=fun v3=>some v3) else (some (i64.wrap (x.toNat:Int))) :Option Int))>>=fun p=>zbm wc b n p 1>>=fun q=>zfM q>>=fun rv4=>cut b wc (i64.wrap (wc+n))>>=fun v4=>if (rv4==v4) then some (.inr (.inr n)) else some (.inl (i64.wrap (n+1)))) else some (.inr (.inl ()))
def zcV (wc:Int) (b:List UInt8) (n:Int):Option (Unit⊕Int):=zT (fun s:Int=>zbF wc b s) n
def zfl (b:List UInt8) (wc:Int):Option Int:=zcV wc b 1>>=fun q2=>match q2 with | .inl u=>(some 0) | .inr u2=>(some u2)
theorem zlr (h:zbl wc b n vV i=some (.inl (rv2',i'))):zbm wc b n vV i=zbm wc b n rv2' i':=zF (vX:=fun s:(Int×Int)=>zbl wc b n s.1 s.2) h
theorem zls (h:zbl wc b n vV i=some (.inr vZ)):zbm wc b n vV i=some vZ:=zC (vX:=fun s:(Int×Int)=>zbl wc b n s.1 s.2) h
theorem zlq (h:zbF wc b n=some (.inl n')):zcV wc b n=zcV wc b n':=zF (vX:=fun s:Int=>zbF wc b s) h
theorem zfy (h:zbF wc b n=some (.inr vZ)):zcV wc b n=some vZ:=zC (vX:=fun s:Int=>zbF wc b s) h
def zaR (b:List UInt8) (wd:Int) (wc:Int) (count:Int):Option ((Int×Int)⊕(Int×Int)):=zfl b wc>>=fun rv=>if ((rv==0)|| (decide ((i64.wrap (wc+rv))>wd))) then some (.inr (wc,count)) else some (.inl ((i64.wrap (wc+rv)),(i64.wrap (count+1))))
def zbR (b:List UInt8) (wd:Int) (wc:Int) (count:Int):Option (Int×Int):=zT (fun s:(Int×Int)=>zaR b wd s.1 s.2) (wc,count)
def zeK (b:List UInt8) (wd:Int):Option (Int×Int):=zbR b wd 0 0>>=fun q=>some (q.1,q.2)
theorem zkG (h:zaR b wd wc count=some (.inl (atv',count'))):zbR b wd wc count=zbR b wd atv' count':=zF (vX:=fun s:(Int×Int)=>zaR b wd s.1 s.2) h
theorem zkH (h:zaR b wd wc count=some (.inr vZ)):zbR b wd wc count=some vZ:=zC (vX:=fun s:(Int×Int)=>zaR b wd s.1 s.2) h
def zeL (b:List UInt8):Option Bool:=zeK b (b.length:Int)>>=fun rv=>some (rv.1==(b.length:Int))
def zhy (wire:Int) (b:List UInt8):Option (Int×Int×Int):=if (wire==0) then (zjf b>>=fun rv=>some (0,rv.1,rv.2)) else (((if (wire==1) then some (0,0,8) else (if (wire==5) then some (0,0,4) else if (wire==2) then (zfY b>>=fun vV=>some (vV.2.1,vV.2.2,vV.1)) else some (0,0,0)) :Option (Int×Int×Int)))>>=fun p=>if (p.2.1 !=0) then some (0,0,p.2.1) else if (decide (p.2.2>(u64.wrap (i64.wrap ((b.length:Int) - p.1))))) then some (0,0,3) else some (p.1,(i64.wrap (p.1+(i64.wrap p.2.2))),0))
def ziX (b:List UInt8) (fromv:Int):Option (zn×Int):=if ((decide (fromv<0))|| (decide (fromv>=(b.length:Int)))) then some ((⟨0,0,0,0,0⟩:zn),2) else (cut b fromv (b.length:Int)>>=fun v2=>zom v2>>=fun rv=>if (rv.2.2 !=0) then some ((⟨0,0,0,0,0⟩:zn),rv.2.2) else (cut b (i64.wrap (fromv+rv.2.1)) (b.length:Int)>>=fun v3=>zhy rv.1.Wire v3>>=fun vV=>if (vV.2.2 !=0) then some ((⟨0,0,0,0,0⟩:zn),vV.2.2) else (some ((⟨rv.1.Number,rv.1.Wire,fromv,(i64.wrap ((i64.wrap (fromv+rv.2.1))+vV.1)),(i64.wrap ((i64.wrap (fromv+rv.2.1))+vV.2.1))⟩:zn),0))))
def ziY (wire:Int) (value:List UInt8):Option Bool:=if (wire==2) then some true else zhy wire value>>=fun rv=>some ((rv.2.2==0)&&(rv.2.1==(value.length:Int)))
def zir (b:List UInt8) (number:Int) (wire:Int) (value:List UInt8):Option ((List UInt8)×Int):=zmO ([]:List UInt8) (⟨number,wire⟩:zQ)>>=fun rv=>(if (rv.2 !=0) then some true else ziY wire value>>=fun vV=>some (!vV))>>=fun g=>if g then some ([],2) else if (wire==2) then (zhp rv.1 (u64.wrap (value.length:Int))>>=fun v8=>zao ([b,v8,value]:List (List UInt8))>>=fun rv4=>some (rv4,0)) else zao ([b,rv.1,value]:List (List UInt8))>>=fun rv5=>some (rv5,0)
def zkr (b:List UInt8) (number:Int) (value:List UInt8):Option (List UInt8):=zir b number 2 value>>=fun rv=>if (rv.2 !=0) then (zao ([b]:List (List UInt8))>>=fun vV=>some vV) else some rv.1
def zcW (fuel:Nat) (number:Int) (wire:Int) (value:List UInt8):Option (List UInt8):=zfL fuel number wire>>=fun rv=>if (wire==2) then (zcf fuel (u64.wrap (value.length:Int))>>=fun vV=>app 1 rv vV>>=fun v=>app 1 v value>>=fun v2=>some v2) else app 1 rv value>>=fun v3=>some v3
def zfm (b:List UInt8) (fromv:Int):Option (zn×Int):=if ((decide (fromv<0))|| (decide (fromv>=(b.length:Int)))) then some ((⟨0,0,0,0,0⟩:zn),2) else (zfk b fromv>>=fun rv=>if (rv.2.2.2 !=0) then some ((⟨0,0,0,0,0⟩:zn),rv.2.2.2) else (((if (rv.2.1==5) then some 4 else (some 8) :Option Int))>>=fun p=>((if (rv.2.1==0) then (zdn b (i64.wrap (fromv+rv.2.2.1))>>=fun vV=>if (vV.2.2 !=0) then some (.inr vV.2.2) else some (.inl vV.2.1)) else (some (.inl p)) :Option (Int⊕Int)))>>=fun p2=>match p2 with | .inl u=>(((if (rv.2.1==2) then (zdn b (i64.wrap (fromv+rv.2.2.1))>>=fun v8=>if (v8.2.2 !=0) then some (.inr v8.2.2) else if (decide (v8.1>(u64.wrap (i64.wrap ((i64.wrap ((b.length:Int) - (i64.wrap (fromv+rv.2.2.1)))) - v8.2.1))))) then some (.inr 3) else some (.inl ((i64.wrap ((i64.wrap ((b.length:Int) - (i64.wrap (fromv+rv.2.2.1)))) - v8.2.1)),(i64.wrap v8.1),(i64.wrap ((i64.wrap (fromv+rv.2.2.1))+v8.2.1))))) else (some (.inl ((i64.wrap ((b.length:Int) - (i64.wrap (fromv+rv.2.2.1)))),u,(i64.wrap (fromv+rv.2.2.1))))) :Option ((Int×Int×Int)⊕Int)))>>=fun p3=>match p3 with | .inl u2=>(if (decide (u2.2.1>u2.1)) then some ((⟨0,0,0,0,0⟩:zn),3) else some ((⟨rv.1,rv.2.1,fromv,u2.2.2,(i64.wrap (u2.2.2+u2.2.1))⟩:zn),0)) | .inr u3=>(some ((⟨0,0,0,0,0⟩:zn),u3))) | .inr u4=>(some ((⟨0,0,0,0,0⟩:zn),u4))))
def zmC (wv:Int):Option Int:=some (if (1:Int)<wv then 1 else wv)
def zhk (k:Int) (wv:Int):Option (Int×Int):=((if (k==1) then some (k==1) else (some (k==8)) :Option Bool))>>=fun p=>if p then (ziH wv>>=fun rv=>ziI rv>>=fun vV=>some (vV,0)) else ((if (k==3) then some (k==3) else (if (k==5) then some (k==5) else if (k==9) then some (k==9) else if (k==10) then some (k==10) else some (k==11)) :Option Bool))>>=fun p2=>if p2 then (zii wv>>=fun v8=>some ((u64.wrap v8),0)) else if (k==7) then (zmC wv>>=fun rv4=>some (rv4,0)) else ((if (k==2) then some (k==2) else (if (k==4) then some (k==4) else if (k==6) then some (k==6) else if (k==12) then some (k==12) else if (k==13) then some (k==13) else some (k==14)) :Option Bool))>>=fun p3=>if p3 then some (wv,0) else some (0,2)
def zkm:Option (List (Int×zo)):=some (mput (mput (mput (mput (mput (mput (mput (mput (mput (mput (mput (mput (mput (mput (mput (mput (mput ([]:List (Int×zo)) 1 (⟨[105,110,116,51,50],0⟩:zo)) 2 (⟨[105,110,116,54,52],0⟩:zo)) 3 (⟨[117,105,110,116,51,50],0⟩:zo)) 4 (⟨[117,105,110,116,54,52],0⟩:zo)) 5 (⟨[115,105,110,116,51,50],0⟩:zo)) 6 (⟨[115,105,110,116,54,52],0⟩:zo)) 7 (⟨[98,111,111,108],0⟩:zo)) 8 (⟨[101,110,117,109],0⟩:zo)) 9 (⟨[102,105,120,101,100,51,50],5⟩:zo)) 10 (⟨[115,102,105,120,101,100,51,50],5⟩:zo)) 11 (⟨[102,108,111,97,116],5⟩:zo)) 12 (⟨[102,105,120,101,100,54,52],1⟩:zo)) 13 (⟨[115,102,105,120,101,100,54,52],1⟩:zo)) 14 (⟨[100,111,117,98,108,101],1⟩:zo)) 15 (⟨[115,116,114,105,110,103],2⟩:zo)) 16 (⟨[98,121,116,101,115],2⟩:zo)) 17 (⟨[109,101,115,115,97,103,101],2⟩:zo))
def znL:Option (List Int):=zkm>>=fun rv=>zxR rv>>=fun v=>some v
def zmb (k:Int):Option (Int×Int):=zkm>>=fun rv=>if (!(mget rv k).isSome) then some (0,2) else some (((mget rv k).getD (⟨[],0⟩:zo)).wire,0)
def zbM (k:Int):Option Bool:=some ((decide (k>=1))&&(decide (k<=17)))
def ziU (k:Int):Option Bool:=zmb k>>=fun rv=>some ((rv.2==0)&&(rv.1 !=2))
def zfn (k:Int):Option Int:=if (decide (k>=15)) then some 2 else if (decide (k>=12)) then some 1 else if (decide (k>=9)) then some 5 else some 0
def zbz (k:Int):Option Bool:=some ((decide (k>=1))&&(decide (k<=14)))
def zdS (k:Int) (wv:Int):Option Int:=((if (k==1) then some (k==1) else (some (k==8)) :Option Bool))>>=fun p=>if p then (zen wv>>=fun rv=>zfj rv>>=fun vV=>some vV) else ((if (k==3) then some (k==3) else (if (k==5) then some (k==5) else if (k==9) then some (k==9) else if (k==10) then some (k==10) else some (k==11)) :Option Bool))>>=fun p2=>if p2 then some (Int.tmod wv 4294967296) else if (k==7) then if (decide (wv>0)) then some 1 else (some 0) else some wv
def zfQ (c:Int):Option Bool:=some ((decide (c>=48))&&(decide (c<=57)))
def zgj (c:Int):Option Bool:=some (if (decide (c>=97)) then (decide (c<=122))|| (if (decide (c>=65)) then (decide (c<=90))|| (c==95) else c==95) else (if (decide (c>=65)) then (decide (c<=90))|| (c==95) else c==95))
def zci (name:Str) (v2:Int):Option (Int⊕(Unit⊕Unit)):=if (decide (v2<(name.length:Int))) then ((idx name v2>>=fun c2=>zgj (c2.toNat:Int)>>=fun vV=>if (!vV) then (idx name v2>>=fun c3=>zfQ (c3.toNat:Int)>>=fun v8=>some (!v8)) else some false)>>=fun g2=>if g2 then some (.inr (.inr ())) else some (.inl (i64.wrap (v2+1)))) else some (.inr (.inl ()))
def zeC (name:Str) (v2:Int):Option (Unit⊕Unit):=zT (fun s:Int=>zci name s) v2
def zgn (name:Str):Option Bool:=(if (name==[]) then some true else if (decide ((name.length:Int)>60)) then some true else idx name 0>>=fun c=>zfQ (c.toNat:Int)>>=fun rv=>some rv)>>=fun g=>if g then some false else (zeC name 0>>=fun q=>match q with | .inl u=>(some true) | .inr u2=>(some false))
theorem zoi (h:zci name v2=some (.inl v2')):zeC name v2=zeC name v2':=zF (vX:=fun s:Int=>zci name s) h
theorem ziZ (h:zci name v2=some (.inr vZ)):zeC name v2=some vZ:=zC (vX:=fun s:Int=>zci name s) h
def zgk (n:Int):Option Bool:=some ((decide (n>=1))&&((decide (n<=536870911))&&((decide (n<19000))|| (decide (n>19999)))))
def zgG (f:zb):Option Bool:=(if f.Repeated then (ziU f.Kind>>=fun rv=>some rv) else some false)>>=fun g=>some g
def zeS (c:zax) (f:zb):Option Bool:=if (f.Kind==17) then some ((decide (f.Of>=0))&&(decide (f.Of<c.size))) else some (f.Of==0)
def zeR (c:zax) (message:Int) (f:zb):Option (Int×(List (zp×Bool))×(List (zr×Bool))):=zgn f.Name>>=fun rv=>if (!rv) then some (5,c.names,c.numbers) else if ((mget c.names (⟨message,f.Name⟩:zp)).getD false) then some (6,c.names,c.numbers) else zgk f.Number>>=fun vV=>if (!vV) then some (7,c.names,c.numbers) else if ((mget c.numbers (⟨message,f.Number⟩:zr)).getD false) then some (8,c.names,c.numbers) else zcc c.kinds f.Kind>>=fun v8=>if (!v8) then some (9,c.names,c.numbers) else (if f.Packed then (zgG f>>=fun rv4=>some (!rv4)) else some false)>>=fun g=>if g then some (10,c.names,c.numbers) else zeS c f>>=fun rv5=>if (!rv5) then some (11,c.names,c.numbers) else some (0,(mput c.names (⟨message,f.Name⟩:zp) true),(mput c.numbers (⟨message,f.Number⟩:zr) true))
def zec (c:zax) (m:ze):Option (Int×(List (zp×Bool))×(List (zr×Bool))):=zgn m.Name>>=fun rv=>if (!rv) then some (2,c.names,c.numbers) else if ((mget c.names (⟨(-1),m.Name⟩:zp)).getD false) then some (3,c.names,c.numbers) else if (decide ((m.Fields.length:Int)>200)) then some (4,c.names,c.numbers) else some (0,(mput c.names (⟨(-1),m.Name⟩:zp) true),c.numbers)
def zby (i:Int) (sv:List ze) (n3:Int) (k:Int):Option ((Int×Int)⊕Int):=idx sv i>>=fun x3=>if (decide (k<(x3.Fields.length:Int))) then (idx sv i>>=fun x4=>idx x4.Fields k>>=fun x5=>some (.inl ((i64.wrap (n3+(i64.wrap (Int.tdiv (x5.Name.length:Int) 100)))),(i64.wrap (k+1))))) else (some (.inr n3))
def zdx (i:Int) (sv:List ze) (n3:Int) (k:Int):Option Int:=zT (fun s:(Int×Int)=>zby i sv s.1 s.2) (n3,k)
def zbx (sv:List ze) (n:Int) (i:Int):Option ((Int×Int)⊕Int):=if (decide (i<(sv.length:Int))) then (idx sv i>>=fun x=>idx sv i>>=fun x2=>zdx i sv (i64.wrap ((i64.wrap ((i64.wrap (n+1))+(i64.wrap (Int.tdiv (x.Name.length:Int) 100))))+(x2.Fields.length:Int))) 0>>=fun q=>some (.inl (q,(i64.wrap (i+1))))) else some (.inr n)
def zdw (sv:List ze) (n:Int) (i:Int):Option Int:=zT (fun s:(Int×Int)=>zbx sv s.1 s.2) (n,i)
def zfK (sv:List ze):Option Bool:=zdw sv 0 0>>=fun q2=>some (decide (q2<=500))
theorem zlQ (h:zby i sv n3 k=some (.inl (n3',k'))):zdx i sv n3 k=zdx i sv n3' k':=zF (vX:=fun s:(Int×Int)=>zby i sv s.1 s.2) h
theorem zlR (h:zby i sv n3 k=some (.inr vZ)):zdx i sv n3 k=some vZ:=zC (vX:=fun s:(Int×Int)=>zby i sv s.1 s.2) h
theorem zlO (h:zbx sv n i=some (.inl (n',i'))):zdw sv n i=zdw sv n' i':=zF (vX:=fun s:(Int×Int)=>zbx sv s.1 s.2) h
theorem zlP (h:zbx sv n i=some (.inr vZ)):zdw sv n i=some vZ:=zC (vX:=fun s:(Int×Int)=>zbx sv s.1 s.2) h
def zbO (rv:List Int) (sv:List ze) (v2:Int) (x:ze) (v3:Int) (f6:List (zp×Bool)) (f7:List (zr×Bool)):Option ((Int×(List (zp×Bool))×(List (zr×Bool)))⊕(((List (zp×Bool))×(List (zr×Bool)))⊕(Int×Int))):=if (decide (v3<(x.Fields.length:Int))) then (idx x.Fields v3>>=fun x2=>zeR (⟨(sv.length:Int),rv,f6,f7⟩:zax) v2 x2>>=fun rv5=>if (rv5.1 !=0) then some (.inr (.inr (v3,rv5.1))) else some (.inl ((i64.wrap (v3+1)),rv5.2.1,rv5.2.2))) else some (.inr (.inl (f6,f7)))
def zdG (rv:List Int) (sv:List ze) (v2:Int) (x:ze) (v3:Int) (f6:List (zp×Bool)) (f7:List (zr×Bool)):Option (((List (zp×Bool))×(List (zr×Bool)))⊕(Int×Int)):=zT (fun s:(Int×(List (zp×Bool))×(List (zr×Bool)))=>zbO rv sv v2 x s.1 s.2.1 s.2.2) (v3,f6,f7)
def zaN (rv:List Int) (sv:List ze) (v2:Int) (f:List (zp×Bool)) (f2:List (zr×Bool)):Option ((Int×(List (zp×Bool))×(List (zr×Bool)))⊕(Unit⊕(Int×Int×Int))):=if (decide (v2<(sv.length:Int))) then (idx sv v2>>=fun x=>zec (⟨(sv.length:Int),rv,f,f2⟩:zax) x>>=fun v8=>if (v8.1 !=0) then some (.inr (.inr (v2,(-1),v8.1))) else (zdG rv sv v2 x 0 v8.2.1 v8.2.2>>=fun q=>match q with | .inl u=>(some (.inl ((i64.wrap (v2+1)),u.1,u.2))) | .inr u2=>(some (.inr (.inr (v2,u2.1,u2.2)))))) else some (.inr (.inl ()))
def zfd (rv:List Int) (sv:List ze) (v2:Int) (f:List (zp×Bool)) (f2:List (zr×Bool)):Option (Unit⊕(Int×Int×Int)):=zT (fun s:(Int×(List (zp×Bool))×(List (zr×Bool)))=>zaN rv sv s.1 s.2.1 s.2.2) (v2,f,f2)
def zhV (sv:List ze):Option (zaw×Int):=if ((decide ((sv.length:Int)<1))|| (decide ((sv.length:Int)>100))) then some ((⟨(-1),(-1),1⟩:zaw),9) else (znL>>=fun rv=>zfd rv sv 0 ([]:List (zp×Bool)) ([]:List (zr×Bool))>>=fun q2=>match q2 with | .inl u3=>(some ((⟨0,0,0⟩:zaw),0)) | .inr u4=>(some ((⟨u4.1,u4.2.1,u4.2.2⟩:zaw),9)))
theorem zoX {f6:List (zp×Bool)} {f7:List (zr×Bool)} (h:zbO rv sv v2 x v3 f6 f7=some (.inl (v3',f6',f7'))):zdG rv sv v2 x v3 f6 f7=zdG rv sv v2 x v3' f6' f7':=zF (vX:=fun s:(Int×(List (zp×Bool))×(List (zr×Bool)))=>zbO rv sv v2 x s.1 s.2.1 s.2.2) h
theorem zjp {f6:List (zp×Bool)} {f7:List (zr×Bool)} (h:zbO rv sv v2 x v3 f6 f7=some (.inr vZ)):zdG rv sv v2 x v3 f6 f7=some vZ:=zC (vX:=fun s:(Int×(List (zp×Bool))×(List (zr×Bool)))=>zbO rv sv v2 x s.1 s.2.1 s.2.2) h
theorem zoW {f2:List (zr×Bool)} (h:zaN rv sv v2 f f2=some (.inl (v2',f',f2'))):zfd rv sv v2 f f2=zfd rv sv v2' f' f2':=zF (vX:=fun s:(Int×(List (zp×Bool))×(List (zr×Bool)))=>zaN rv sv s.1 s.2.1 s.2.2) h
theorem zep {f2:List (zr×Bool)} (h:zaN rv sv v2 f f2=some (.inr vZ)):zfd rv sv v2 f f2=some vZ:=zC (vX:=fun s:(Int×(List (zp×Bool))×(List (zr×Bool)))=>zaN rv sv s.1 s.2.1 s.2.2) h
def zfr (sv:List ze):Option Bool:=zhV sv>>=fun rv=>some (rv.2==0)
def zbn (sv:Str) (i:Int):Option (Int⊕(Unit⊕Unit)):=if (decide (i<(sv.length:Int))) then (idx sv i>>=fun c=>if (!(if (decide ((c.toNat:Int)>=65)) then (decide ((c.toNat:Int)<=90))|| (if (decide ((c.toNat:Int)>=97)) then (decide ((c.toNat:Int)<=122))|| (((c.toNat:Int)==95)|| ((decide (i>0))&&((decide ((c.toNat:Int)>=48))&&(decide ((c.toNat:Int)<=57))))) else (((c.toNat:Int)==95)|| ((decide (i>0))&&((decide ((c.toNat:Int)>=48))&&(decide ((c.toNat:Int)<=57)))))) else (if (decide ((c.toNat:Int)>=97)) then (decide ((c.toNat:Int)<=122))|| (((c.toNat:Int)==95)|| ((decide (i>0))&&((decide ((c.toNat:Int)>=48))&&(decide ((c.toNat:Int)<=57))))) else (((c.toNat:Int)==95)|| ((decide (i>0))&&((decide ((c.toNat:Int)>=48))&&(decide ((c.toNat:Int)<=57)))))))) then some (.inr (.inr ())) else some (.inl (i64.wrap (i+1)))) else some (.inr (.inl ()))
def zcX (sv:Str) (i:Int):Option (Unit⊕Unit):=zT (fun s:Int=>zbn sv s) i
def zeg (sv:Str):Option Bool:=zcX sv 0>>=fun q=>match q with | .inl u=>(some ((decide ((sv.length:Int)>=1))&&(decide ((sv.length:Int)<=60)))) | .inr u2=>(some false)
theorem zlt (h:zbn sv i=some (.inl i')):zcX sv i=zcX sv i':=zF (vX:=fun s:Int=>zbn sv s) h
theorem zhb (h:zbn sv i=some (.inr vZ)):zcX sv i=some vZ:=zC (vX:=fun s:Int=>zbn sv s) h
def zaV (i:Int) (k:Int) (sv:List ze) (x2:zb) (name:Bool) (number:Bool) (j:Int):Option ((Bool×Bool×Int)⊕(Bool×Bool)):=if (decide (j<k)) then ((if name then some true else idx sv i>>=fun x3=>idx x3.Fields j>>=fun x4=>some (x4.Name==x2.Name))>>=fun g=>(if number then some true else idx sv i>>=fun x5=>idx x5.Fields j>>=fun x6=>some (x6.Number==x2.Number))>>=fun g2=>some (.inl (g,g2,(i64.wrap (j+1))))) else some (.inr (name,number))
def zcz (i:Int) (k:Int) (sv:List ze) (x2:zb) (name:Bool) (number:Bool) (j:Int):Option (Bool×Bool):=zT (fun s:(Bool×Bool×Int)=>zaV i k sv x2 s.1 s.2.1 s.2.2) (name,number,j)
def zeN (sv:List ze) (i:Int) (k:Int):Option Int:=idx sv i>>=fun x=>idx x.Fields k>>=fun x2=>zcz i k sv x2 false false 0>>=fun q=>zeg x2.Name>>=fun rv=>if (!rv) then some 5 else (if q.1 then some 6 else (if ((decide (x2.Number<1))|| ((decide (x2.Number>536870911))|| ((decide (x2.Number>=19000))&&(decide (x2.Number<20000))))) then some 7 else (if q.2 then some 8 else (zbM x2.Kind>>=fun vV=>if (!vV) then some 9 else ((if x2.Packed then (if x2.Repeated then (zbz x2.Kind>>=fun v8=>some (!v8)) else some (!false)) else some false)>>=fun g3=>if g3 then some 10 else (if (if (x2.Kind==17) then (decide (x2.Of<0))|| ((decide (x2.Of>=(sv.length:Int)))|| ((x2.Kind !=17)&&(x2.Of !=0))) else (x2.Kind !=17)&&(x2.Of !=0)) then some 11 else some 0))))))
theorem zkM (h:zaV i k sv x2 name number j=some (.inl (name',number',j'))):zcz i k sv x2 name number j=zcz i k sv x2 name' number' j':=zF (vX:=fun s:(Bool×Bool×Int)=>zaV i k sv x2 s.1 s.2.1 s.2.2) h
theorem zkN (h:zaV i k sv x2 name number j=some (.inr vZ)):zcz i k sv x2 name number j=some vZ:=zC (vX:=fun s:(Bool×Bool×Int)=>zaV i k sv x2 s.1 s.2.1 s.2.2) h
def zaT (i:Int) (sv:List ze) (twice:Bool) (k:Int):Option ((Bool×Int)⊕Bool):=if (decide (k<i)) then ((if twice then some true else idx sv k>>=fun x=>idx sv i>>=fun x2=>some (x.Name==x2.Name))>>=fun g=>some (.inl (g,(i64.wrap (k+1))))) else some (.inr twice)
def zcx (i:Int) (sv:List ze) (twice:Bool) (k:Int):Option Bool:=zT (fun s:(Bool×Int)=>zaT i sv s.1 s.2) (twice,k)
def zaU (i:Int) (sv:List ze) (k2:Int):Option (Int⊕(Unit⊕(Int×Int))):=idx sv i>>=fun x5=>if (decide (k2<(x5.Fields.length:Int))) then (zeN sv i k2>>=fun vV=>if (decide (vV>0)) then some (.inr (.inr (k2,vV))) else some (.inl (i64.wrap (k2+1)))) else some (.inr (.inl ()))
def zcy (i:Int) (sv:List ze) (k2:Int):Option (Unit⊕(Int×Int)):=zT (fun s:Int=>zaU i sv s) k2
def zaS (sv:List ze) (i:Int):Option (Int⊕(Unit⊕(Int×Int×Int))):=if (decide (i<(sv.length:Int))) then (zcx i sv false 0>>=fun q=>idx sv i>>=fun x3=>zeg x3.Name>>=fun rv=>if (!rv) then some (.inr (.inr (i,(-1),2))) else (if q then some (.inr (.inr (i,(-1),3))) else (idx sv i>>=fun x4=>if (decide ((x4.Fields.length:Int)>200)) then some (.inr (.inr (i,(-1),4))) else (zcy i sv 0>>=fun q2=>match q2 with | .inl u=>(some (.inl (i64.wrap (i+1)))) | .inr u2=>(some (.inr (.inr (i,u2.1,u2.2)))))))) else some (.inr (.inl ()))
def zcw (sv:List ze) (i:Int):Option (Unit⊕(Int×Int×Int)):=zT (fun s:Int=>zaS sv s) i
def zeM (sv:List ze):Option (Int×Int×Int):=if (((sv.length:Int)==0)|| (decide ((sv.length:Int)>100))) then some ((-1),(-1),1) else (zcw sv 0>>=fun q3=>match q3 with | .inl u3=>(some (0,0,0)) | .inr u4=>(some (u4.1,u4.2.1,u4.2.2)))
theorem zkJ (h:zaT i sv twice k=some (.inl (twice',k'))):zcx i sv twice k=zcx i sv twice' k':=zF (vX:=fun s:(Bool×Int)=>zaT i sv s.1 s.2) h
theorem zkK (h:zaT i sv twice k=some (.inr vZ)):zcx i sv twice k=some vZ:=zC (vX:=fun s:(Bool×Int)=>zaT i sv s.1 s.2) h
theorem zkL (h:zaU i sv k2=some (.inl k2')):zcy i sv k2=zcy i sv k2':=zF (vX:=fun s:Int=>zaU i sv s) h
theorem zgQ (h:zaU i sv k2=some (.inr vZ)):zcy i sv k2=some vZ:=zC (vX:=fun s:Int=>zaU i sv s) h
theorem zkI (h:zaS sv i=some (.inl i')):zcw sv i=zcw sv i':=zF (vX:=fun s:Int=>zaS sv s) h
theorem zcl (h:zaS sv i=some (.inr vZ)):zcw sv i=some vZ:=zC (vX:=fun s:Int=>zaS sv s) h
def zfq (f:zb) (v:Int):Option Bool:=some (f.Number==v)
def zw (sv:List zb) (v:Int) (v2:Int):Option (Int⊕(Unit⊕Int)):=if (decide (v2<(sv.length:Int))) then (idx sv v2>>=fun x=>zfq x v>>=fun rv=>if rv then some (.inr (.inr v2)) else some (.inl (i64.wrap (v2+1)))) else some (.inr (.inl ()))
def zI (sv:List zb) (v:Int) (v2:Int):Option (Unit⊕Int):=zT (fun s:Int=>zw sv v s) v2
def zW (sv:List zb) (v:Int):Option Int:=zI sv v 0>>=fun q=>match q with | .inl u=>(some (-1)) | .inr u2=>(some u2)
theorem zde (h:zw sv v v2=some (.inl v2')):zI sv v v2=zI sv v v2':=zF (vX:=fun s:Int=>zw sv v s) h
theorem zbd (h:zw sv v v2=some (.inr vZ)):zI sv v v2=some vZ:=zC (vX:=fun s:Int=>zw sv v s) h
def zca (m:ze) (v:Int):Option (Int×Bool):=zW m.Fields v>>=fun rv=>some ((if rv<0 then 0 else rv),(decide (rv>=0)))
def zdF (m:ze) (number:Int):Option (Int×Bool):=zca m number>>=fun rv=>some (rv.1,rv.2)
def zaW (m:ze) (number:Int) (i:Int):Option (Int⊕(Unit⊕Int)):=if (decide (i<(m.Fields.length:Int))) then (idx m.Fields i>>=fun x=>if (x.Number==number) then some (.inr (.inr i)) else some (.inl (i64.wrap (i+1)))) else some (.inr (.inl ()))
def zcA (m:ze) (number:Int) (i:Int):Option (Unit⊕Int):=zT (fun s:Int=>zaW m number s) i
def zcN (m:ze) (number:Int):Option Int:=zcA m number 0>>=fun q=>match q with | .inl u=>(some (-1)) | .inr u2=>(some u2)
theorem zkO (h:zaW m number i=some (.inl i')):zcA m number i=zcA m number i':=zF (vX:=fun s:Int=>zaW m number s) h
theorem zgR (h:zaW m number i=some (.inr vZ)):zcA m number i=some vZ:=zC (vX:=fun s:Int=>zaW m number s) h
def zeO (sv:List ze):Option Bool:=zeM sv>>=fun rv=>some (rv.2.2==0)
def zgM (k:Int):Option (Int×Int):=((if (k==1) then some (k==1) else (if (k==2) then some (k==2) else if (k==3) then some (k==3) else if (k==4) then some (k==4) else if (k==5) then some (k==5) else if (k==6) then some (k==6) else if (k==7) then some (k==7) else some (k==8)) :Option Bool))>>=fun p=>if p then some (0,0) else ((if (k==9) then some (k==9) else (if (k==10) then some (k==10) else some (k==11)) :Option Bool))>>=fun p2=>if p2 then some (4,0) else if (k==12) then if (k==12) then some (8,0) else (some (0,2)) else if (k==13) then if (k==13) then some (8,0) else (some (0,2)) else if (k==14) then some (8,0) else some (0,2)
def ziv (k:Int) (wv:Int):Option ((List UInt8)×Int):=zgM k>>=fun rv=>if (rv.2 !=0) then some ([],rv.2) else zhk k wv>>=fun vV=>if (rv.1==0) then (zhp ([]:List UInt8) vV.1>>=fun v8=>some (v8,vV.2)) else ziG vV.1 rv.1>>=fun rv4=>some (rv4,vV.2)
def zhB (k:Int) (wv:Int):Option Int:=zgM k>>=fun rv=>if ((rv.2 !=0)|| (rv.1 !=0)) then some rv.1 else zhk k wv>>=fun vV=>zlL vV.1>>=fun v8=>some v8
def zez (fuel:Nat) (k:Int) (wv:Int):Option (List UInt8):=zdS k wv>>=fun rv=>if (decide (k>=12)) then (zdy rv 8>>=fun vV=>some vV) else if (decide (k>=9)) then (zdy rv 4>>=fun v8=>some v8) else zcf fuel rv>>=fun rv4=>some rv4
def zmi (k:Int):Option Int:=zhB k 0>>=fun rv=>some rv
def zex (k:Int) (l:List Int) (b:List UInt8) (v:Int):Option (((List UInt8)×Int)⊕(List UInt8)):=if (decide (v<(l.length:Int))) then (idx l v>>=fun x=>ziv k x>>=fun vV=>app 1 b vV.1>>=fun v2=>some (.inl (v2,(i64.wrap (v+1))))) else some (.inr b)
def zhA (k:Int) (l:List Int) (b:List UInt8) (v:Int):Option (List UInt8):=zT (fun s:((List UInt8)×Int)=>zex k l s.1 s.2) (b,v)
def zoe (k:Int) (l:List Int):Option ((List UInt8)×Int):=zmi k>>=fun rv=>if (rv==0) then some ([],2) else zhA k l [] 0>>=fun q=>some (q,0)
theorem zsb {k:Int} {l:List Int} {b:List UInt8} {v:Int} {b':List UInt8} {v':Int} (h:zex k l b v=some (.inl (b',v'))):zhA k l b v=zhA k l b' v':=zF (vX:=fun s:((List UInt8)×Int)=>zex k l s.1 s.2) h
theorem zsc {k:Int} {l:List Int} {b:List UInt8} {v:Int} {vZ:List UInt8} (h:zex k l b v=some (.inr vZ)):zhA k l b v=some vZ:=zC (vX:=fun s:((List UInt8)×Int)=>zex k l s.1 s.2) h
def zbo (fuel:Nat) (k:Int) (l:List Int) (out:List UInt8) (i:Int):Option (((List UInt8)×Int)⊕(List UInt8)):=if (decide (i<(l.length:Int))) then (idx l i>>=fun x=>zez fuel k x>>=fun rv=>app 1 out rv>>=fun v=>some (.inl (v,(i64.wrap (i+1))))) else some (.inr out)
def zcY (fuel:Nat) (k:Int) (l:List Int) (out:List UInt8) (i:Int):Option (List UInt8):=zT (fun s:((List UInt8)×Int)=>zbo fuel k l s.1 s.2) (out,i)
def zfo (fuel:Nat) (k:Int) (l:List Int):Option (List UInt8):=zcY fuel k l [] 0>>=fun q=>some q
theorem zlu {fuel:Nat} {k:Int} {l:List Int} {out:List UInt8} {i:Int} {out':List UInt8} {i':Int} (h:zbo fuel k l out i=some (.inl (out',i'))):zcY fuel k l out i=zcY fuel k l out' i':=zF (vX:=fun s:((List UInt8)×Int)=>zbo fuel k l s.1 s.2) h
theorem zlv {fuel:Nat} {k:Int} {l:List Int} {out:List UInt8} {i:Int} {vZ:List UInt8} (h:zbo fuel k l out i=some (.inr vZ)):zcY fuel k l out i=some vZ:=zC (vX:=fun s:((List UInt8)×Int)=>zbo fuel k l s.1 s.2) h
def zkz (sv:List ze) (root:Int) (d:Int):Option Int:=zfr sv>>=fun rv=>if (!rv) then some 9 else (if ((decide (root<0))|| ((decide (root>=(sv.length:Int)))|| ((decide (d<0))|| (decide (d>64))))) then some 2 else some 0)
def zfs (v:za):Option Int:=some (i64.wrap ((i64.wrap ((v.Words.length:Int)+(v.Texts.length:Int)))+(v.Subs.length:Int)))
def zbL (xi:za->Option za) (x:zc) (i:Int) (f:List za):Option ((Int×(List za))⊕(List za)):=if (decide (i<(x.Values.length:Int))) then (idx x.Values i>>=fun x2=>xi x2>>=fun rv=>app 80 f ([rv]:List za)>>=fun v2=>some (.inl ((i64.wrap (i+1)),v2))) else some (.inr f)
def zdR (xi:za->Option za) (x:zc) (i:Int) (f:List za):Option (List za):=zT (fun s:(Int×(List za))=>zbL xi x s.1 s.2) (i,f)
def zfg (xh:zc->Option zc) (xi:za->Option za) (x:zc):Option zc:=app 16 ([]:List Str) x.Unknown>>=fun v=>zdR xi x 0 []>>=fun q=>some (⟨q,v⟩:zc)
def zaA (xh:zc->Option zc) (v:za) (i:Int) (f:List zc):Option ((Int×(List zc))⊕(List zc)):=if (decide (i<(v.Subs.length:Int))) then (idx v.Subs i>>=fun x=>xh x>>=fun rv=>app 48 f ([rv]:List zc)>>=fun v2=>some (.inl ((i64.wrap (i+1)),v2))) else some (.inr f)
def zbX (xh:zc->Option zc) (v:za) (i:Int) (f:List zc):Option (List zc):=zT (fun s:(Int×(List zc))=>zaA xh v s.1 s.2) (i,f)
def zdm (xh:zc->Option zc) (xi:za->Option za) (v:za):Option za:=zbX xh v 0 []>>=fun q=>some (⟨v.Number,v.Words,v.Texts,q⟩:za)
def zae:Nat->(zc->Option zc)×(za->Option za) | 0=>(fun _=>none,fun _=>none) | fuel+1=>(fun x=>zfg (zae fuel).1 (zae fuel).2 x,fun v=>zdm (zae fuel).1 (zae fuel).2 v)
def zfb (fuel:Nat):zc->Option zc:=(zae fuel).1
def zbi (fuel:Nat):za->Option za:=(zae fuel).2
theorem zmv (h:zbL xi x i f=some (.inl (i',f'))):zdR xi x i f=zdR xi x i' f':=zF (vX:=fun s:(Int×(List za))=>zbL xi x s.1 s.2) h
theorem zmw (h:zbL xi x i f=some (.inr vZ)):zdR xi x i f=some vZ:=zC (vX:=fun s:(Int×(List za))=>zbL xi x s.1 s.2) h
theorem zjv (h:zaA xh v i f=some (.inl (i',f'))):zbX xh v i f=zbX xh v i' f':=zF (vX:=fun s:(Int×(List zc))=>zaA xh v s.1 s.2) h
theorem zjw (h:zaA xh v i f=some (.inr vZ)):zbX xh v i f=some vZ:=zC (vX:=fun s:(Int×(List zc))=>zaA xh v s.1 s.2) h
def zbj (x:zc) (n:Int) (i:Int):Option ((Int×Int)⊕Int):=if (decide (i<(x.Unknown.length:Int))) then (idx x.Unknown i>>=fun x2=>some (.inl ((i64.wrap ((i64.wrap (n+1))+(x2.length:Int))),(i64.wrap (i+1))))) else some (.inr n)
def zcR (x:zc) (n:Int) (i:Int):Option Int:=zT (fun s:(Int×Int)=>zbj x s.1 s.2) (n,i)
def zaJ (wh:Int) (xg:za->Int->Option Int) (x:zc) (n3:Int) (i2:Int):Option ((Int×Int)⊕(Int⊕Unit)):=if (decide (i2<(x.Values.length:Int))) then (idx x.Values i2>>=fun x3=>xg x3 wh>>=fun rv=>if (decide ((i64.wrap (n3+rv))>=5000)) then some (.inr (.inr ())) else some (.inl ((i64.wrap (n3+rv)),(i64.wrap (i2+1))))) else some (.inr (.inl n3))
def zcS (wh:Int) (xg:za->Int->Option Int) (x:zc) (n3:Int) (i2:Int):Option (Int⊕Unit):=zT (fun s:(Int×Int)=>zaJ wh xg x s.1 s.2) (n3,i2)
def zem (xf:zc->Int->Option Int) (xg:za->Int->Option Int) (x:zc) (wh:Int):Option Int:=if (decide (wh<0)) then some 5000 else (zcR x 1 0>>=fun q=>zcS wh xg x q 0>>=fun q2=>match q2 with | .inl u=>(some u) | .inr u2=>(some 5000))
def zat (v:za) (n:Int) (k:Int):Option ((Int×Int)⊕Int):=if (decide (k<(v.Texts.length:Int))) then (idx v.Texts k>>=fun x=>some (.inl ((i64.wrap ((i64.wrap (n+1))+(x.length:Int))),(i64.wrap (k+1))))) else some (.inr n)
def zbH (v:za) (n:Int) (k:Int):Option Int:=zT (fun s:(Int×Int)=>zat v s.1 s.2) (n,k)
def zai (wh:Int) (xf:zc->Int->Option Int) (v:za) (n3:Int) (k2:Int):Option ((Int×Int)⊕(Int⊕Unit)):=if (decide (k2<(v.Subs.length:Int))) then (idx v.Subs k2>>=fun x2=>xf x2 (i64.wrap (wh - 1))>>=fun rv=>if (decide ((i64.wrap (n3+rv))>=5000)) then some (.inr (.inr ())) else some (.inl ((i64.wrap (n3+rv)),(i64.wrap (k2+1))))) else some (.inr (.inl n3))
def zbI (wh:Int) (xf:zc->Int->Option Int) (v:za) (n3:Int) (k2:Int):Option (Int⊕Unit):=zT (fun s:(Int×Int)=>zai wh xf v s.1 s.2) (n3,k2)
def zcG (xf:zc->Int->Option Int) (xg:za->Int->Option Int) (v:za) (wh:Int):Option Int:=zbH v (i64.wrap (1+(v.Words.length:Int))) 0>>=fun q=>zbI wh xf v q 0>>=fun q2=>match q2 with | .inl u=>(some u) | .inr u2=>(some 5000)
def zU:Nat->(zc->Int->Option Int)×(za->Int->Option Int) | 0=>(fun _ _=>none,fun _ _=>none) | fuel+1=>(fun x wh=>zem (zU fuel).1 (zU fuel).2 x wh,fun v wh=>zcG (zU fuel).1 (zU fuel).2 v wh)
def zbS (fuel:Nat):zc->Int->Option Int:=(zU fuel).1
def zan (fuel:Nat):za->Int->Option Int:=(zU fuel).2
theorem zlk (h:zbj x n i=some (.inl (n',i'))):zcR x n i=zcR x n' i':=zF (vX:=fun s:(Int×Int)=>zbj x s.1 s.2) h
theorem zll (h:zbj x n i=some (.inr vZ)):zcR x n i=some vZ:=zC (vX:=fun s:(Int×Int)=>zbj x s.1 s.2) h
theorem zlm (h:zaJ wh xg x n3 i2=some (.inl (n3',i2'))):zcS wh xg x n3 i2=zcS wh xg x n3' i2':=zF (vX:=fun s:(Int×Int)=>zaJ wh xg x s.1 s.2) h
theorem zha (h:zaJ wh xg x n3 i2=some (.inr vZ)):zcS wh xg x n3 i2=some vZ:=zC (vX:=fun s:(Int×Int)=>zaJ wh xg x s.1 s.2) h
theorem ziL (h:zat v n k=some (.inl (n',k'))):zbH v n k=zbH v n' k':=zF (vX:=fun s:(Int×Int)=>zat v s.1 s.2) h
theorem ziM (h:zat v n k=some (.inr vZ)):zbH v n k=some vZ:=zC (vX:=fun s:(Int×Int)=>zat v s.1 s.2) h
theorem ziN (h:zai wh xf v n3 k2=some (.inl (n3',k2'))):zbI wh xf v n3 k2=zbI wh xf v n3' k2':=zF (vX:=fun s:(Int×Int)=>zai wh xf v s.1 s.2) h
theorem zfX (h:zai wh xf v n3 k2=some (.inr vZ)):zbI wh xf v n3 k2=some vZ:=zC (vX:=fun s:(Int×Int)=>zai wh xf v s.1 s.2) h
def zdW (wd:Int) (xa:zc->Int->Option Int) (x2:za) (deep3:Int) (v3:Int):Option ((Int×Int)⊕(Int⊕Int)):=if (decide (v3<(x2.Subs.length:Int))) then (idx x2.Subs v3>>=fun x3=>if (decide (wd<=0)) then some (.inr (.inr 1)) else xa x3 (i64.wrap (wd - 1))>>=fun rv=>if (decide ((if deep3<(i64.wrap (1+rv)) then i64.wrap (1+rv) else deep3)>wd)) then some (.inr (.inr (if deep3<(i64.wrap (1+rv)) then i64.wrap (1+rv) else deep3))) else some (.inl ((if deep3<(i64.wrap (1+rv)) then i64.wrap (1+rv) else deep3),(i64.wrap (v3+1))))) else some (.inr (.inl deep3))
def zgp (wd:Int) (xa:zc->Int->Option Int) (x2:za) (deep3:Int) (v3:Int):Option (Int⊕Int):=zT (fun s:(Int×Int)=>zdW wd xa x2 s.1 s.2) (deep3,v3)
def zdV (wd:Int) (xa:zc->Int->Option Int) (x:zc) (wh:Int) (v:Int):Option ((Int×Int)⊕(Int⊕Int)):=if (decide (v<(x.Values.length:Int))) then (idx x.Values v>>=fun x2=>zgp wd xa x2 wh 0>>=fun q=>match q with | .inl u=>(some (.inl (u,(i64.wrap (v+1))))) | .inr u2=>(some (.inr (.inr u2)))) else some (.inr (.inl wh))
def zgo (wd:Int) (xa:zc->Int->Option Int) (x:zc) (wh:Int) (v:Int):Option (Int⊕Int):=zT (fun s:(Int×Int)=>zdV wd xa x s.1 s.2) (wh,v)
def zhW (xa:zc->Int->Option Int) (x:zc) (wd:Int):Option Int:=zgo wd xa x 0 0>>=fun q2=>match q2 with | .inl u3=>(some u3) | .inr u4=>(some u4)
def zfD:Nat->zc->Int->Option Int | 0,_,_=>none | fuel+1,x,wd=>zhW (zfD fuel) x wd
theorem zqF (h:zdW wd xa x2 deep3 v3=some (.inl (deep3',v3'))):zgp wd xa x2 deep3 v3=zgp wd xa x2 deep3' v3':=zF (vX:=fun s:(Int×Int)=>zdW wd xa x2 s.1 s.2) h
theorem zqG (h:zdW wd xa x2 deep3 v3=some (.inr vZ)):zgp wd xa x2 deep3 v3=some vZ:=zC (vX:=fun s:(Int×Int)=>zdW wd xa x2 s.1 s.2) h
theorem zqD (h:zdV wd xa x wh v=some (.inl (deep',v'))):zgo wd xa x wh v=zgo wd xa x deep' v':=zF (vX:=fun s:(Int×Int)=>zdV wd xa x s.1 s.2) h
theorem zqE (h:zdV wd xa x wh v=some (.inr vZ)):zgo wd xa x wh v=some vZ:=zC (vX:=fun s:(Int×Int)=>zdV wd xa x s.1 s.2) h
def zix (fuel:Nat) (x:zc):Option Int:=zfD fuel x 131072>>=fun rv=>some rv
def ziz (fuel:Nat) (x:zc):Option Bool:=zix fuel x>>=fun rv=>some (decide (rv<=131072))
def zck (l:List Str) (v:Int):Option (Int⊕(Unit⊕Unit)):=if (decide (v<(l.length:Int))) then (idx l v>>=fun x=>lenO x>>=fun v2=>zmn v2>>=fun rv=>if (!rv) then some (.inr (.inr ())) else some (.inl (i64.wrap (v+1)))) else some (.inr (.inl ()))
def zeD (l:List Str) (v:Int):Option (Unit⊕Unit):=zT (fun s:Int=>zck l s) v
def zhe (l:List Str):Option Bool:=zeD l 0>>=fun q=>match q with | .inl u=>(some true) | .inr u2=>(some false)
theorem zos (h:zck l v=some (.inl v')):zeD l v=zeD l v':=zF (vX:=fun s:Int=>zck l s) h
theorem zjd (h:zck l v=some (.inr vZ)):zeD l v=some vZ:=zC (vX:=fun s:Int=>zck l s) h
def zgI (m:ze) (text:Str):Option Bool:=lenO text>>=fun v=>ziX v 0>>=fun rv=>if ((rv.2 !=0)|| (rv.1.To !=(text.length:Int))) then some false else zdF m rv.1.Number>>=fun vV=>some (!vV.2)
def zaL (k:Int) (l:List Int) (v:Int):Option (Int⊕(Unit⊕Unit)):=if (decide (v<(l.length:Int))) then (idx l v>>=fun x=>zhk k x>>=fun rv=>if ((rv.2 !=0)|| (rv.1 !=x)) then some (.inr (.inr ())) else some (.inl (i64.wrap (v+1)))) else some (.inr (.inl ()))
def zdg (k:Int) (l:List Int) (v:Int):Option (Unit⊕Unit):=zT (fun s:Int=>zaL k l s) v
def zft (k:Int) (l:List Int):Option Bool:=zdg k l 0>>=fun q=>match q with | .inl u=>(some true) | .inr u2=>(some false)
theorem zlI (h:zaL k l v=some (.inl v')):zdg k l v=zdg k l v':=zF (vX:=fun s:Int=>zaL k l s) h
theorem zfC (h:zaL k l v=some (.inr vZ)):zdg k l v=some vZ:=zC (vX:=fun s:Int=>zaL k l s) h
def zbA (l:List zc) (message:Int) (xe:(List ze)->Int->zc->Option Bool) (sv:List ze) (v2:Int):Option (Int⊕(Unit⊕Unit)):=if (decide (v2<(l.length:Int))) then (idx l v2>>=fun x=>xe sv message x>>=fun rv=>if (!rv) then some (.inr (.inr ())) else some (.inl (i64.wrap (v2+1)))) else some (.inr (.inl ()))
def zdB (l:List zc) (message:Int) (xe:(List ze)->Int->zc->Option Bool) (sv:List ze) (v2:Int):Option (Unit⊕Unit):=zT (fun s:Int=>zbA l message xe sv s) v2
def zeU (xp:(List ze)->Int->(List zc)->Option Bool) (xb:zb->(List ze)->za->Option Bool) (xe:(List ze)->Int->zc->Option Bool) (sv:List ze) (message:Int) (l:List zc):Option Bool:=if ((decide (message<0))|| (decide (message>=(sv.length:Int)))) then some false else (zdB l message xe sv 0>>=fun q=>match q with | .inl u=>(some true) | .inr u2=>(some false))
def zje (xp:(List ze)->Int->(List zc)->Option Bool) (xb:zb->(List ze)->za->Option Bool) (xe:(List ze)->Int->zc->Option Bool) (f:zb) (sv:List ze) (v:za):Option Bool:=zfs v>>=fun rv=>if ((rv==0)|| ((decide (rv>1))&&(!f.Repeated))) then some false else if (f.Kind==15) then ((if ((v.Texts.length:Int)==rv) then (zhe v.Texts>>=fun vV=>some vV) else some false)>>=fun g=>some g) else if (f.Kind==16) then some ((v.Texts.length:Int)==rv) else if (f.Kind==17) then ((if ((v.Subs.length:Int)==rv) then (xp sv f.Of v.Subs>>=fun v8=>some v8) else some false)>>=fun g2=>some g2) else (if ((v.Words.length:Int)==rv) then (zft f.Kind v.Words>>=fun rv4=>some rv4) else some false)>>=fun g3=>some g3
def zbD (xb:zb->(List ze)->za->Option Bool) (sv:List ze) (x:zc) (x2:ze) (last:Int) (v:Int):Option ((Int×Int)⊕(Unit⊕Unit)):=if (decide (v<(x.Values.length:Int))) then (idx x.Values v>>=fun x3=>zdF x2 x3.Number>>=fun rv=>(if (!rv.2) then some true else if (decide (x3.Number<=last)) then some true else idx x2.Fields rv.1>>=fun x4=>xb x4 sv x3>>=fun vV=>some (!vV))>>=fun g=>if g then some (.inr (.inr ())) else some (.inl (x3.Number,(i64.wrap (v+1))))) else some (.inr (.inl ()))
def zej (xb:zb->(List ze)->za->Option Bool) (sv:List ze) (x:zc) (x2:ze) (last:Int) (v:Int):Option (Unit⊕Unit):=zT (fun s:(Int×Int)=>zbD xb sv x x2 s.1 s.2) (last,v)
def zbT (x:zc) (x2:ze) (v3:Int):Option (Int⊕(Unit⊕Unit)):=if (decide (v3<(x.Unknown.length:Int))) then (idx x.Unknown v3>>=fun x5=>zgI x2 x5>>=fun v8=>if (!v8) then some (.inr (.inr ())) else some (.inl (i64.wrap (v3+1)))) else some (.inr (.inl ()))
def zek (x:zc) (x2:ze) (v3:Int):Option (Unit⊕Unit):=zT (fun s:Int=>zbT x x2 s) v3
def zfT (xp:(List ze)->Int->(List zc)->Option Bool) (xb:zb->(List ze)->za->Option Bool) (xe:(List ze)->Int->zc->Option Bool) (sv:List ze) (message:Int) (x:zc):Option Bool:=idx sv message>>=fun x2=>zej xb sv x x2 0 0>>=fun q=>match q with | .inl u=>(zek x x2 0>>=fun q2=>match q2 with | .inl u2=>(some true) | .inr u3=>(some false)) | .inr u4=>(some false)
def zM:Nat->((List ze)->Int->(List zc)->Option Bool)×(zb->(List ze)->za->Option Bool)×((List ze)->Int->zc->Option Bool) | 0=>(fun _ _ _=>none,fun _ _ _=>none,fun _ _ _=>none) | fuel+1=>(fun sv message l=>zeU (zM fuel).1 (zM fuel).2.1 (zM fuel).2.2 sv message l,fun f sv v=>zje (zM fuel).1 (zM fuel).2.1 (zM fuel).2.2 f sv v,fun sv message x=>zfT (zM fuel).1 (zM fuel).2.1 (zM fuel).2.2 sv message x)
def zfS (fuel:Nat):(List ze)->Int->(List zc)->Option Bool:=(zM fuel).1
def zgq (fuel:Nat):zb->(List ze)->za->Option Bool:=(zM fuel).2.1
def zdv (fuel:Nat):(List ze)->Int->zc->Option Bool:=(zM fuel).2.2
theorem zml (h:zbA l message xe sv v2=some (.inl v2')):zdB l message xe sv v2=zdB l message xe sv v2':=zF (vX:=fun s:Int=>zbA l message xe sv s) h
theorem zhE (h:zbA l message xe sv v2=some (.inr vZ)):zdB l message xe sv v2=some vZ:=zC (vX:=fun s:Int=>zbA l message xe sv s) h
theorem znn (h:zbD xb sv x x2 last v=some (.inl (last',v'))):zej xb sv x x2 last v=zej xb sv x x2 last' v':=zF (vX:=fun s:(Int×Int)=>zbD xb sv x x2 s.1 s.2) h
theorem zif (h:zbD xb sv x x2 last v=some (.inr vZ)):zej xb sv x x2 last v=some vZ:=zC (vX:=fun s:(Int×Int)=>zbD xb sv x x2 s.1 s.2) h
theorem zno (h:zbT x x2 v3=some (.inl v3')):zek x x2 v3=zek x x2 v3':=zF (vX:=fun s:Int=>zbT x x2 s) h
theorem zig (h:zbT x x2 v3=some (.inr vZ)):zek x x2 v3=some vZ:=zC (vX:=fun s:Int=>zbT x x2 s) h
def zhD (fuel:Nat) (f:zb) (sv:List ze) (v:za):Option Bool:=(zfr sv>>=fun rv=>if rv then (ziz fuel (⟨([v]:List za),[]⟩:zc)>>=fun vV=>if vV then (zgq fuel f sv v>>=fun v8=>some v8) else some false) else some false)>>=fun g=>some g
def zco (v:za):Option Int:=some (i64.wrap ((i64.wrap ((v.Words.length:Int)+(v.Texts.length:Int)))+(v.Subs.length:Int)))
def zbq (f:zb) (v:za) (ok:Bool) (i:Int):Option ((Bool×Int)⊕Bool):=if (decide (i<(v.Words.length:Int))) then ((if ok then (zbz f.Kind>>=fun rv5=>if rv5 then (idx v.Words i>>=fun x=>zdS f.Kind x>>=fun rv6=>idx v.Words i>>=fun x2=>some (rv6==x2)) else some false) else some false)>>=fun g2=>some (.inl (g2,(i64.wrap (i+1))))) else some (.inr ok)
def zcZ (f:zb) (v:za) (ok:Bool) (i:Int):Option Bool:=zT (fun s:(Bool×Int)=>zbq f v s.1 s.2) (ok,i)
def zbr (f:zb) (v:za) (ok4:Bool) (i2:Int):Option ((Bool×Int)⊕Bool):=if (decide (i2<(v.Texts.length:Int))) then ((if ok4 then (if (f.Kind==16) then some true else if (f.Kind==15) then (idx v.Texts i2>>=fun x3=>lenO x3>>=fun v3=>zeL v3>>=fun rv7=>some rv7) else some false) else some false)>>=fun g3=>some (.inl (g3,(i64.wrap (i2+1))))) else some (.inr ok4)
def zda (f:zb) (v:za) (ok4:Bool) (i2:Int):Option Bool:=zT (fun s:(Bool×Int)=>zbr f v s.1 s.2) (ok4,i2)
def zbs (f:zb) (xk:(List ze)->Int->zc->Option Bool) (sv:List ze) (v:za) (ok7:Bool) (i3:Int):Option ((Bool×Int)⊕Bool):=if (decide (i3<(v.Subs.length:Int))) then ((if ok7 then (if (f.Kind==17) then (idx v.Subs i3>>=fun x4=>xk sv f.Of x4>>=fun rv8=>some rv8) else some false) else some false)>>=fun g4=>some (.inl (g4,(i64.wrap (i3+1))))) else some (.inr ok7)
def zdb (f:zb) (xk:(List ze)->Int->zc->Option Bool) (sv:List ze) (v:za) (ok7:Bool) (i3:Int):Option Bool:=zT (fun s:(Bool×Int)=>zbs f xk sv v s.1 s.2) (ok7,i3)
def zeo (xj:(List ze)->zb->za->Option Bool) (xk:(List ze)->Int->zc->Option Bool) (sv:List ze) (f:zb) (v:za):Option Bool:=(zco v>>=fun rv=>if (rv==0) then some true else zco v>>=fun vV=>if (decide (vV>1)) then (if (!f.Repeated) then some true else zbM f.Kind>>=fun v8=>some (!v8)) else zbM f.Kind>>=fun rv4=>some (!rv4))>>=fun g=>if g then some false else zcZ f v true 0>>=fun q=>zda f v q 0>>=fun q2=>zdb f xk sv v q2 0>>=fun q3=>some q3
def zaX (xj:(List ze)->zb->za->Option Bool) (root:Int) (sv:List ze) (x:zc) (i:Int):Option (Int⊕(Unit⊕Unit)):=if (decide (i<(x.Values.length:Int))) then (idx sv root>>=fun x2=>idx x.Values i>>=fun x3=>zcN x2 x3.Number>>=fun rv=>(if (decide (rv<0)) then some true else if (decide (i>0)) then (idx x.Values (i64.wrap (i - 1))>>=fun x4=>idx x.Values i>>=fun x5=>if (decide (x4.Number>=x5.Number)) then some true else idx sv root>>=fun x6=>idx x6.Fields rv>>=fun x7=>idx x.Values i>>=fun x8=>xj sv x7 x8>>=fun vV=>some (!vV)) else idx sv root>>=fun x9=>idx x9.Fields rv>>=fun x10=>idx x.Values i>>=fun x11=>xj sv x10 x11>>=fun v8=>some (!v8))>>=fun g=>if g then some (.inr (.inr ())) else some (.inl (i64.wrap (i+1)))) else some (.inr (.inl ()))
def zcB (xj:(List ze)->zb->za->Option Bool) (root:Int) (sv:List ze) (x:zc) (i:Int):Option (Unit⊕Unit):=zT (fun s:Int=>zaX xj root sv x s) i
def zaY (root:Int) (sv:List ze) (x:zc) (i2:Int):Option (Int⊕(Unit⊕Unit)):=if (decide (i2<(x.Unknown.length:Int))) then (idx x.Unknown i2>>=fun x12=>lenO x12>>=fun v3=>zfm v3 0>>=fun rv4=>(if (rv4.2 !=0) then some true else idx x.Unknown i2>>=fun x13=>if (rv4.1.To !=(x13.length:Int)) then some true else idx sv root>>=fun x14=>zcN x14 rv4.1.Number>>=fun rv5=>some (decide (rv5>=0)))>>=fun g2=>if g2 then some (.inr (.inr ())) else some (.inl (i64.wrap (i2+1)))) else some (.inr (.inl ()))
def zcC (root:Int) (sv:List ze) (x:zc) (i2:Int):Option (Unit⊕Unit):=zT (fun s:Int=>zaY root sv x s) i2
def zea (xj:(List ze)->zb->za->Option Bool) (xk:(List ze)->Int->zc->Option Bool) (sv:List ze) (root:Int) (x:zc):Option Bool:=if ((decide (root<0))|| (decide (root>=(sv.length:Int)))) then some false else (zcB xj root sv x 0>>=fun q=>match q with | .inl u=>(zcC root sv x 0>>=fun q2=>match q2 with | .inl u2=>(some true) | .inr u3=>(some false)) | .inr u4=>(some false))
def zaf:Nat->((List ze)->zb->za->Option Bool)×((List ze)->Int->zc->Option Bool) | 0=>(fun _ _ _=>none,fun _ _ _=>none) | fuel+1=>(fun sv f v=>zeo (zaf fuel).1 (zaf fuel).2 sv f v,fun sv root x=>zea (zaf fuel).1 (zaf fuel).2 sv root x)
def zbp (fuel:Nat):(List ze)->zb->za->Option Bool:=(zaf fuel).1
def zdT (fuel:Nat):(List ze)->Int->zc->Option Bool:=(zaf fuel).2
theorem zlw (h:zbq f v ok i=some (.inl (ok',i'))):zcZ f v ok i=zcZ f v ok' i':=zF (vX:=fun s:(Bool×Int)=>zbq f v s.1 s.2) h
theorem zlx (h:zbq f v ok i=some (.inr vZ)):zcZ f v ok i=some vZ:=zC (vX:=fun s:(Bool×Int)=>zbq f v s.1 s.2) h
theorem zly (h:zbr f v ok4 i2=some (.inl (ok4',i2'))):zda f v ok4 i2=zda f v ok4' i2':=zF (vX:=fun s:(Bool×Int)=>zbr f v s.1 s.2) h
theorem zlz (h:zbr f v ok4 i2=some (.inr vZ)):zda f v ok4 i2=some vZ:=zC (vX:=fun s:(Bool×Int)=>zbr f v s.1 s.2) h
theorem zlA (h:zbs f xk sv v ok7 i3=some (.inl (ok7',i3'))):zdb f xk sv v ok7 i3=zdb f xk sv v ok7' i3':=zF (vX:=fun s:(Bool×Int)=>zbs f xk sv v s.1 s.2) h
theorem zlB (h:zbs f xk sv v ok7 i3=some (.inr vZ)):zdb f xk sv v ok7 i3=some vZ:=zC (vX:=fun s:(Bool×Int)=>zbs f xk sv v s.1 s.2) h
theorem zkP (h:zaX xj root sv x i=some (.inl i')):zcB xj root sv x i=zcB xj root sv x i':=zF (vX:=fun s:Int=>zaX xj root sv x s) h
theorem zgS (h:zaX xj root sv x i=some (.inr vZ)):zcB xj root sv x i=some vZ:=zC (vX:=fun s:Int=>zaX xj root sv x s) h
theorem zkQ (h:zaY root sv x i2=some (.inl i2')):zcC root sv x i2=zcC root sv x i2':=zF (vX:=fun s:Int=>zaY root sv x s) h
theorem zgT (h:zaY root sv x i2=some (.inr vZ)):zcC root sv x i2=some vZ:=zC (vX:=fun s:Int=>zaY root sv x s) h
def ziy (fuel:Nat) (sv:List ze) (root:Int) (x:zc):Option Bool:=(zkz sv root 0>>=fun rv=>if (rv==0) then (ziz fuel x>>=fun vV=>if vV then (zdv fuel sv root x>>=fun v8=>some v8) else some false) else some false)>>=fun g=>some g
def zot (xn:zc->zc->Option Bool) (xo:za->za->Option Bool) (xt:(List za)->(List za)->Option Bool) (xu:(List zc)->(List zc)->Option Bool) (av:zc) (b:zc):Option Bool:=(xt av.Values b.Values>>=fun rv=>if rv then (zcs av.Unknown b.Unknown>>=fun vV=>some vV) else some false)>>=fun g=>some g
def ziA (xn:zc->zc->Option Bool) (xo:za->za->Option Bool) (xt:(List za)->(List za)->Option Bool) (xu:(List zc)->(List zc)->Option Bool) (v:za) (wv:za):Option Bool:=(if (v.Number==wv.Number) then (zed v.Words wv.Words>>=fun rv=>if rv then (zcs v.Texts wv.Texts>>=fun vV=>if vV then (xu v.Subs wv.Subs>>=fun v8=>some v8) else some false) else some false) else some false)>>=fun g=>some g
def zq (xo:za->za->Option Bool) (s1:List za) (s2:List za) (v:Int):Option (Int⊕(Unit⊕Unit)):=if (decide (v<(s1.length:Int))) then (idx s1 v>>=fun x=>idx s2 v>>=fun x2=>xo x x2>>=fun rv=>if (!rv) then some (.inr (.inr ())) else some (.inl (i64.wrap (v+1)))) else some (.inr (.inl ()))
def zx (xo:za->za->Option Bool) (s1:List za) (s2:List za) (v:Int):Option (Unit⊕Unit):=zT (fun s:Int=>zq xo s1 s2 s) v
def zO (xn:zc->zc->Option Bool) (xo:za->za->Option Bool) (xt:(List za)->(List za)->Option Bool) (xu:(List zc)->(List zc)->Option Bool) (s1:List za) (s2:List za):Option Bool:=if ((s1.length:Int) !=(s2.length:Int)) then some false else (zx xo s1 s2 0>>=fun q=>match q with | .inl u=>(some true) | .inr u2=>(some false))
def zu (xn:zc->zc->Option Bool) (s1:List zc) (s2:List zc) (v:Int):Option (Int⊕(Unit⊕Unit)):=if (decide (v<(s1.length:Int))) then (idx s1 v>>=fun x=>idx s2 v>>=fun x2=>xn x x2>>=fun rv=>if (!rv) then some (.inr (.inr ())) else some (.inl (i64.wrap (v+1)))) else some (.inr (.inl ()))
def zD (xn:zc->zc->Option Bool) (s1:List zc) (s2:List zc) (v:Int):Option (Unit⊕Unit):=zT (fun s:Int=>zu xn s1 s2 s) v
def zZ (xn:zc->zc->Option Bool) (xo:za->za->Option Bool) (xt:(List za)->(List za)->Option Bool) (xu:(List zc)->(List zc)->Option Bool) (s1:List zc) (s2:List zc):Option Bool:=if ((s1.length:Int) !=(s2.length:Int)) then some false else (zD xn s1 s2 0>>=fun q=>match q with | .inl u=>(some true) | .inr u2=>(some false))
def zy:Nat->(zc->zc->Option Bool)×(za->za->Option Bool)×((List za)->(List za)->Option Bool)×((List zc)->(List zc)->Option Bool) | 0=>(fun _ _=>none,fun _ _=>none,fun _ _=>none,fun _ _=>none) | fuel+1=>(fun av b=>zot (zy fuel).1 (zy fuel).2.1 (zy fuel).2.2.1 (zy fuel).2.2.2 av b,fun v wv=>ziA (zy fuel).1 (zy fuel).2.1 (zy fuel).2.2.1 (zy fuel).2.2.2 v wv,fun s1 s2=>zO (zy fuel).1 (zy fuel).2.1 (zy fuel).2.2.1 (zy fuel).2.2.2 s1 s2,fun s1 s2=>zZ (zy fuel).1 (zy fuel).2.1 (zy fuel).2.2.1 (zy fuel).2.2.2 s1 s2)
def zgN (fuel:Nat):zc->zc->Option Bool:=(zy fuel).1
def zef (fuel:Nat):za->za->Option Bool:=(zy fuel).2.1
def zH (fuel:Nat):(List za)->(List za)->Option Bool:=(zy fuel).2.2.1
def zK (fuel:Nat):(List zc)->(List zc)->Option Bool:=(zy fuel).2.2.2
theorem zbw (h:zq xo s1 s2 v=some (.inl v')):zx xo s1 s2 v=zx xo s1 s2 v':=zF (vX:=fun s:Int=>zq xo s1 s2 s) h
theorem zah (h:zq xo s1 s2 v=some (.inr vZ)):zx xo s1 s2 v=some vZ:=zC (vX:=fun s:Int=>zq xo s1 s2 s) h
theorem zbZ (h:zu xn s1 s2 v=some (.inl v')):zD xn s1 s2 v=zD xn s1 s2 v':=zF (vX:=fun s:Int=>zu xn s1 s2 s) h
theorem zav (h:zu xn s1 s2 v=some (.inr vZ)):zD xn s1 s2 v=some vZ:=zC (vX:=fun s:Int=>zu xn s1 s2 s) h
def zru (fuel:Nat) (av:zc) (b:zc):Option Bool:=(ziz fuel av>>=fun rv=>if rv then (zgN fuel av b>>=fun vV=>some vV) else some false)>>=fun g=>some g
def zjS (fuel:Nat) (sv:List ze) (root:Int) (x:zc):Option Int:=ziy fuel sv root x>>=fun rv=>if rv then some 0 else (zfr sv>>=fun vV=>if (!vV) then some 9 else (if ((decide (root<0))|| (decide (root>=(sv.length:Int)))) then some 2 else some 12))
def zjU (k:Int):Option Int:=zhB k 0>>=fun rv=>if (rv==4) then some 5 else if (rv==8) then some 1 else some 0
def zjT (number:Int) (size:Int):Option (List UInt8):=zkr ([]:List UInt8) number ([]:List UInt8)>>=fun rv=>ziv 4 (u64.wrap size)>>=fun vV=>cut rv 0 (i64.wrap ((rv.length:Int) - 1))>>=fun v=>app 1 v vV.1>>=fun v2=>some v2
def zbJ (wv:zg) (b:List UInt8):Option zg:=app 24 wv.pieces ([b]:List (List UInt8))>>=fun v=>some (⟨v,(i64.wrap (wv.size+(b.length:Int)))⟩:zg)
def zbQ (wv:zg) (number:Int) (wire:Int) (value:List UInt8):Option zg:=zir ([]:List UInt8) number wire value>>=fun rv=>zbJ wv rv.1>>=fun vV=>some vV
def zeG (wv:zg) (f:zb) (l:List Int):Option zg:=zoe f.Kind l>>=fun rv=>if f.Repeated then (zbQ wv f.Number 2 rv.1>>=fun vV=>some vV) else zjU f.Kind>>=fun v8=>zbQ wv f.Number v8 rv.1>>=fun rv4=>some rv4
def zay (xd:zg->(List ze)->zb->za->Option zg) (sv:List ze) (x:zc) (x2:ze) (v:Int) (f:List (List UInt8)) (f2:Int):Option ((Int×(List (List UInt8))×Int)⊕((List (List UInt8))×Int)):=if (decide (v<(x.Values.length:Int))) then (idx x.Values v>>=fun x3=>zdF x2 x3.Number>>=fun rv=>idx x2.Fields rv.1>>=fun x4=>xd (⟨f,f2⟩:zg) sv x4 x3>>=fun vV=>some (.inl ((i64.wrap (v+1)),vV.pieces,vV.size))) else some (.inr (f,f2))
def zbV (xd:zg->(List ze)->zb->za->Option zg) (sv:List ze) (x:zc) (x2:ze) (v:Int) (f:List (List UInt8)) (f2:Int):Option ((List (List UInt8))×Int):=zT (fun s:(Int×(List (List UInt8))×Int)=>zay xd sv x x2 s.1 s.2.1 s.2.2) (v,f,f2)
def zaz (x:zc) (v2:Int) (f5:List (List UInt8)) (f6:Int):Option ((Int×(List (List UInt8))×Int)⊕((List (List UInt8))×Int)):=if (decide (v2<(x.Unknown.length:Int))) then (idx x.Unknown v2>>=fun x5=>lenO x5>>=fun v3=>zbJ (⟨f5,f6⟩:zg) v3>>=fun v8=>some (.inl ((i64.wrap (v2+1)),v8.pieces,v8.size))) else some (.inr (f5,f6))
def zbW (x:zc) (v2:Int) (f5:List (List UInt8)) (f6:Int):Option ((List (List UInt8))×Int):=zT (fun s:(Int×(List (List UInt8))×Int)=>zaz x s.1 s.2.1 s.2.2) (v2,f5,f6)
def zdj (xq:zg->(List ze)->Int->zc->Option zg) (xc:zg->(List ze)->zb->zc->Option zg) (xd:zg->(List ze)->zb->za->Option zg) (wv:zg) (sv:List ze) (message:Int) (x:zc):Option zg:=idx sv message>>=fun x2=>zbV xd sv x x2 0 wv.pieces wv.size>>=fun q=>zbW x 0 q.1 q.2>>=fun q2=>some (⟨q2.1,q2.2⟩:zg)
def zeF (xq:zg->(List ze)->Int->zc->Option zg) (xc:zg->(List ze)->zb->zc->Option zg) (xd:zg->(List ze)->zb->za->Option zg) (wv:zg) (sv:List ze) (f:zb) (x:zc):Option zg:=zbJ wv ([]:List UInt8)>>=fun rv=>xq rv sv f.Of x>>=fun vV=>zjT f.Number (i64.wrap (vV.size - wv.size))>>=fun v8=>idx vV.pieces (wv.pieces.length:Int)>>=fun x2=>idx (vV.pieces.set (Int.toNat (wv.pieces.length:Int)) v8) (wv.pieces.length:Int)>>=fun x3=>some (⟨(vV.pieces.set (Int.toNat (wv.pieces.length:Int)) v8),(i64.wrap (vV.size+(x3.length:Int)))⟩:zg)
def zaP (f:zb) (v:za) (v2:Int) (f4:List (List UInt8)) (f5:Int):Option ((Int×(List (List UInt8))×Int)⊕((List (List UInt8))×Int)):=if (decide (v2<(v.Texts.length:Int))) then (idx v.Texts v2>>=fun x=>lenO x>>=fun v3=>zbQ (⟨f4,f5⟩:zg) f.Number 2 v3>>=fun vV=>some (.inl ((i64.wrap (v2+1)),vV.pieces,vV.size))) else some (.inr (f4,f5))
def zcu (f:zb) (v:za) (v2:Int) (f4:List (List UInt8)) (f5:Int):Option ((List (List UInt8))×Int):=zT (fun s:(Int×(List (List UInt8))×Int)=>zaP f v s.1 s.2.1 s.2.2) (v2,f4,f5)
def zaQ (f:zb) (xc:zg->(List ze)->zb->zc->Option zg) (sv:List ze) (v:za) (v4:Int) (f8:List (List UInt8)) (f9:Int):Option ((Int×(List (List UInt8))×Int)⊕((List (List UInt8))×Int)):=if (decide (v4<(v.Subs.length:Int))) then (idx v.Subs v4>>=fun x2=>xc (⟨f8,f9⟩:zg) sv f x2>>=fun v8=>some (.inl ((i64.wrap (v4+1)),v8.pieces,v8.size))) else some (.inr (f8,f9))
def zcv (f:zb) (xc:zg->(List ze)->zb->zc->Option zg) (sv:List ze) (v:za) (v4:Int) (f8:List (List UInt8)) (f9:Int):Option ((List (List UInt8))×Int):=zT (fun s:(Int×(List (List UInt8))×Int)=>zaQ f xc sv v s.1 s.2.1 s.2.2) (v4,f8,f9)
def zdZ (xq:zg->(List ze)->Int->zc->Option zg) (xc:zg->(List ze)->zb->zc->Option zg) (xd:zg->(List ze)->zb->za->Option zg) (wv:zg) (sv:List ze) (f:zb) (v:za):Option zg:=((if (decide ((v.Words.length:Int)>0)) then (zeG wv f v.Words>>=fun rv=>some (rv.pieces,rv.size)) else (some (wv.pieces,wv.size)) :Option ((List (List UInt8))×Int)))>>=fun p=>zcu f v 0 p.1 p.2>>=fun q=>zcv f xc sv v 0 q.1 q.2>>=fun q2=>some (⟨q2.1,q2.2⟩:zg)
def zA:Nat->(zg->(List ze)->Int->zc->Option zg)×(zg->(List ze)->zb->zc->Option zg)×(zg->(List ze)->zb->za->Option zg) | 0=>(fun _ _ _ _=>none,fun _ _ _ _=>none,fun _ _ _ _=>none) | fuel+1=>(fun wv sv message x=>zdj (zA fuel).1 (zA fuel).2.1 (zA fuel).2.2 wv sv message x,fun wv sv f x=>zeF (zA fuel).1 (zA fuel).2.1 (zA fuel).2.2 wv sv f x,fun wv sv f v=>zdZ (zA fuel).1 (zA fuel).2.1 (zA fuel).2.2 wv sv f v)
def zbE (fuel:Nat):zg->(List ze)->Int->zc->Option zg:=(zA fuel).1
def zdQ (fuel:Nat):zg->(List ze)->zb->zc->Option zg:=(zA fuel).2.1
def zbK (fuel:Nat):zg->(List ze)->zb->za->Option zg:=(zA fuel).2.2
theorem zjr {xd:zg->(List ze)->zb->za->Option zg} {sv:List ze} {x:zc} {x2:ze} {v:Int} {f:List (List UInt8)} {f2:Int} {v':Int} {f':List (List UInt8)} {f2':Int} (h:zay xd sv x x2 v f f2=some (.inl (v',f',f2'))):zbV xd sv x x2 v f f2=zbV xd sv x x2 v' f' f2':=zF (vX:=fun s:(Int×(List (List UInt8))×Int)=>zay xd sv x x2 s.1 s.2.1 s.2.2) h
theorem zjs {xd:zg->(List ze)->zb->za->Option zg} {sv:List ze} {x:zc} {x2:ze} {v:Int} {f:List (List UInt8)} {f2:Int} {vZ:((List (List UInt8))×Int)} (h:zay xd sv x x2 v f f2=some (.inr vZ)):zbV xd sv x x2 v f f2=some vZ:=zC (vX:=fun s:(Int×(List (List UInt8))×Int)=>zay xd sv x x2 s.1 s.2.1 s.2.2) h
theorem zjt {x:zc} {v2:Int} {f5:List (List UInt8)} {f6:Int} {v2':Int} {f5':List (List UInt8)} {f6':Int} (h:zaz x v2 f5 f6=some (.inl (v2',f5',f6'))):zbW x v2 f5 f6=zbW x v2' f5' f6':=zF (vX:=fun s:(Int×(List (List UInt8))×Int)=>zaz x s.1 s.2.1 s.2.2) h
theorem zju {x:zc} {v2:Int} {f5:List (List UInt8)} {f6:Int} {vZ:((List (List UInt8))×Int)} (h:zaz x v2 f5 f6=some (.inr vZ)):zbW x v2 f5 f6=some vZ:=zC (vX:=fun s:(Int×(List (List UInt8))×Int)=>zaz x s.1 s.2.1 s.2.2) h
theorem zkB {f:zb} {v:za} {v2:Int} {f4:List (List UInt8)} {f5:Int} {v2':Int} {f4':List (List UInt8)} {f5':Int} (h:zaP f v v2 f4 f5=some (.inl (v2',f4',f5'))):zcu f v v2 f4 f5=zcu f v v2' f4' f5':=zF (vX:=fun s:(Int×(List (List UInt8))×Int)=>zaP f v s.1 s.2.1 s.2.2) h
theorem zkC {f:zb} {v:za} {v2:Int} {f4:List (List UInt8)} {f5:Int} {vZ:((List (List UInt8))×Int)} (h:zaP f v v2 f4 f5=some (.inr vZ)):zcu f v v2 f4 f5=some vZ:=zC (vX:=fun s:(Int×(List (List UInt8))×Int)=>zaP f v s.1 s.2.1 s.2.2) h
theorem zkD {f:zb} {xc:zg->(List ze)->zb->zc->Option zg} {sv:List ze} {v:za} {v4:Int} {f8:List (List UInt8)} {f9:Int} {v4':Int} {f8':List (List UInt8)} {f9':Int} (h:zaQ f xc sv v v4 f8 f9=some (.inl (v4',f8',f9'))):zcv f xc sv v v4 f8 f9=zcv f xc sv v v4' f8' f9':=zF (vX:=fun s:(Int×(List (List UInt8))×Int)=>zaQ f xc sv v s.1 s.2.1 s.2.2) h
theorem zkE {f:zb} {xc:zg->(List ze)->zb->zc->Option zg} {sv:List ze} {v:za} {v4:Int} {f8:List (List UInt8)} {f9:Int} {vZ:((List (List UInt8))×Int)} (h:zaQ f xc sv v v4 f8 f9=some (.inr vZ)):zcv f xc sv v v4 f8 f9=some vZ:=zC (vX:=fun s:(Int×(List (List UInt8))×Int)=>zaQ f xc sv v s.1 s.2.1 s.2.2) h
def zdP (wv:Option zg):Option (List UInt8):=wv>>=fun x=>zao x.pieces>>=fun rv=>some rv
def zhL (fuel:Nat) (sv:List ze) (root:Int) (x:zc):Option ((List UInt8)×Int):=zjS fuel sv root x>>=fun rv=>if (rv !=0) then some ([],rv) else zbE fuel (⟨[],0⟩:zg) sv root x>>=fun vV=>zdP (some vV)>>=fun v8=>some (v8,0)
def ziJ (fuel:Nat) (sv:List ze) (f:zb) (v:za):Option ((List UInt8)×Int):=(if (decide (f.Number>=1)) then (if (decide (f.Number<=536870911)) then (zhD fuel f sv v>>=fun rv=>some rv) else some false) else some false)>>=fun g=>if g then (zbK fuel (⟨[],0⟩:zg) sv f v>>=fun vV=>zdP (some vV)>>=fun v8=>some (v8,0)) else zfr sv>>=fun rv4=>if (!rv4) then some ([],9) else some ([],12)
def zeH (fuel:Nat):Option Bool:=zhL fuel ([(⟨[109],([(⟨[97],1,3,true,false,0⟩:zb)]:List zb)⟩:ze)]:List ze) 0 (⟨([(⟨1,([1,300]:List Int),[],[]⟩:za)]:List za),[]⟩:zc)>>=fun rv=>(if ((i64.wrap rv.2)==0) then (zfi rv.1 ([(10:UInt8),(3:UInt8),(1:UInt8),(172:UInt8),(2:UInt8)]:List UInt8)>>=fun vV=>some vV) else some false)>>=fun g=>some g
def zaF (xm:(List ze)->zb->za->Option (List UInt8)) (root:Int) (sv:List ze) (x:zc) (out:List UInt8) (i:Int):Option (((List UInt8)×Int)⊕(List UInt8)):=if (decide (i<(x.Values.length:Int))) then (idx sv root>>=fun x2=>idx sv root>>=fun x3=>idx x.Values i>>=fun x4=>zcN x3 x4.Number>>=fun rv=>idx x2.Fields rv>>=fun x5=>idx x.Values i>>=fun x6=>xm sv x5 x6>>=fun vV=>app 1 out vV>>=fun v=>some (.inl (v,(i64.wrap (i+1))))) else some (.inr out)
def zcg (xm:(List ze)->zb->za->Option (List UInt8)) (root:Int) (sv:List ze) (x:zc) (out:List UInt8) (i:Int):Option (List UInt8):=zT (fun s:((List UInt8)×Int)=>zaF xm root sv x s.1 s.2) (out,i)
def zaG (x:zc) (out3:List UInt8) (i2:Int):Option (((List UInt8)×Int)⊕(List UInt8)):=if (decide (i2<(x.Unknown.length:Int))) then (idx x.Unknown i2>>=fun x7=>app 1 out3 x7>>=fun v2=>some (.inl (v2,(i64.wrap (i2+1))))) else some (.inr out3)
def zch (x:zc) (out3:List UInt8) (i2:Int):Option (List UInt8):=zT (fun s:((List UInt8)×Int)=>zaG x s.1 s.2) (out3,i2)
def zdK (xl:(List ze)->Int->zc->Option (List UInt8)) (xm:(List ze)->zb->za->Option (List UInt8)) (sv:List ze) (root:Int) (x:zc):Option (List UInt8):=zcg xm root sv x [] 0>>=fun q=>zch x q 0>>=fun q2=>some q2
def zaZ (fuel:Nat) (f:zb) (v:za) (out:List UInt8) (i:Int):Option (((List UInt8)×Int)⊕(List UInt8)):=if (decide (i<(v.Texts.length:Int))) then (idx v.Texts i>>=fun x2=>lenO x2>>=fun v3=>zcW fuel f.Number 2 v3>>=fun rv8=>app 1 out rv8>>=fun v4=>some (.inl (v4,(i64.wrap (i+1))))) else some (.inr out)
def zcD (fuel:Nat) (f:zb) (v:za) (out:List UInt8) (i:Int):Option (List UInt8):=zT (fun s:((List UInt8)×Int)=>zaZ fuel f v s.1 s.2) (out,i)
def zba (fuel:Nat) (f:zb) (xl:(List ze)->Int->zc->Option (List UInt8)) (sv:List ze) (v:za) (out3:List UInt8) (i2:Int):Option (((List UInt8)×Int)⊕(List UInt8)):=if (decide (i2<(v.Subs.length:Int))) then (idx v.Subs i2>>=fun x3=>xl sv f.Of x3>>=fun rv9=>zcW fuel f.Number 2 rv9>>=fun rv10=>app 1 out3 rv10>>=fun v5=>some (.inl (v5,(i64.wrap (i2+1))))) else some (.inr out3)
def zcE (fuel:Nat) (f:zb) (xl:(List ze)->Int->zc->Option (List UInt8)) (sv:List ze) (v:za) (out3:List UInt8) (i2:Int):Option (List UInt8):=zT (fun s:((List UInt8)×Int)=>zba fuel f xl sv v s.1 s.2) (out3,i2)
def zeb (fuel:Nat) (xl:(List ze)->Int->zc->Option (List UInt8)) (xm:(List ze)->zb->za->Option (List UInt8)) (sv:List ze) (f:zb) (v:za):Option (List UInt8):=zbz f.Kind>>=fun rv=>if (rv&&f.Repeated) then (zfo fuel f.Kind v.Words>>=fun vV=>zcW fuel f.Number 2 vV>>=fun v8=>some v8) else zbz f.Kind>>=fun rv4=>if rv4 then (zfn f.Kind>>=fun rv5=>idx v.Words 0>>=fun x=>zez fuel f.Kind x>>=fun rv6=>zcW fuel f.Number rv5 rv6>>=fun rv7=>some rv7) else zcD fuel f v [] 0>>=fun q=>zcE fuel f xl sv v q 0>>=fun q2=>some q2
def zV:Nat->((List ze)->Int->zc->Option (List UInt8))×((List ze)->zb->za->Option (List UInt8)) | 0=>(fun _ _ _=>none,fun _ _ _=>none) | fuel+1=>(fun sv root x=>zdK (zV fuel).1 (zV fuel).2 sv root x,fun sv f v=>zeb fuel (zV fuel).1 (zV fuel).2 sv f v)
def zdz (fuel:Nat):(List ze)->Int->zc->Option (List UInt8):=(zV fuel).1
def zbN (fuel:Nat):(List ze)->zb->za->Option (List UInt8):=(zV fuel).2
theorem zjY {xm:(List ze)->zb->za->Option (List UInt8)} {root:Int} {sv:List ze} {x:zc} {out:List UInt8} {i:Int} {out':List UInt8} {i':Int} (h:zaF xm root sv x out i=some (.inl (out',i'))):zcg xm root sv x out i=zcg xm root sv x out' i':=zF (vX:=fun s:((List UInt8)×Int)=>zaF xm root sv x s.1 s.2) h
theorem zjZ {xm:(List ze)->zb->za->Option (List UInt8)} {root:Int} {sv:List ze} {x:zc} {out:List UInt8} {i:Int} {vZ:List UInt8} (h:zaF xm root sv x out i=some (.inr vZ)):zcg xm root sv x out i=some vZ:=zC (vX:=fun s:((List UInt8)×Int)=>zaF xm root sv x s.1 s.2) h
theorem zka {x:zc} {out3:List UInt8} {i2:Int} {out3':List UInt8} {i2':Int} (h:zaG x out3 i2=some (.inl (out3',i2'))):zch x out3 i2=zch x out3' i2':=zF (vX:=fun s:((List UInt8)×Int)=>zaG x s.1 s.2) h
theorem zkb {x:zc} {out3:List UInt8} {i2:Int} {vZ:List UInt8} (h:zaG x out3 i2=some (.inr vZ)):zch x out3 i2=some vZ:=zC (vX:=fun s:((List UInt8)×Int)=>zaG x s.1 s.2) h
theorem zkR {fuel:Nat} {f:zb} {v:za} {out:List UInt8} {i:Int} {out':List UInt8} {i':Int} (h:zaZ fuel f v out i=some (.inl (out',i'))):zcD fuel f v out i=zcD fuel f v out' i':=zF (vX:=fun s:((List UInt8)×Int)=>zaZ fuel f v s.1 s.2) h
theorem zkS {fuel:Nat} {f:zb} {v:za} {out:List UInt8} {i:Int} {vZ:List UInt8} (h:zaZ fuel f v out i=some (.inr vZ)):zcD fuel f v out i=some vZ:=zC (vX:=fun s:((List UInt8)×Int)=>zaZ fuel f v s.1 s.2) h
theorem zkT {fuel:Nat} {f:zb} {xl:(List ze)->Int->zc->Option (List UInt8)} {sv:List ze} {v:za} {out3:List UInt8} {i2:Int} {out3':List UInt8} {i2':Int} (h:zba fuel f xl sv v out3 i2=some (.inl (out3',i2'))):zcE fuel f xl sv v out3 i2=zcE fuel f xl sv v out3' i2':=zF (vX:=fun s:((List UInt8)×Int)=>zba fuel f xl sv v s.1 s.2) h
theorem zkU {fuel:Nat} {f:zb} {xl:(List ze)->Int->zc->Option (List UInt8)} {sv:List ze} {v:za} {out3:List UInt8} {i2:Int} {vZ:List UInt8} (h:zba fuel f xl sv v out3 i2=some (.inr vZ)):zcE fuel f xl sv v out3 i2=some vZ:=zC (vX:=fun s:((List UInt8)×Int)=>zba fuel f xl sv v s.1 s.2) h
def zcH (fuel:Nat) (sv:List ze) (f:zb) (v:za):Option Bool:=zeH fuel>>=fun rv=>if (!rv) then some false else (zfK sv>>=fun vV=>if (!vV) then some true else zan fuel v 70>>=fun v8=>some (decide (v8>3000)))>>=fun g=>if g then some true else ziJ fuel sv f v>>=fun rv4=>zbi fuel v>>=fun rv5=>zeO sv>>=fun rv6=>if (!rv6) then some (((i64.wrap rv4.2)==9)&&((rv4.1.length:Int)==0)) else (if (decide (f.Number<1)) then some true else if (decide (f.Number>536870911)) then some true else zbp fuel sv f rv5>>=fun rv7=>some (!rv7))>>=fun g2=>if g2 then some (((i64.wrap rv4.2)==12)&&((rv4.1.length:Int)==0)) else (if ((i64.wrap rv4.2)==0) then (zbN fuel sv f rv5>>=fun rv8=>zfi rv4.1 rv8>>=fun rv9=>some rv9) else some false)>>=fun g3=>some g3
end
end Go.Proofs.YtkgohoggipdokaaGreat
