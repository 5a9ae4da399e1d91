/-
  What the Go functions do, as plain functions. No condition.
-/
import Derived.Test.YtaglemhabeipfaaGreatx2K2
set_option autoImplicit true
set_option relaxedAutoImplicit true
namespace Go.Proofs.YtaglemhabeipfaaGreat
open Go.IntKind (i32 i64 u32 u64 u8)
open Go
set_option linter.unusedVariables false
abbrev Str:=List UInt8
structure zOA where
  a0:Str
  a1:Str
  a2:Str
  a3:Str
  a4:Str
  a5:Str
  a6:Str
  a7:Str
  a8:Str
  a9:Str
  a10:Str
  a11:Str
  a12:Str
  a13:Str
  a14:Str deriving DecidableEq
structure zt where
  Number:Int
  Wire:Int
  From:Int
  At:Int
  To:Int deriving DecidableEq
def zU:Rp zt:=⟨5,true,fun x=>[.int .i64 x.Number,.int .i64 x.Wire,.int .i64 x.From,.int .i64 x.At,.int .i64 x.To],fun _=>rfl,by decide⟩
structure zg where
  Record:zt
  Field:Int
  Run:Bool deriving DecidableEq
def zj:Rp zg:=⟨7,true,fun x=>[.int .i64 x.Record.Number,.int .i64 x.Record.Wire,.int .i64 x.Record.From,.int .i64 x.Record.At,.int .i64 x.Record.To,.int .i64 x.Field,.bool x.Run],fun _=>rfl,by decide⟩
structure zw where
  name:Str
  wire:Int deriving DecidableEq
def zaH:Rp zw:=⟨2,true,fun x=>[.str x.name,.int .i64 x.wire],fun _=>rfl,by decide⟩
mutual
structure zd where
  Values:(List zb)
  Unknown:(List Str)
structure zb where
  Number:Int
  Words:(List Int)
  Texts:(List Str)
  Subs:(List zd)
end
mutual
def zgF:zd->List LV | ⟨x0,x1⟩=>[.sl x0.length 4 (zcQ x0),.sl x1.length Rp.str.size (x1.flatMap Rp.str.lv)]
def zfX:List zd->List LV | []=>[] | x::l=>zgF x++zfX l
def zde:zb->List LV | ⟨x0,x1,x2,x3⟩=>[.int .i64 x0,.sl x1.length (Rp.int .u64).size (x1.flatMap (Rp.int .u64).lv),.sl x2.length Rp.str.size (x2.flatMap Rp.str.lv),.sl x3.length 2 (zfX x3)]
def zcQ:List zb->List LV | []=>[] | x::l=>zde x++zcQ l
end
theorem zro (l:List zd):zfX l=l.flatMap zgF:=by
  induction l with
  | nil=>rfl
  | cons x l ih=>rw [zfX,ih,xM]
def zm:Rp zd:=⟨2,true,zgF,fun x=>by cases x;rfl,by decide⟩
theorem zkC (l:List zb):zcQ l=l.flatMap zde:=by
  induction l with
  | nil=>rfl
  | cons x l ih=>rw [zcQ,ih,xM]
def zk:Rp zb:=⟨4,true,zde,fun x=>by cases x;rfl,by decide⟩
theorem zaq (x:zd):zm.lv x=[.sl x.Values.length zk.size (x.Values.flatMap zk.lv),.sl x.Unknown.length Rp.str.size (x.Unknown.flatMap Rp.str.lv)]:=by
  cases x;simp only [zm,zgF,zkC,zk]<;>rfl
theorem zan (x:zb):zk.lv x=[.int .i64 x.Number,.sl x.Words.length (Rp.int .u64).size (x.Words.flatMap (Rp.int .u64).lv),.sl x.Texts.length Rp.str.size (x.Texts.flatMap Rp.str.lv),.sl x.Subs.length zm.size (x.Subs.flatMap zm.lv)]:=by
  cases x;simp only [zk,zde,zro,zm]<;>rfl
structure za where
  Name:Str
  Number:Int
  Kind:Int
  Repeated:Bool
  Packed:Bool
  Of:Int deriving DecidableEq
def zc:Rp za:=⟨6,true,fun x=>[.str x.Name,.int .i64 x.Number,.int .i64 x.Kind,.bool x.Repeated,.bool x.Packed,.int .i64 x.Of],fun _=>rfl,by decide⟩
structure ze where
  Name:Str
  Fields:(List za) deriving DecidableEq
def zf:Rp ze:=⟨2,true,fun x=>[.str x.Name,.sl x.Fields.length zc.size (x.Fields.flatMap zc.lv)],fun _=>rfl,by decide⟩
structure zap where
  Number:Int
  Wire:Int deriving DecidableEq
def zbN:Rp zap:=⟨2,true,fun x=>[.int .i64 x.Number,.int .i64 x.Wire],fun _=>rfl,by decide⟩
structure zy where
  message:Int
  name:Str deriving DecidableEq
def zL:Rp zy:=⟨2,true,fun x=>[.int .i64 x.message,.str x.name],fun _=>rfl,by decide⟩
structure zi where
  message:Int
  number:Int deriving DecidableEq
def zh:Rp zi:=⟨2,true,fun x=>[.int .i64 x.message,.int .i64 x.number],fun _=>rfl,by decide⟩
structure zaQ where
  size:Int
  kinds:(List Int)
  names:(List (zy×Bool))
  numbers:(List (zi×Bool))
structure zaP where
  Message:Int
  Field:Int
  What:Int deriving DecidableEq
def zdN:Rp zaP:=⟨3,true,fun x=>[.int .i64 x.Message,.int .i64 x.Field,.int .i64 x.What],fun _=>rfl,by decide⟩
structure zV where
  number:Int
  wire:Int deriving DecidableEq
def zal:Rp zV:=⟨2,true,fun x=>[.int .i64 x.number,.int .i64 x.wire],fun _=>rfl,by decide⟩
structure zab where
  field:Int
  run:Bool
  e:Int deriving DecidableEq
def zao:Rp zab:=⟨3,true,fun x=>[.int .i64 x.field,.bool x.run,.int .u8 x.e],fun _=>rfl,by decide⟩
structure zxY where
  R:zt
  Field:Int
  Run:Bool deriving DecidableEq
structure zo where
  message:Int
  number:Int
  wire:Int deriving DecidableEq
def zq:Rp zo:=⟨3,true,fun x=>[.int .i64 x.message,.int .i64 x.number,.int .i64 x.wire],fun _=>rfl,by decide⟩
structure zav where
  s:(List ze)
  b:(List UInt8)
  met:(List (zo×zg))
structure zA where
  depth:Int
  place:Int
  e:Int deriving DecidableEq
def zaD:Rp zA:=⟨3,true,fun x=>[.int .i64 x.depth,.int .i64 x.place,.int .u8 x.e],fun _=>rfl,by decide⟩
structure zMQ where
  a0:Int
  a1:Int deriving DecidableEq
structure zn where
  pieces:(List (List UInt8))
  size:Int deriving DecidableEq
def zfl:Rp zn:=⟨2,true,fun x=>[.sl x.pieces.length (Rp.list Rp.byte).size (x.pieces.flatMap (Rp.list Rp.byte).lv),.int .i64 x.size],fun _=>rfl,by decide⟩
structure zad where
  s:(List ze)
  met:(List (zi×Int))
noncomputable section
def zcR (sv:List zd):Option (List zd):=app 48 ([]:List zd) sv>>=fun v=>some v
def zcf (sv:List zb):Option (List zb):=app 80 ([]:List zb) sv>>=fun v=>some v
def zcx (n:Int):Option (List UInt8):=if (decide (n<0)) then none else if (decide ((i64.wrap (n - (i64.wrap (0 - 0))))>0)) then (mkO 1 (0:UInt8) (i64.wrap (n - (i64.wrap (0 - 0)))) (i64.wrap (n - (i64.wrap (0 - 0))))>>=fun v=>cut v 0 0>>=fun v2=>some v2) else some []
def zaR (ku:List (List UInt8)) (size:Int) (v:Int):Option ((Int×Int)⊕Int):=if (decide (v<(ku.length:Int))) then (idx ku v>>=fun x=>if (decide ((i64.wrap (size+(x.length:Int)))<0)) then none else some (.inl ((i64.wrap (size+(x.length:Int))),(i64.wrap (v+1))))) else some (.inr size)
def zbj (ku:List (List UInt8)) (size:Int) (v:Int):Option Int:=zaB (fun s=>zaR ku s.1 s.2) (size,v)
def zaS (ku:List (List UInt8)) (kx:List UInt8) (v2:Int):Option (((List UInt8)×Int)⊕(List UInt8)):=if (decide (v2<(ku.length:Int))) then (idx ku v2>>=fun x2=>app 1 kx x2>>=fun v3=>some (.inl (v3,(i64.wrap (v2+1))))) else some (.inr kx)
def zbk (ku:List (List UInt8)) (kx:List UInt8) (v2:Int):Option (List UInt8):=zaB (fun s=>zaS ku s.1 s.2) (kx,v2)
def zaw (ku:List (List UInt8)):Option (List UInt8):=zbj ku 0 0>>=fun q=>zcx q>>=fun rv=>zbk ku rv 0>>=fun q2=>some q2
theorem zig (h:zaR ku size v=some (.inl (size',v'))):zbj ku size v=zbj ku size' v':=zY h
theorem zih (h:zaR ku size v=some (.inr wW)):zbj ku size v=some wW:=zZ h
theorem zii (h:zaS ku kx v2=some (.inl (newslice',v2'))):zbk ku kx v2=zbk ku newslice' v2':=zY h
theorem zij (h:zaS ku kx v2=some (.inr wW)):zbk ku kx v2=some wW:=zZ h
def zbf (sv:List Int) (v:Int) (v2:Int):Option (Int⊕(Unit⊕Int)):=if (decide (v2<(sv.length:Int))) then (idx sv v2>>=fun x=>if (v==x) then some (.inr (.inr v2)) else some (.inl (i64.wrap (v2+1)))) else some (.inr (.inl ()))
def zbz (sv:List Int) (v:Int) (v2:Int):Option (Unit⊕Int):=zaB (fun s=>zbf sv v s) v2
def zcN (sv:List Int) (v:Int):Option Int:=zbz sv v 0>>=fun q=>match q with | .inl u=>(some (-1)) | .inr u2=>(some u2)
theorem zjq (h:zbf sv v v2=some (.inl v2')):zbz sv v v2=zbz sv v v2':=zY h
theorem zfD (h:zbf sv v v2=some (.inr wW)):zbz sv v v2=some wW:=zZ h
def zcb (sv:List Int) (v:Int):Option Bool:=zcN sv v>>=fun rv=>some (decide (rv>=0))
def zco (sv:List Str):Option (List Str):=app 16 ([]:List Str) sv>>=fun v=>some v
def zdW (sv:List Int):Option (List Int):=app 8 ([]:List Int) sv>>=fun v=>some v
def zaF (s1:List Int) (s2:List Int) (v:Int):Option (Int⊕(Unit⊕Unit)):=if (decide (v<(s1.length:Int))) then (idx s1 v>>=fun x=>idx s2 v>>=fun x2=>if (x !=x2) then some (.inr (.inr ())) else some (.inl (i64.wrap (v+1)))) else some (.inr (.inl ()))
def zaV (s1:List Int) (s2:List Int) (v:Int):Option (Unit⊕Unit):=zaB (fun s=>zaF s1 s2 s) v
def zbD (s1:List Int) (s2:List Int):Option Bool:=if ((s1.length:Int) !=(s2.length:Int)) then some false else (zaV s1 s2 0>>=fun q=>match q with | .inl u=>(some true) | .inr u2=>(some false))
theorem zhr (h:zaF s1 s2 v=some (.inl v')):zaV s1 s2 v=zaV s1 s2 v':=zY h
theorem zer (h:zaF s1 s2 v=some (.inr wW)):zaV s1 s2 v=some wW:=zZ h
def zaE (s1:List Str) (s2:List Str) (v:Int):Option (Int⊕(Unit⊕Unit)):=if (decide (v<(s1.length:Int))) then (idx s1 v>>=fun x=>idx s2 v>>=fun x2=>if (!(x==x2)) then some (.inr (.inr ())) else some (.inl (i64.wrap (v+1)))) else some (.inr (.inl ()))
def zaU (s1:List Str) (s2:List Str) (v:Int):Option (Unit⊕Unit):=zaB (fun s=>zaE s1 s2 s) v
def zbl (s1:List Str) (s2:List Str):Option Bool:=if ((s1.length:Int) !=(s2.length:Int)) then some false else (zaU s1 s2 0>>=fun q=>match q with | .inl u=>(some true) | .inr u2=>(some false))
theorem zhq (h:zaE s1 s2 v=some (.inl v')):zaU s1 s2 v=zaU s1 s2 v':=zY h
theorem zeq (h:zaE s1 s2 v=some (.inr wW)):zaU s1 s2 v=some wW:=zZ h
def zfL (av:List UInt8) (b:List UInt8):Option Bool:=some (av==b)
def zhQ (wY:Int) (n:Int):Option ((Int×Int)⊕Int):=if (wY !=0) then some (.inl ((shrI .u64 wY 7),(i64.wrap (n+1)))) else some (.inr n)
def zjD (wY:Int) (n:Int):Option Int:=zaB (fun s=>zhQ s.1 s.2) (wY,n)
def zmx (wv:Int):Option Int:=zjD (shrI .u64 wv 7) 1>>=fun q=>some q
theorem zuO (h:zhQ wY n=some (.inl (wv2',n'))):zjD wY n=zjD wv2' n':=zY h
theorem zuP (h:zhQ wY n=some (.inr wW)):zjD wY n=some wW:=zZ h
def zdO (v:List UInt8) (wv:Int) (b:List UInt8) (v2:Int):Option (((List UInt8)×Int)⊕(List UInt8)):=if (decide (v2<(v.length:Int))) then (shrO .u64 wv (i64.wrap (8*v2))>>=fun v3=>idx b v2>>=fun x=>zqJ (u8.wrap v3)>>=fun y2=>some (.inl ((b.set (Int.toNat v2) y2),(i64.wrap (v2+1))))) else some (.inr b)
def zfx (v:List UInt8) (wv:Int) (b:List UInt8) (v2:Int):Option (List UInt8):=zaB (fun s=>zdO v wv s.1 s.2) (b,v2)
def zjE (wv:Int) (n:Int):Option (List UInt8):=mkO 1 (0:UInt8) (if (8:Int)<(if n<0 then 0 else n) then 8 else if n<0 then 0 else n) (if (8:Int)<(if n<0 then 0 else n) then 8 else if n<0 then 0 else n)>>=fun v=>zfx v wv v 0>>=fun q=>some q
theorem zrd {v:List UInt8} {wv:Int} {b:List UInt8} {v2:Int} {b':List UInt8} {v2':Int} (h:zdO v wv b v2=some (.inl (b',v2'))):zfx v wv b v2=zfx v wv b' v2':=zY h
theorem zre {v:List UInt8} {wv:Int} {b:List UInt8} {v2:Int} {wW:List UInt8} (h:zdO v wv b v2=some (.inr wW)):zfx v wv b v2=some wW:=zZ h
def zjb (wv:Int):Option Int:=some (u32.wrap wv)
def zjF (wv:Int):Option Int:=zjb wv>>=fun rv=>some (i32.wrap rv)
def zjG (n:Int):Option Int:=some (u64.wrap (i64.wrap n))
def zfR (v:List UInt8) (wv:Int) (v2:Int):Option ((Int×Int)⊕Int):=if (decide (v2<(v.length:Int))) then (idx v v2>>=fun x=>shlO .u64 (u64.wrap (x.toNat:Int)) (i64.wrap (8*v2))>>=fun v3=>some (.inl ((orI .u64 wv v3),(i64.wrap (v2+1))))) else some (.inr wv)
def zgX (v:List UInt8) (wv:Int) (v2:Int):Option Int:=zaB (fun s=>zfR v s.1 s.2) (wv,v2)
def zmy (b:List UInt8):Option Int:=cut b 0 (if (8:Int)<(b.length:Int) then 8 else (b.length:Int))>>=fun v=>zgX v 0 0>>=fun q=>some q
theorem ztj (h:zfR v wv v2=some (.inl (wv',v2'))):zgX v wv v2=zgX v wv' v2':=zY h
theorem ztk (h:zfR v wv v2=some (.inr wW)):zgX v wv v2=some wW:=zZ h
def zcY (av:List UInt8) (b:List UInt8):Option Bool:=some (av==b)
def zeb (v:List UInt8) (wv:Int) (v2:Int):Option ((Int×Int)⊕(Unit⊕(Int×Int×Int))):=if (decide (v2<(v.length:Int))) then (idx v v2>>=fun x=>if ((v2==9)&&(decide ((x.toNat:Int)>1))) then some (.inr (.inr (0,0,4))) else shlO .u64 (u64.wrap (andI .u8 (x.toNat:Int) 127)) (i64.wrap (7*v2))>>=fun v4=>if (decide ((x.toNat:Int)<128)) then some (.inr (.inr ((orI .u64 wv v4),(i64.wrap (v2+1)),0))) else some (.inl ((orI .u64 wv v4),(i64.wrap (v2+1))))) else some (.inr (.inl ()))
def zfK (v:List UInt8) (wv:Int) (v2:Int):Option (Unit⊕(Int×Int×Int)):=zaB (fun s=>zeb v s.1 s.2) (wv,v2)
def zfP (b:List UInt8):Option (Int×Int×Int):=cut b 0 (if (10:Int)<(b.length:Int) then 10 else (b.length:Int))>>=fun v=>zfK v 0 0>>=fun q=>match q with | .inl u=>(some (0,0,3)) | .inr u2=>(some (u2.1,u2.2.1,u2.2.2))
theorem zrC (h:zeb v wv v2=some (.inl (wv',v2'))):zfK v wv v2=zfK v wv' v2':=zY h
theorem zhO (h:zeb v wv v2=some (.inr wW)):zfK v wv v2=some wW:=zZ h
def zfu (wY:Int) (l:List UInt8):Option ((Int×(List UInt8))⊕(Int×(List UInt8))):=if (decide (wY>=128)) then (zqJ (orI .u8 (u8.wrap wY) 128)>>=fun y=>app 1 l ([y]:List UInt8)>>=fun v3=>some (.inl ((shrI .u64 wY 7),v3))) else some (.inr (wY,l))
def zhB (wY:Int) (l:List UInt8):Option (Int×(List UInt8)):=zaB (fun s=>zfu s.1 s.2) (wY,l)
def zhN (b:List UInt8) (wv:Int):Option (List UInt8):=zmx wv>>=fun rv=>mkO 1 (0:UInt8) 0 (i64.wrap ((b.length:Int)+rv))>>=fun v=>app 1 v b>>=fun v2=>zhB wv v2>>=fun q=>zqJ (u8.wrap q.1)>>=fun y2=>app 1 q.2 ([y2]:List UInt8)>>=fun v4=>some v4
theorem zsY {wY:Int} {l:List UInt8} {wv2':Int} {l':List UInt8} (h:zfu wY l=some (.inl (wv2',l'))):zhB wY l=zhB wv2' l':=zY h
theorem zsZ {wY:Int} {l:List UInt8} {wW:(Int×(List UInt8))} (h:zfu wY l=some (.inr wW)):zhB wY l=some wW:=zZ h
def zie (b:List UInt8):Option (Int×Int):=zfP b>>=fun rv=>some (rv.2.1,rv.2.2)
def zhx (wire:Int):Option Bool:=if (wire==0) then if (wire==0) then some true else (some false) else if (wire==1) then if (wire==1) then some true else (some false) else if (wire==2) then if (wire==2) then some true else (some false) else if (wire==5) then some true else some false
def zkT (t:zap):Option Bool:=(if (decide (t.Number>=1)) then (if (decide (t.Number<=536870911)) then (zhx t.Wire>>=fun rv=>some rv) else some false) else some false)>>=fun g=>some g
def zpz (b:List UInt8):Option (zap×Int×Int):=zfP b>>=fun rv=>if (rv.2.2 !=0) then some ((⟨0,0⟩:zap),0,rv.2.2) else (zkT (⟨(i64.wrap (if (536870912:Int)<(shrI .u64 rv.1 3) then 536870912 else shrI .u64 rv.1 3)),(i64.wrap (andI .u64 rv.1 7))⟩:zap)>>=fun wN=>if (!wN) then some ((⟨0,0⟩:zap),0,5) else (some ((⟨(i64.wrap (if (536870912:Int)<(shrI .u64 rv.1 3) then 536870912 else shrI .u64 rv.1 3)),(i64.wrap (andI .u64 rv.1 7))⟩:zap),rv.2.1,0)))
def zpA (t:zap):Option Int:=some (orI .u64 (shlI .u64 (u64.wrap t.Number) 3) (u64.wrap t.Wire))
def znX (b:List UInt8) (t:zap):Option ((List UInt8)×Int):=zkT t>>=fun rv=>if (!rv) then some ([],2) else zpA t>>=fun wN=>zhN b wN>>=fun wQ=>some (wQ,0)
def zsX (c:Int):Option (Int×Int):=if ((shrI .u8 c 7)==0) then some (1,(u32.wrap c)) else if ((shrI .u8 c 5)==6) then some (2,(u32.wrap (andI .u8 c 31))) else if ((shrI .u8 c 4)==14) then some (3,(u32.wrap (andI .u8 c 15))) else if ((shrI .u8 c 3)==30) then some (4,(u32.wrap (andI .u8 c 7))) else some (0,0)
def znm (wv:Int):Option Int:=if ((shrI .u32 wv 7)==0) then some 1 else if ((shrI .u32 wv 11)==0) then some 2 else if ((shrI .u32 wv 11)==27) then some 0 else if ((shrI .u32 wv 16)==0) then some 3 else if (decide (wv<=1114111)) then some 4 else some 0
def zfO (v2:List UInt8) (wv:Int) (v3:Int):Option ((Int×Int)⊕(Int⊕Unit)):=if (decide (v3<(v2.length:Int))) then (idx v2 v3>>=fun x2=>if ((shrI .u8 (x2.toNat:Int) 6) !=2) then some (.inr (.inr ())) else some (.inl ((orI .u32 (shlI .u32 wv 6) (u32.wrap (andI .u8 (x2.toNat:Int) 63))),(i64.wrap (v3+1))))) else some (.inr (.inl wv))
def zcq (v2:List UInt8) (wv:Int) (v3:Int):Option (Int⊕Unit):=zaB (fun s=>zfO v2 s.1 s.2) (wv,v3)
def znl (b:List UInt8):Option Int:=if ((b.length:Int)==0) then some 0 else (idx b 0>>=fun x=>zsX (x.toNat:Int)>>=fun rv=>if ((rv.1==0)|| (decide (rv.1>(b.length:Int)))) then some 0 else (cut b 1 rv.1>>=fun v2=>zcq v2 rv.2 0>>=fun q=>match q with | .inl u=>(znm u>>=fun wN=>if (rv.1 !=wN) then some 0 else some rv.1) | .inr u2=>(some 0)))
theorem zuY (h:zfO v2 wv v3=some (.inl (wv',v3'))):zcq v2 wv v3=zcq v2 wv' v3':=zY h
theorem zon (h:zfO v2 wv v3=some (.inr wW)):zcq v2 wv v3=some wW:=zZ h
def zgT (b:List UInt8) (atv:Int) (points:Int) (size:Int):Option ((Int×Int×Int)⊕(Int×Int)):=if (decide (size>0)) then (cut b (i64.wrap (atv+size)) (b.length:Int)>>=fun v=>znl v>>=fun wN=>some (.inl ((i64.wrap (atv+size)),(i64.wrap (points+1)),wN))) else some (.inr (atv,points))
def zgU (b:List UInt8) (atv:Int) (points:Int) (size:Int):Option (Int×Int):=zaB (fun s=>zgT b s.1 s.2.1 s.2.2) (atv,points,size)
def zpH (b:List UInt8):Option (Int×Int):=znl b>>=fun rv=>zgU b 0 0 rv>>=fun q=>some (q.1,q.2)
theorem zuZ (h:zgT b atv points size=some (.inl (atv',points',size'))):zgU b atv points size=zgU b atv' points' size':=zY h
theorem zva (h:zgT b atv points size=some (.inr wW)):zgU b atv points size=some wW:=zZ h
def znk (b:List UInt8):Option Int:=zpH b>>=fun rv=>some rv.1
def zkV (b:List UInt8):Option Bool:=znk b>>=fun rv=>some (rv==(b.length:Int))
def zhY (wire:Int) (b:List UInt8):Option (Int×Int×Int):=if (wire==0) then (zie b>>=fun rv=>some (0,rv.1,rv.2)) else (((if (wire==1) then some (0,0,8) else (if (wire==5) then some (0,0,4) else if (wire==2) then (zfP b>>=fun wN=>some (wN.2.1,wN.2.2,wN.1)) else some (0,0,0)) :Option (Int×Int×Int)))>>=fun p=>if (p.2.1 !=0) then some (0,0,p.2.1) else if (decide (p.2.2>(u64.wrap (i64.wrap ((b.length:Int) - p.1))))) then some (0,0,3) else some (p.1,(i64.wrap (p.1+(i64.wrap p.2.2))),0))
def zfe (b:List UInt8) (kg:Int):Option (zt×Int):=if ((decide (kg<0))|| (decide (kg>=(b.length:Int)))) then some ((⟨0,0,0,0,0⟩:zt),2) else (cut b kg (b.length:Int)>>=fun v2=>zpz v2>>=fun rv=>if (rv.2.2 !=0) then some ((⟨0,0,0,0,0⟩:zt),rv.2.2) else (cut b (i64.wrap (kg+rv.2.1)) (b.length:Int)>>=fun v3=>zhY rv.1.Wire v3>>=fun wN=>if (wN.2.2 !=0) then some ((⟨0,0,0,0,0⟩:zt),wN.2.2) else (some ((⟨rv.1.Number,rv.1.Wire,kg,(i64.wrap ((i64.wrap (kg+rv.2.1))+wN.1)),(i64.wrap ((i64.wrap (kg+rv.2.1))+wN.2.1))⟩:zt),0))))
def zjP (wire:Int) (value:List UInt8):Option Bool:=if (wire==2) then some true else zhY wire value>>=fun rv=>some ((rv.2.2==0)&&(rv.2.1==(value.length:Int)))
def zhH (b:List UInt8) (number:Int) (wire:Int) (value:List UInt8):Option ((List UInt8)×Int):=znX ([]:List UInt8) (⟨number,wire⟩:zap)>>=fun rv=>(if (rv.2 !=0) then some true else zjP wire value>>=fun wN=>some (!wN))>>=fun g=>if g then some ([],2) else if (wire==2) then (zhN rv.1 (u64.wrap (value.length:Int))>>=fun wQ=>zaw ([b,wQ,value]:List (List UInt8))>>=fun ke=>some (ke,0)) else zaw ([b,rv.1,value]:List (List UInt8))>>=fun rv5=>some (rv5,0)
def zjm (b:List UInt8) (number:Int) (value:List UInt8):Option (List UInt8):=zhH b number 2 value>>=fun rv=>if (rv.2 !=0) then (zaw ([b]:List (List UInt8))>>=fun wN=>some wN) else some rv.1
def znA (wv:Int):Option Int:=some (if (1:Int)<wv then 1 else wv)
def zgH (k:Int) (wv:Int):Option (Int×Int):=((if (k==1) then some (k==1) else (some (k==8)) :Option Bool))>>=fun p=>if p then (zjF wv>>=fun rv=>zjG rv>>=fun wN=>some (wN,0)) else ((if (k==3) then some (k==3) else (if (k==5) then some (k==5) else if (k==9) then some (k==9) else if (k==10) then some (k==10) else some (k==11)) :Option Bool))>>=fun p2=>if p2 then (zjb wv>>=fun wQ=>some ((u64.wrap wQ),0)) else if (k==7) then (znA wv>>=fun ke=>some (ke,0)) else ((if (k==2) then some (k==2) else (if (k==4) then some (k==4) else if (k==6) then some (k==6) else if (k==12) then some (k==12) else if (k==13) then some (k==13) else some (k==14)) :Option Bool))>>=fun p3=>if p3 then some (wv,0) else some (0,2)
def zln:Option (List (Int×zw)):=some (mput (mput (mput (mput (mput (mput (mput (mput (mput (mput (mput (mput (mput (mput (mput (mput (mput ([]:List (Int×zw)) 1 (⟨[105,110,116,51,50],0⟩:zw)) 2 (⟨[105,110,116,54,52],0⟩:zw)) 3 (⟨[117,105,110,116,51,50],0⟩:zw)) 4 (⟨[117,105,110,116,54,52],0⟩:zw)) 5 (⟨[115,105,110,116,51,50],0⟩:zw)) 6 (⟨[115,105,110,116,54,52],0⟩:zw)) 7 (⟨[98,111,111,108],0⟩:zw)) 8 (⟨[101,110,117,109],0⟩:zw)) 9 (⟨[102,105,120,101,100,51,50],5⟩:zw)) 10 (⟨[115,102,105,120,101,100,51,50],5⟩:zw)) 11 (⟨[102,108,111,97,116],5⟩:zw)) 12 (⟨[102,105,120,101,100,54,52],1⟩:zw)) 13 (⟨[115,102,105,120,101,100,54,52],1⟩:zw)) 14 (⟨[100,111,117,98,108,101],1⟩:zw)) 15 (⟨[115,116,114,105,110,103],2⟩:zw)) 16 (⟨[98,121,116,101,115],2⟩:zw)) 17 (⟨[109,101,115,115,97,103,101],2⟩:zw))
def zoW:Option (List Int):=zln>>=fun rv=>zlm rv>>=fun v=>some v
def zkM (k:Int):Option (Int×Int):=zln>>=fun rv=>if (!(mget rv k).isSome) then some (0,2) else some (((mget rv k).getD (⟨[],0⟩:zw)).wire,0)
def zhU (k:Int):Option Bool:=zkM k>>=fun rv=>some ((rv.2==0)&&(rv.1 !=2))
def zfC (c:Int):Option Bool:=some ((decide (c>=48))&&(decide (c<=57)))
def zgl (c:Int):Option Bool:=some (if (decide (c>=97)) then (decide (c<=122))|| (if (decide (c>=65)) then (decide (c<=90))|| (c==95) else c==95) else (if (decide (c>=65)) then (decide (c<=90))|| (c==95) else c==95))
def zdI (name:Str) (v2:Int):Option (Int⊕(Unit⊕Unit)):=if (decide (v2<(name.length:Int))) then ((idx name v2>>=fun c2=>zgl (c2.toNat:Int)>>=fun wN=>if (!wN) then (idx name v2>>=fun c3=>zfC (c3.toNat:Int)>>=fun wQ=>some (!wQ)) else some false)>>=fun g2=>if g2 then some (.inr (.inr ())) else some (.inl (i64.wrap (v2+1)))) else some (.inr (.inl ()))
def zeA (name:Str) (v2:Int):Option (Unit⊕Unit):=zaB (fun s=>zdI name s) v2
def zgt (name:Str):Option Bool:=(if (name==[]) then some true else if (decide ((name.length:Int)>60)) then some true else idx name 0>>=fun c=>zfC (c.toNat:Int)>>=fun rv=>some rv)>>=fun g=>if g then some false else (zeA name 0>>=fun q=>match q with | .inl u=>(some true) | .inr u2=>(some false))
theorem zpx (h:zdI name v2=some (.inl v2')):zeA name v2=zeA name v2':=zY h
theorem zjT (h:zdI name v2=some (.inr wW)):zeA name v2=some wW:=zZ h
def zgm (n:Int):Option Bool:=some ((decide (n>=1))&&((decide (n<=536870911))&&((decide (n<19000))|| (decide (n>19999)))))
def zgO (f:za):Option Bool:=(if f.Repeated then (zhU f.Kind>>=fun rv=>some rv) else some false)>>=fun g=>some g
def zeM (c:zaQ) (f:za):Option Bool:=if (f.Kind==17) then some ((decide (f.Of>=0))&&(decide (f.Of<c.size))) else some (f.Of==0)
def zeL (c:zaQ) (message:Int) (f:za):Option (Int×(List (zy×Bool))×(List (zi×Bool))):=zgt f.Name>>=fun rv=>if (!rv) then some (5,c.names,c.numbers) else if ((mget c.names (⟨message,f.Name⟩:zy)).getD false) then some (6,c.names,c.numbers) else zgm f.Number>>=fun wN=>if (!wN) then some (7,c.names,c.numbers) else if ((mget c.numbers (⟨message,f.Number⟩:zi)).getD false) then some (8,c.names,c.numbers) else zcb c.kinds f.Kind>>=fun wQ=>if (!wQ) then some (9,c.names,c.numbers) else (if f.Packed then (zgO f>>=fun ke=>some (!ke)) else some false)>>=fun g=>if g then some (10,c.names,c.numbers) else zeM c f>>=fun rv5=>if (!rv5) then some (11,c.names,c.numbers) else some (0,(mput c.names (⟨message,f.Name⟩:zy) true),(mput c.numbers (⟨message,f.Number⟩:zi) true))
def zdV (c:zaQ) (m:ze):Option (Int×(List (zy×Bool))×(List (zi×Bool))):=zgt m.Name>>=fun rv=>if (!rv) then some (2,c.names,c.numbers) else if ((mget c.names (⟨(-1),m.Name⟩:zy)).getD false) then some (3,c.names,c.numbers) else if (decide ((m.Fields.length:Int)>200)) then some (4,c.names,c.numbers) else some (0,(mput c.names (⟨(-1),m.Name⟩:zy) true),c.numbers)
def zcl (i:Int) (sv:List ze) (n3:Int) (k:Int):Option ((Int×Int)⊕Int):=idx sv i>>=fun x3=>if (decide (k<(x3.Fields.length:Int))) then (idx sv i>>=fun x4=>idx x4.Fields k>>=fun x5=>some (.inl ((i64.wrap (n3+(i64.wrap (Int.tdiv (x5.Name.length:Int) 100)))),(i64.wrap (k+1))))) else some (.inr n3)
def zdk (i:Int) (sv:List ze) (n3:Int) (k:Int):Option Int:=zaB (fun s=>zcl i sv s.1 s.2) (n3,k)
def zck (sv:List ze) (n:Int) (i:Int):Option ((Int×Int)⊕Int):=if (decide (i<(sv.length:Int))) then (idx sv i>>=fun x=>idx sv i>>=fun x2=>zdk i sv (i64.wrap ((i64.wrap ((i64.wrap (n+1))+(i64.wrap (Int.tdiv (x.Name.length:Int) 100))))+(x2.Fields.length:Int))) 0>>=fun q=>some (.inl (q,(i64.wrap (i+1))))) else some (.inr n)
def zdj (sv:List ze) (n:Int) (i:Int):Option Int:=zaB (fun s=>zck sv s.1 s.2) (n,i)
def zfz (sv:List ze):Option Bool:=zdj sv 0 0>>=fun q2=>some (decide (q2<=500))
theorem zmC (h:zcl i sv n3 k=some (.inl (n3',k'))):zdk i sv n3 k=zdk i sv n3' k':=zY h
theorem zmD (h:zcl i sv n3 k=some (.inr wW)):zdk i sv n3 k=some wW:=zZ h
theorem zmA (h:zck sv n i=some (.inl (n',i'))):zdj sv n i=zdj sv n' i':=zY h
theorem zmB (h:zck sv n i=some (.inr wW)):zdj sv n i=some wW:=zZ h
def zcz (rv:List Int) (sv:List ze) (v2:Int) (x:ze) (v3:Int) (f6:List (zy×Bool)) (f7:List (zi×Bool)):Option ((Int×(List (zy×Bool))×(List (zi×Bool)))⊕(((List (zy×Bool))×(List (zi×Bool)))⊕(Int×Int))):=if (decide (v3<(x.Fields.length:Int))) then (idx x.Fields v3>>=fun x2=>zeL (⟨(sv.length:Int),rv,f6,f7⟩:zaQ) v2 x2>>=fun rv5=>if (rv5.1 !=0) then some (.inr (.inr (v3,rv5.1))) else some (.inl ((i64.wrap (v3+1)),rv5.2.1,rv5.2.2))) else some (.inr (.inl (f6,f7)))
def zdu (rv:List Int) (sv:List ze) (v2:Int) (x:ze) (v3:Int) (f6:List (zy×Bool)) (f7:List (zi×Bool)):Option (((List (zy×Bool))×(List (zi×Bool)))⊕(Int×Int)):=zaB (fun s=>zcz rv sv v2 x s.1 s.2.1 s.2.2) (v3,f6,f7)
def zbv (rv:List Int) (sv:List ze) (v2:Int) (f:List (zy×Bool)) (f2:List (zi×Bool)):Option ((Int×(List (zy×Bool))×(List (zi×Bool)))⊕(Unit⊕(Int×Int×Int))):=if (decide (v2<(sv.length:Int))) then (idx sv v2>>=fun x=>zdV (⟨(sv.length:Int),rv,f,f2⟩:zaQ) x>>=fun wQ=>if (wQ.1 !=0) then some (.inr (.inr (v2,(-1),wQ.1))) else (zdu rv sv v2 x 0 wQ.2.1 wQ.2.2>>=fun q=>match q with | .inl u=>(some (.inl ((i64.wrap (v2+1)),u.1,u.2))) | .inr u2=>(some (.inr (.inr (v2,u2.1,u2.2)))))) else some (.inr (.inl ()))
def zeY (rv:List Int) (sv:List ze) (v2:Int) (f:List (zy×Bool)) (f2:List (zi×Bool)):Option (Unit⊕(Int×Int×Int)):=zaB (fun s=>zbv rv sv s.1 s.2.1 s.2.2) (v2,f,f2)
def ziH (sv:List ze):Option (zaP×Int):=if ((decide ((sv.length:Int)<1))|| (decide ((sv.length:Int)>100))) then some ((⟨(-1),(-1),1⟩:zaP),9) else (zoW>>=fun rv=>zeY rv sv 0 ([]:List (zy×Bool)) ([]:List (zi×Bool))>>=fun q2=>match q2 with | .inl u3=>(some ((⟨0,0,0⟩:zaP),0)) | .inr u4=>(some ((⟨u4.1,u4.2.1,u4.2.2⟩:zaP),9)))
theorem zqC {f6:List (zy×Bool)} {f7:List (zi×Bool)} (h:zcz rv sv v2 x v3 f6 f7=some (.inl (v3',f6',f7'))):zdu rv sv v2 x v3 f6 f7=zdu rv sv v2 x v3' f6' f7':=zY h
theorem zkq {f6:List (zy×Bool)} {f7:List (zi×Bool)} (h:zcz rv sv v2 x v3 f6 f7=some (.inr wW)):zdu rv sv v2 x v3 f6 f7=some wW:=zZ h
theorem zqB {f2:List (zi×Bool)} (h:zbv rv sv v2 f f2=some (.inl (v2',f',f2'))):zeY rv sv v2 f f2=zeY rv sv v2' f' f2':=zY h
theorem zep {f2:List (zi×Bool)} (h:zbv rv sv v2 f f2=some (.inr wW)):zeY rv sv v2 f f2=some wW:=zZ h
def zhc (sv:List ze):Option Bool:=ziH sv>>=fun rv=>some (rv.2==0)
def zfh (f:za) (v:Int):Option Bool:=some (f.Number==v)
def zM (sv:List za) (v:Int) (v2:Int):Option (Int⊕(Unit⊕Int)):=if (decide (v2<(sv.length:Int))) then (idx sv v2>>=fun x=>zfh x v>>=fun rv=>if rv then some (.inr (.inr v2)) else some (.inl (i64.wrap (v2+1)))) else some (.inr (.inl ()))
def zR (sv:List za) (v:Int) (v2:Int):Option (Unit⊕Int):=zaB (fun s=>zM sv v s) v2
def zat (sv:List za) (v:Int):Option Int:=zR sv v 0>>=fun q=>match q with | .inl u=>(some (-1)) | .inr u2=>(some u2)
theorem zcM (h:zM sv v v2=some (.inl v2')):zR sv v v2=zR sv v v2':=zY h
theorem zbm (h:zM sv v v2=some (.inr wW)):zR sv v v2=some wW:=zZ h
def zbW (m:ze) (v:Int):Option (Int×Bool):=zat m.Fields v>>=fun rv=>some ((if rv<0 then 0 else rv),(decide (rv>=0)))
def zdt (m:ze) (number:Int):Option (Int×Bool):=zbW m number>>=fun rv=>some (rv.1,rv.2)
def zga (k:Int):Option (Int×Int):=((if (k==1) then some (k==1) else (if (k==2) then some (k==2) else if (k==3) then some (k==3) else if (k==4) then some (k==4) else if (k==5) then some (k==5) else if (k==6) then some (k==6) else if (k==7) then some (k==7) else some (k==8)) :Option Bool))>>=fun p=>if p then some (0,0) else ((if (k==9) then some (k==9) else (if (k==10) then some (k==10) else some (k==11)) :Option Bool))>>=fun p2=>if p2 then some (4,0) else if (k==12) then if (k==12) then some (8,0) else (some (0,2)) else if (k==13) then if (k==13) then some (8,0) else (some (0,2)) else if (k==14) then some (8,0) else some (0,2)
def ziG (b:List UInt8):Option (Int×Int):=zfP b>>=fun rv=>if ((rv.2.2 !=0)|| (rv.2.1 !=(b.length:Int))) then some (0,12) else some (rv.1,0)
def ziF (k:Int) (b:List UInt8):Option (Int×Int):=zga k>>=fun rv=>if (rv.2 !=0) then some (0,rv.2) else if (rv.1==0) then (ziG b>>=fun wN=>some (wN.1,wN.2)) else if (rv.1 !=(b.length:Int)) then some (0,12) else zmy b>>=fun wQ=>some (wQ,0)
def zjS (k:Int) (b:List UInt8):Option (Int×Int):=ziF k b>>=fun rv=>if (rv.2 !=0) then some (0,rv.2) else zgH k rv.1>>=fun wN=>some (wN.1,wN.2)
def zhJ (k:Int) (wv:Int):Option ((List UInt8)×Int):=zga k>>=fun rv=>if (rv.2 !=0) then some ([],rv.2) else zgH k wv>>=fun wN=>if (rv.1==0) then (zhN ([]:List UInt8) wN.1>>=fun wQ=>some (wQ,wN.2)) else zjE wN.1 rv.1>>=fun ke=>some (ke,wN.2)
def zfN (k:Int) (wv:Int):Option Int:=zga k>>=fun rv=>if ((rv.2 !=0)|| (rv.1 !=0)) then some rv.1 else zgH k wv>>=fun wN=>zmx wN.1>>=fun wQ=>some wQ
def zkS (k:Int):Option Int:=zfN k 0>>=fun rv=>some rv
def zmZ (wide:Int) (b:List UInt8):Option (Int×Int):=if (wide==1) then (zie b>>=fun rv=>some (rv.1,rv.2)) else if (decide (wide>(b.length:Int))) then some (0,3) else some (wide,0)
def zcc {σ:Type} (kf:(Rnd σ ((List UInt8)×Int))) (rv:Int) (wO:List UInt8) (sg2:σ):Option (((List UInt8)×σ)⊕(σ⊕σ)):=if (decide ((wO.length:Int)>0)) then (zmZ rv wO>>=fun wN=>cut wO 0 wN.1>>=fun v3=>kf sg2 (v3,wN.2)>>=fun y2=>if ((!y2.1)|| (wN.2 !=0)) then some (.inr (.inr y2.2)) else cut wO wN.1 (wO.length:Int)>>=fun v5=>some (.inl (v5,y2.2))) else some (.inr (.inl sg2))
def zeX {σ:Type} (kf:(Rnd σ ((List UInt8)×Int))) (rv:Int) (wO:List UInt8) (sg2:σ):Option (σ⊕σ):=zaB (fun s=>zcc kf rv s.1 s.2) (wO,sg2)
def zet {σ:Type} (v:Int) (v2:List UInt8) (kf:Rnd σ ((List UInt8)×Int)) (sg:σ):Option σ:=zkS v>>=fun rv=>if (rv==0) then (kf sg (([]:List UInt8),2)>>=fun y=>some y.2) else (zeX kf rv v2 sg>>=fun q=>match q with | .inl u=>(some u) | .inr u2=>(some u2))
theorem zqA {σ:Type} {kf:(Rnd σ ((List UInt8)×Int))} {rv:Int} {wO:List UInt8} {sg2:σ} {rest':List UInt8} {sg2':σ} (h:zcc kf rv wO sg2=some (.inl (rest',sg2'))):zeX kf rv wO sg2=zeX kf rv rest' sg2':=zY h
theorem zhp {σ:Type} {kf:(Rnd σ ((List UInt8)×Int))} {rv:Int} {wO:List UInt8} {sg2:σ} {wW:(σ⊕σ)} (h:zcc kf rv wO sg2=some (.inr wW)):zeX kf rv wO sg2=some wW:=zZ h
def zjp (k:Int) (b:List UInt8):Option (Int×(List UInt8)):=some (k,b)
def zdM (k:Int) (f:List Int) (x:List UInt8) (x2:Int):Option ((List Int)⊕(Int×(List Int))):=if (x2 !=0) then some (.inr (x2,f)) else zjS k x>>=fun wN=>app 8 f ([wN.1]:List Int)>>=fun v=>some (.inl v)
def zkR (k:Int) (b:List UInt8):Option ((List Int)×Int):=zjp k b>>=fun rv=>zet rv.1 rv.2 (rnd (fun (s:List Int) (x:((List UInt8)×Int))=>zdM k s x.1 x.2)) (.inl [])>>=fun q=>match q with | .inl u=>(some (u,0)) | .inr j=>(some ([],j.1))
def zfM (k:Int) (l:List Int) (b:List UInt8) (v:Int):Option (((List UInt8)×Int)⊕(List UInt8)):=if (decide (v<(l.length:Int))) then (idx l v>>=fun x=>zhJ k x>>=fun wN=>app 1 b wN.1>>=fun v2=>some (.inl (v2,(i64.wrap (v+1))))) else some (.inr b)
def zjQ (k:Int) (l:List Int) (b:List UInt8) (v:Int):Option (List UInt8):=zaB (fun s=>zfM k l s.1 s.2) (b,v)
def zmY (k:Int) (l:List Int):Option ((List UInt8)×Int):=zkS k>>=fun rv=>if (rv==0) then some ([],2) else zjQ k l [] 0>>=fun q=>some (q,0)
theorem zuR {k:Int} {l:List Int} {b:List UInt8} {v:Int} {b':List UInt8} {v':Int} (h:zfM k l b v=some (.inl (b',v'))):zjQ k l b v=zjQ k l b' v':=zY h
theorem zuS {k:Int} {l:List Int} {b:List UInt8} {v:Int} {wW:List UInt8} (h:zfM k l b v=some (.inr wW)):zjQ k l b v=some wW:=zZ h
def zfg (f:Int) (x:List UInt8) (x2:Int):Option (Int⊕(Int×Int)):=if (x2 !=0) then some (.inr (x2,f)) else some (.inl (i64.wrap (f+1)))
def zmX (k:Int) (b:List UInt8):Option (Int×Int):=zjp k b>>=fun rv=>zet rv.1 rv.2 (rnd (fun (s:Int) (x:((List UInt8)×Int))=>zfg s x.1 x.2)) (.inl 0)>>=fun q=>match q with | .inl u=>(some (u,0)) | .inr j=>(some (0,j.1))
def ziL (f:za) (v:Int):Option Bool:=some (f.Number==v)
def zP (sv:List za) (v:Int) (v2:Int):Option (Int⊕(Unit⊕Int)):=if (decide (v2<(sv.length:Int))) then (idx sv v2>>=fun x=>ziL x v>>=fun rv=>if rv then some (.inr (.inr v2)) else some (.inl (i64.wrap (v2+1)))) else some (.inr (.inl ()))
def zaa (sv:List za) (v:Int) (v2:Int):Option (Unit⊕Int):=zaB (fun s=>zP sv v s) v2
def zaA (sv:List za) (v:Int):Option Int:=zaa sv v 0>>=fun q=>match q with | .inl u=>(some (-1)) | .inr u2=>(some u2)
theorem zdz (h:zP sv v v2=some (.inl v2')):zaa sv v v2=zaa sv v v2':=zY h
theorem zbr (h:zP sv v v2=some (.inr wW)):zaa sv v v2=some wW:=zZ h
def zlH (m:ze) (number:Int):Option Int:=zaA m.Fields number>>=fun rv=>some rv
def zlI (f:za) (wire:Int):Option Bool:=(if f.Repeated then (if (wire==2) then (zhU f.Kind>>=fun rv=>some rv) else some false) else some false)>>=fun g=>some g
def znn (k:Int) (wire:Int):Option Bool:=zkM k>>=fun rv=>some ((rv.2==0)&&(rv.1==wire))
def zif (m:ze) (hv:zV):Option zab:=zlH m hv.number>>=fun rv=>if (rv==(-1)) then some (⟨(-1),false,0⟩:zab) else idx m.Fields rv>>=fun x=>zlI x hv.wire>>=fun wN=>(if (!wN) then (znn x.Kind hv.wire>>=fun wQ=>some (!wQ)) else some false)>>=fun g=>if g then some (⟨0,false,6⟩:zab) else some (⟨rv,wN,0⟩:zab)
def zkX (m:ze) (b:List UInt8) (kg:Int) (met:List (zV×zab)):Option (zg×Int×(List (zV×zab))):=zfe b kg>>=fun rv=>if (rv.2 !=0) then some ((⟨(⟨0,0,0,0,0⟩:zt),0,false⟩:zg),rv.2,met) else (((if (!(mget met (⟨rv.1.Number,rv.1.Wire⟩:zV)).isSome) then (zif m (⟨rv.1.Number,rv.1.Wire⟩:zV)>>=fun wN=>some ((mput met (⟨rv.1.Number,rv.1.Wire⟩:zV) wN),wN.field,wN.run,wN.e)) else (some (met,((mget met (⟨rv.1.Number,rv.1.Wire⟩:zV)).getD (⟨0,false,0⟩:zab)).field,((mget met (⟨rv.1.Number,rv.1.Wire⟩:zV)).getD (⟨0,false,0⟩:zab)).run,((mget met (⟨rv.1.Number,rv.1.Wire⟩:zV)).getD (⟨0,false,0⟩:zab)).e)) :Option ((List (zV×zab))×Int×Bool×Int)))>>=fun p=>if (p.2.2.2 !=0) then some ((⟨(⟨0,0,0,0,0⟩:zt),0,false⟩:zg),p.2.2.2,p.1) else some ((⟨rv.1,p.2.1,p.2.2.1⟩:zg),0,p.1))
def zex (b:List UInt8) (m:ze) (l:List zg) (met:List (zV×zab)) (kg:Int):Option (((List zg)×(List (zV×zab))×Int)⊕((List zg)⊕(Int×Int))):=if (decide (kg<(b.length:Int))) then (zkX m b kg met>>=fun wN=>if (wN.2.1 !=0) then some (.inr (.inr (kg,wN.2.1))) else app 56 l ([wN.1]:List zg)>>=fun v=>some (.inl (v,wN.2.2,wN.1.Record.To))) else some (.inr (.inl l))
def zgW (b:List UInt8) (m:ze) (l:List zg) (met:List (zV×zab)) (kg:Int):Option ((List zg)⊕(Int×Int)):=zaB (fun s=>zex b m s.1 s.2.1 s.2.2) (l,met,kg)
def zpM (m:ze) (b:List UInt8):Option ((List zg)×Int×Int):=zgW b m [] ([]:List (zV×zab)) 0>>=fun q=>match q with | .inl u=>(some (u,0,0)) | .inr u2=>(some ([],u2.1,u2.2))
theorem zoo (h:zex b m l met kg=some (.inl (l',wU,fromv'))):zgW b m l met kg=zgW b m l' wU fromv':=zY h
theorem zkj (h:zex b m l met kg=some (.inr wW)):zgW b m l met kg=some wW:=zZ h
def zkW (m:ze) (b:List UInt8) (kg:Int):Option (zg×Int):=zkX m b kg ([]:List (zV×zab))>>=fun wN=>some (wN.1,wN.2.1)
def zgn (wv:zav) (message:Int) (kg:Int) (tov:Int):Option (zg×Int×(List (zo×zg))):=cut wv.b 0 tov>>=fun v=>zfe v kg>>=fun rv=>if (rv.2 !=0) then some ((⟨(⟨0,0,0,0,0⟩:zt),0,false⟩:zg),rv.2,wv.met) else (if (!(mget wv.met (⟨message,rv.1.Number,rv.1.Wire⟩:zo)).isSome) then (idx wv.s message>>=fun x=>zkW x v kg>>=fun wN=>if (wN.2 !=0) then some ((⟨(⟨0,0,0,0,0⟩:zt),0,false⟩:zg),wN.2,wv.met) else some ((⟨rv.1,wN.1.Field,wN.1.Run⟩:zg),0,(mput wv.met (⟨message,rv.1.Number,rv.1.Wire⟩:zo) wN.1))) else (some ((⟨rv.1,(((mget wv.met (⟨message,rv.1.Number,rv.1.Wire⟩:zo)).getD (⟨(⟨0,0,0,0,0⟩:zt),0,false⟩:zg)).Field),(((mget wv.met (⟨message,rv.1.Number,rv.1.Wire⟩:zo)).getD (⟨(⟨0,0,0,0,0⟩:zt),0,false⟩:zg)).Run)⟩:zg),0,wv.met)))
def zka (f:za) (isRun:Bool) (value:List UInt8):Option Int:=if isRun then (zmX f.Kind value>>=fun rv=>some rv.2) else (if (f.Kind==15) then (zkV value>>=fun wN=>some (!wN)) else some false)>>=fun g=>if g then some 7 else if (f.Kind==17) then some 8 else some 0
def zaX (d:Int) (message:Int) (xl:zav->Int->zg->Int->Option (zA×(List (zo×zg)))) (tov:Int) (wv:zav) (wY:List (zo×zg)) (kw:Int) (depth:Int):Option (((List (zo×zg))×Int×Int)⊕(((List (zo×zg))×Int)⊕((List (zo×zg))×Int×Int×Int))):=if (decide (kw<tov)) then (zgn (⟨wv.s,wv.b,wY⟩:zav) message kw tov>>=fun wN=>if (wN.2.1 !=0) then some (.inr (.inr (wN.2.2,0,kw,wN.2.1))) else xl (⟨wv.s,wv.b,wN.2.2⟩:zav) message wN.1 d>>=fun ke=>if (ke.1.e !=0) then some (.inr (.inr (ke.2,ke.1.depth,ke.1.place,ke.1.e))) else some (.inl (ke.2,wN.1.Record.To,(if depth<ke.1.depth then ke.1.depth else depth)))) else some (.inr (.inl (wY,depth)))
def zbR (d:Int) (message:Int) (xl:zav->Int->zg->Int->Option (zA×(List (zo×zg)))) (tov:Int) (wv:zav) (wY:List (zo×zg)) (kw:Int) (depth:Int):Option (((List (zo×zg))×Int)⊕((List (zo×zg))×Int×Int×Int)):=zaB (fun s=>zaX d message xl tov wv s.1 s.2.1 s.2.2) (wY,kw,depth)
def zea (xw:zav->Int->Int->Int->Int->Option (zA×(List (zo×zg)))) (xl:zav->Int->zg->Int->Option (zA×(List (zo×zg)))) (wv:zav) (message:Int) (kg:Int) (tov:Int) (d:Int):Option (zA×(List (zo×zg))):=zbR d message xl tov wv wv.met kg 0>>=fun q=>match q with | .inl u=>(some ((⟨u.2,0,0⟩:zA),u.1)) | .inr u2=>(some ((⟨u2.2.1,u2.2.2.1,u2.2.2.2⟩:zA),u2.1))
def zeQ (xw:zav->Int->Int->Int->Int->Option (zA×(List (zo×zg)))) (xl:zav->Int->zg->Int->Option (zA×(List (zo×zg)))) (wv:zav) (message:Int) (v:zg) (d:Int):Option (zA×(List (zo×zg))):=if (v.Field==(-1)) then some ((⟨0,0,0⟩:zA),wv.met) else idx wv.s message>>=fun x=>idx x.Fields v.Field>>=fun x2=>if ((x2.Kind==17)&&(decide (d>0))) then (xw wv x2.Of v.Record.At v.Record.To (i64.wrap (d - 1))>>=fun wN=>some ((⟨(i64.wrap (wN.1.depth+1)),wN.1.place,wN.1.e⟩:zA),wN.2)) else cut wv.b v.Record.At v.Record.To>>=fun v3=>zka x2 v.Run v3>>=fun wQ=>if (wQ !=0) then some ((⟨0,v.Record.From,wQ⟩:zA),wv.met) else some ((⟨0,0,0⟩:zA),wv.met)
def zax:Nat->(zav->Int->Int->Int->Int->Option (zA×(List (zo×zg))))×(zav->Int->zg->Int->Option (zA×(List (zo×zg)))) | 0=>(fun _ _ _ _ _=>none,fun _ _ _ _=>none) | fuel+1=>(fun wv message kg tov d=>zea (zax fuel).1 (zax fuel).2 wv message kg tov d,fun wv message v d=>zeQ (zax fuel).1 (zax fuel).2 wv message v d)
def zbg (fuel:Nat):zav->Int->Int->Int->Int->Option (zA×(List (zo×zg))):=(zax fuel).1
def zdK (fuel:Nat):zav->Int->zg->Int->Option (zA×(List (zo×zg))):=(zax fuel).2
theorem zlO (h:zaX d message xl tov wv wY kw depth=some (.inl (wv2',fromv2',depth'))):zbR d message xl tov wv wY kw depth=zbR d message xl tov wv wv2' fromv2' depth':=zY h
theorem zdB (h:zaX d message xl tov wv wY kw depth=some (.inr wW)):zbR d message xl tov wv wY kw depth=some wW:=zZ h
def zju (sv:List ze) (root:Int) (d:Int):Option Int:=zhc sv>>=fun rv=>if (!rv) then some 9 else (if ((decide (root<0))|| ((decide (root>=(sv.length:Int)))|| ((decide (d<0))|| (decide (d>64))))) then some 2 else some 0)
def zlG (fuel:Nat) (sv:List ze) (root:Int) (b:List UInt8) (d:Int):Option zA:=zju sv root d>>=fun rv=>if (rv !=0) then some (⟨0,0,rv⟩:zA) else (zbg fuel (⟨sv,b,([]:List (zo×zg))⟩:zav) root 0 (b.length:Int) d>>=fun wQ=>some wQ.1)
def zgV (fuel:Nat) (sv:List ze) (root:Int) (b:List UInt8) (d:Int):Option (Int×Int):=zlG fuel sv root b d>>=fun rv=>some (rv.place,rv.e)
def zpI (fuel:Nat) (sv:List ze) (root:Int) (b:List UInt8) (d:Int):Option Bool:=zgV fuel sv root b d>>=fun rv=>some (rv.2==0)
def zej (v:zb):Option Int:=some (i64.wrap ((i64.wrap ((v.Words.length:Int)+(v.Texts.length:Int)))+(v.Subs.length:Int)))
def zfs (b:List UInt8) (l:List zg) (all:List Str) (v2:Int):Option (((List Str)×Int)⊕(List Str)):=if (decide (v2<(l.length:Int))) then (idx l v2>>=fun x=>cut b x.Record.At x.Record.To>>=fun v3=>idx all v2>>=fun x2=>some (.inl ((all.set (Int.toNat v2) v3),(i64.wrap (v2+1))))) else some (.inr all)
def zhA (b:List UInt8) (l:List zg) (all:List Str) (v2:Int):Option (List Str):=zaB (fun s=>zfs b l s.1 s.2) (all,v2)
def zlD (b:List UInt8) (l:List zg):Option (List Str):=mkO 16 ([]:Str) (l.length:Int) (l.length:Int)>>=fun v=>zhA b l v 0>>=fun q=>some q
theorem zsS (h:zfs b l all v2=some (.inl (all',v2'))):zhA b l all v2=zhA b l all' v2':=zY h
theorem zsT (h:zfs b l all v2=some (.inr wW)):zhA b l all v2=some wW:=zZ h
def zft (b:List UInt8) (k:Int) (l:List zg) (all:List Int) (v:Int):Option (((List Int)×Int)⊕(List Int)):=if (decide (v<(l.length:Int))) then (idx l v>>=fun x=>cut b x.Record.At x.Record.To>>=fun v2=>zkR k v2>>=fun rv=>app 8 all rv.1>>=fun v3=>some (.inl (v3,(i64.wrap (v+1))))) else some (.inr all)
def zgw (b:List UInt8) (k:Int) (l:List zg) (all:List Int) (v:Int):Option (List Int):=zaB (fun s=>zft b k l s.1 s.2) (all,v)
def zlE (k:Int) (b:List UInt8) (l:List zg):Option (List Int):=zgw b k l [] 0>>=fun q=>some q
theorem zsU (h:zft b k l all v=some (.inl (all',v'))):zgw b k l all v=zgw b k l all' v':=zY h
theorem zsV (h:zft b k l all v=some (.inr wW)):zgw b k l all v=some wW:=zZ h
def zdv (b:List UInt8) (rv:((List zg)×Int×Int)) (kc:List (Int×(List zg))) (v:Int) (f:List Str):Option (((List (Int×(List zg)))×Int×(List Str))⊕((List (Int×(List zg)))×(List Str))):=if (decide (v<(rv.1.length:Int))) then (idx rv.1 v>>=fun x2=>if (x2.Field==(-1)) then (cut b x2.Record.From x2.Record.To>>=fun v2=>app 16 f ([v2]:List Str)>>=fun v3=>some (.inl (kc,(i64.wrap (v+1)),v3))) else app 56 ((mget kc x2.Record.Number).getD []) ([x2]:List zg)>>=fun v4=>some (.inl ((mput kc x2.Record.Number v4),(i64.wrap (v+1)),f))) else some (.inr (kc,f))
def zeZ (b:List UInt8) (rv:((List zg)×Int×Int)) (kc:List (Int×(List zg))) (v:Int) (f:List Str):Option ((List (Int×(List zg)))×(List Str)):=zaB (fun s=>zdv b rv s.1 s.2.1 s.2.2) (kc,v,f)
def zdw (b:List UInt8) (q:((List (Int×(List zg)))×(List Str))) (xj:(List ze)->za->(List UInt8)->(List zg)->Option zb) (sv:List ze) (v5:List Int) (x:ze) (v6:Int) (f3:List zb):Option ((Int×(List zb))⊕(List zb)):=if (decide (v6<(v5.length:Int))) then (idx v5 v6>>=fun x3=>idx ((mget q.1 x3).getD []) 0>>=fun x4=>idx x.Fields x4.Field>>=fun x5=>xj sv x5 b ((mget q.1 x3).getD [])>>=fun wN=>zej wN>>=fun wQ=>if (decide (wQ>0)) then (app 80 f3 ([wN]:List zb)>>=fun v7=>some (.inl ((i64.wrap (v6+1)),v7))) else some (.inl ((i64.wrap (v6+1)),f3))) else some (.inr f3)
def zfa (b:List UInt8) (q:((List (Int×(List zg)))×(List Str))) (xj:(List ze)->za->(List UInt8)->(List zg)->Option zb) (sv:List ze) (v5:List Int) (x:ze) (v6:Int) (f3:List zb):Option (List zb):=zaB (fun s=>zdw b q xj sv v5 x s.1 s.2) (v6,f3)
def zgS (xi:(List ze)->Int->(List UInt8)->Option zd) (xu:(List ze)->za->(List UInt8)->(List zg)->Option (List zd)) (xj:(List ze)->za->(List UInt8)->(List zg)->Option zb) (sv:List ze) (message:Int) (b:List UInt8):Option zd:=idx sv message>>=fun x=>zpM x b>>=fun rv=>zeZ b rv ([]:List (Int×(List zg))) 0 []>>=fun q=>zlm q.1>>=fun v5=>zfa b q xj sv v5 x 0 []>>=fun q2=>some (⟨q2,q.2⟩:zd)
def zgc (b:List UInt8) (l:List zg) (pieces:List (List UInt8)) (v2:Int):Option (((List (List UInt8))×Int)⊕(List (List UInt8))):=if (decide (v2<(l.length:Int))) then (idx l v2>>=fun x=>cut b x.Record.At x.Record.To>>=fun v3=>idx pieces v2>>=fun x2=>some (.inl ((pieces.set (Int.toNat v2) v3),(i64.wrap (v2+1))))) else some (.inr pieces)
def zhf (b:List UInt8) (l:List zg) (pieces:List (List UInt8)) (v2:Int):Option (List (List UInt8)):=zaB (fun s=>zgc b l s.1 s.2) (pieces,v2)
def zgd (f:za) (p:List (List UInt8)) (xi:(List ze)->Int->(List UInt8)->Option zd) (sv:List ze) (all:List zd) (v6:Int):Option (((List zd)×Int)⊕(List zd)):=if (decide (v6<(p.length:Int))) then (idx p v6>>=fun x3=>xi sv f.Of x3>>=fun wN=>idx all v6>>=fun x4=>some (.inl ((all.set (Int.toNat v6) wN),(i64.wrap (v6+1))))) else some (.inr all)
def zhg (f:za) (p:List (List UInt8)) (xi:(List ze)->Int->(List UInt8)->Option zd) (sv:List ze) (all:List zd) (v6:Int):Option (List zd):=zaB (fun s=>zgd f p xi sv s.1 s.2) (all,v6)
def zid (xi:(List ze)->Int->(List UInt8)->Option zd) (xu:(List ze)->za->(List UInt8)->(List zg)->Option (List zd)) (xj:(List ze)->za->(List UInt8)->(List zg)->Option zb) (sv:List ze) (f:za) (b:List UInt8) (l:List zg):Option (List zd):=mkO 24 ([]:List UInt8) (l.length:Int) (l.length:Int)>>=fun v=>zhf b l v 0>>=fun q=>((if ((!f.Repeated)&&(decide ((q.length:Int)>1))) then (zaw q>>=fun rv=>some ([rv]:List (List UInt8))) else (some q) :Option (List (List UInt8))))>>=fun p=>mkO 48 ((⟨[],[]⟩:zd):zd) (p.length:Int) (p.length:Int)>>=fun v5=>zhg f p xi sv v5 0>>=fun q2=>some q2
def zhh (xi:(List ze)->Int->(List UInt8)->Option zd) (xu:(List ze)->za->(List UInt8)->(List zg)->Option (List zd)) (xj:(List ze)->za->(List UInt8)->(List zg)->Option zb) (sv:List ze) (f:za) (b:List UInt8) (l:List zg):Option zb:=((if ((!f.Repeated)&&(f.Kind !=17)) then (cut l (i64.wrap ((l.length:Int) - 1)) (l.length:Int)>>=fun v2=>some v2) else (some l) :Option (List zg)))>>=fun p=>if (f.Kind==17) then (xu sv f b p>>=fun rv=>some (⟨f.Number,[],[],rv⟩:zb)) else ((if (f.Kind==15) then some (f.Kind==15) else (some (f.Kind==16)) :Option Bool))>>=fun p2=>if p2 then (zlD b p>>=fun wN=>some (⟨f.Number,[],wN,[]⟩:zb)) else zlE f.Kind b p>>=fun wQ=>some (⟨f.Number,wQ,[],[]⟩:zb)
def zak:Nat->((List ze)->Int->(List UInt8)->Option zd)×((List ze)->za->(List UInt8)->(List zg)->Option (List zd))×((List ze)->za->(List UInt8)->(List zg)->Option zb) | 0=>(fun _ _ _=>none,fun _ _ _ _=>none,fun _ _ _ _=>none) | fuel+1=>(fun sv message b=>zgS (zak fuel).1 (zak fuel).2.1 (zak fuel).2.2 sv message b,fun sv f b l=>zid (zak fuel).1 (zak fuel).2.1 (zak fuel).2.2 sv f b l,fun sv f b l=>zhh (zak fuel).1 (zak fuel).2.1 (zak fuel).2.2 sv f b l)
def zeu (fuel:Nat):(List ze)->Int->(List UInt8)->Option zd:=(zak fuel).1
def zqr (fuel:Nat):(List ze)->za->(List UInt8)->(List zg)->Option (List zd):=(zak fuel).2.1
def zjt (fuel:Nat):(List ze)->za->(List UInt8)->(List zg)->Option zb:=(zak fuel).2.2
theorem zks (h:zdv b rv kc v f=some (.inl (known',v',f'))):zeZ b rv kc v f=zeZ b rv known' v' f':=zY h
theorem zqD (h:zdv b rv kc v f=some (.inr wW)):zeZ b rv kc v f=some wW:=zZ h
theorem zkt {f3:List zb} (h:zdw b q xj sv v5 x v6 f3=some (.inl (v6',f3'))):zfa b q xj sv v5 x v6 f3=zfa b q xj sv v5 x v6' f3':=zY h
theorem zqE {f3:List zb} (h:zdw b q xj sv v5 x v6 f3=some (.inr wW)):zfa b q xj sv v5 x v6 f3=some wW:=zZ h
theorem zub (h:zgc b l pieces v2=some (.inl (pieces',v2'))):zhf b l pieces v2=zhf b l pieces' v2':=zY h
theorem zuc (h:zgc b l pieces v2=some (.inr wW)):zhf b l pieces v2=some wW:=zZ h
theorem zud (h:zgd f p xi sv all v6=some (.inl (all',v6'))):zhg f p xi sv all v6=zhg f p xi sv all' v6':=zY h
theorem zue (h:zgd f p xi sv all v6=some (.inr wW)):zhg f p xi sv all v6=some wW:=zZ h
def zmc (fuel:Nat) (sv:List ze) (root:Int) (b:List UInt8) (d:Int):Option (zd×Int):=zgV fuel sv root b d>>=fun rv=>if (rv.2 !=0) then some ((⟨[],[]⟩:zd),rv.2) else zeu fuel sv root b>>=fun wN=>some (wN,0)
def zfr (ki:Int) (xa:zd->Int->Option Int) (x2:zb) (deep3:Int) (v3:Int):Option ((Int×Int)⊕(Int⊕Int)):=if (decide (v3<(x2.Subs.length:Int))) then (idx x2.Subs v3>>=fun x3=>if (decide (ki<=0)) then some (.inr (.inr 1)) else xa x3 (i64.wrap (ki - 1))>>=fun rv=>if (decide ((if deep3<(i64.wrap (1+rv)) then i64.wrap (1+rv) else deep3)>ki)) then some (.inr (.inr (if deep3<(i64.wrap (1+rv)) then i64.wrap (1+rv) else deep3))) else some (.inl ((if deep3<(i64.wrap (1+rv)) then i64.wrap (1+rv) else deep3),(i64.wrap (v3+1))))) else some (.inr (.inl deep3))
def zgv (ki:Int) (xa:zd->Int->Option Int) (x2:zb) (deep3:Int) (v3:Int):Option (Int⊕Int):=zaB (fun s=>zfr ki xa x2 s.1 s.2) (deep3,v3)
def zfq (ki:Int) (xa:zd->Int->Option Int) (x:zd) (deep:Int) (v:Int):Option ((Int×Int)⊕(Int⊕Int)):=if (decide (v<(x.Values.length:Int))) then (idx x.Values v>>=fun x2=>zgv ki xa x2 deep 0>>=fun q=>match q with | .inl u=>(some (.inl (u,(i64.wrap (v+1))))) | .inr u2=>(some (.inr (.inr u2)))) else some (.inr (.inl deep))
def zgu (ki:Int) (xa:zd->Int->Option Int) (x:zd) (deep:Int) (v:Int):Option (Int⊕Int):=zaB (fun s=>zfq ki xa x s.1 s.2) (deep,v)
def ziJ (xa:zd->Int->Option Int) (x:zd) (ki:Int):Option Int:=zgu ki xa x 0 0>>=fun q2=>match q2 with | .inl u3=>(some u3) | .inr u4=>(some u4)
def zfp:Nat->zd->Int->Option Int | 0,_,_=>none | fuel+1,x,ki=>ziJ (zfp fuel) x ki
theorem zsN (h:zfr ki xa x2 deep3 v3=some (.inl (deep3',v3'))):zgv ki xa x2 deep3 v3=zgv ki xa x2 deep3' v3':=zY h
theorem zsO (h:zfr ki xa x2 deep3 v3=some (.inr wW)):zgv ki xa x2 deep3 v3=some wW:=zZ h
theorem zsL (h:zfq ki xa x deep v=some (.inl (deep',v'))):zgu ki xa x deep v=zgu ki xa x deep' v':=zY h
theorem zsM (h:zfq ki xa x deep v=some (.inr wW)):zgu ki xa x deep v=some wW:=zZ h
def zlC (fuel:Nat) (x:zd):Option Int:=zfp fuel x 131072>>=fun rv=>some rv
def zjs (fuel:Nat) (x:zd):Option Bool:=zlC fuel x>>=fun rv=>some (decide (rv<=131072))
def zdJ (l:List Str) (v:Int):Option (Int⊕(Unit⊕Unit)):=if (decide (v<(l.length:Int))) then (idx l v>>=fun x=>lenO x>>=fun v2=>zkV v2>>=fun rv=>if (!rv) then some (.inr (.inr ())) else some (.inl (i64.wrap (v+1)))) else some (.inr (.inl ()))
def zeC (l:List Str) (v:Int):Option (Unit⊕Unit):=zaB (fun s=>zdJ l s) v
def zhz (l:List Str):Option Bool:=zeC l 0>>=fun q=>match q with | .inl u=>(some true) | .inr u2=>(some false)
theorem zpF (h:zdJ l v=some (.inl v')):zeC l v=zeC l v':=zY h
theorem zjW (h:zdJ l v=some (.inr wW)):zeC l v=some wW:=zZ h
def zgR (m:ze) (text:Str):Option Bool:=lenO text>>=fun v=>zfe v 0>>=fun rv=>if ((rv.2 !=0)|| (rv.1.To !=(text.length:Int))) then some false else zdt m rv.1.Number>>=fun wN=>some (!wN.2)
def zbE (k:Int) (l:List Int) (v:Int):Option (Int⊕(Unit⊕Unit)):=if (decide (v<(l.length:Int))) then (idx l v>>=fun x=>zgH k x>>=fun rv=>if ((rv.2 !=0)|| (rv.1 !=x)) then some (.inr (.inr ())) else some (.inl (i64.wrap (v+1)))) else some (.inr (.inl ()))
def zcP (k:Int) (l:List Int) (v:Int):Option (Unit⊕Unit):=zaB (fun s=>zbE k l s) v
def zfk (k:Int) (l:List Int):Option Bool:=zcP k l 0>>=fun q=>match q with | .inl u=>(some true) | .inr u2=>(some false)
theorem zmt (h:zbE k l v=some (.inl v')):zcP k l v=zcP k l v':=zY h
theorem zfo (h:zbE k l v=some (.inr wW)):zcP k l v=some wW:=zZ h
def zcm (l:List zd) (message:Int) (xk:(List ze)->Int->zd->Option Bool) (sv:List ze) (v2:Int):Option (Int⊕(Unit⊕Unit)):=if (decide (v2<(l.length:Int))) then (idx l v2>>=fun x=>xk sv message x>>=fun rv=>if (!rv) then some (.inr (.inr ())) else some (.inl (i64.wrap (v2+1)))) else some (.inr (.inl ()))
def zdn (l:List zd) (message:Int) (xk:(List ze)->Int->zd->Option Bool) (sv:List ze) (v2:Int):Option (Unit⊕Unit):=zaB (fun s=>zcm l message xk sv s) v2
def zeP (xq:(List ze)->Int->(List zd)->Option Bool) (xe:za->(List ze)->zb->Option Bool) (xk:(List ze)->Int->zd->Option Bool) (sv:List ze) (message:Int) (l:List zd):Option Bool:=if ((decide (message<0))|| (decide (message>=(sv.length:Int)))) then some false else (zdn l message xk sv 0>>=fun q=>match q with | .inl u=>(some true) | .inr u2=>(some false))
def zjX (xq:(List ze)->Int->(List zd)->Option Bool) (xe:za->(List ze)->zb->Option Bool) (xk:(List ze)->Int->zd->Option Bool) (f:za) (sv:List ze) (v:zb):Option Bool:=zej v>>=fun rv=>if ((rv==0)|| ((decide (rv>1))&&(!f.Repeated))) then some false else if (f.Kind==15) then ((if ((v.Texts.length:Int)==rv) then (zhz v.Texts>>=fun wN=>some wN) else some false)>>=fun g=>some g) else if (f.Kind==16) then some ((v.Texts.length:Int)==rv) else if (f.Kind==17) then ((if ((v.Subs.length:Int)==rv) then (xq sv f.Of v.Subs>>=fun wQ=>some wQ) else some false)>>=fun g2=>some g2) else (if ((v.Words.length:Int)==rv) then (zfk f.Kind v.Words>>=fun ke=>some ke) else some false)>>=fun g3=>some g3
def zcp (xe:za->(List ze)->zb->Option Bool) (sv:List ze) (x:zd) (x2:ze) (last:Int) (v:Int):Option ((Int×Int)⊕(Unit⊕Unit)):=if (decide (v<(x.Values.length:Int))) then (idx x.Values v>>=fun x3=>zdt x2 x3.Number>>=fun rv=>(if (!rv.2) then some true else if (decide (x3.Number<=last)) then some true else idx x2.Fields rv.1>>=fun x4=>xe x4 sv x3>>=fun wN=>some (!wN))>>=fun g=>if g then some (.inr (.inr ())) else some (.inl (x3.Number,(i64.wrap (v+1))))) else some (.inr (.inl ()))
def zek (xe:za->(List ze)->zb->Option Bool) (sv:List ze) (x:zd) (x2:ze) (last:Int) (v:Int):Option (Unit⊕Unit):=zaB (fun s=>zcp xe sv x x2 s.1 s.2) (last,v)
def zdh (x:zd) (x2:ze) (v3:Int):Option (Int⊕(Unit⊕Unit)):=if (decide (v3<(x.Unknown.length:Int))) then (idx x.Unknown v3>>=fun x5=>zgR x2 x5>>=fun wQ=>if (!wQ) then some (.inr (.inr ())) else some (.inl (i64.wrap (v3+1)))) else some (.inr (.inl ()))
def zel (x:zd) (x2:ze) (v3:Int):Option (Unit⊕Unit):=zaB (fun s=>zdh x x2 s) v3
def zfH (xq:(List ze)->Int->(List zd)->Option Bool) (xe:za->(List ze)->zb->Option Bool) (xk:(List ze)->Int->zd->Option Bool) (sv:List ze) (message:Int) (x:zd):Option Bool:=idx sv message>>=fun x2=>zek xe sv x x2 0 0>>=fun q=>match q with | .inl u=>(zel x x2 0>>=fun q2=>match q2 with | .inl u2=>(some true) | .inr u3=>(some false)) | .inr u4=>(some false)
def zac:Nat->((List ze)->Int->(List zd)->Option Bool)×(za->(List ze)->zb->Option Bool)×((List ze)->Int->zd->Option Bool) | 0=>(fun _ _ _=>none,fun _ _ _=>none,fun _ _ _=>none) | fuel+1=>(fun sv message l=>zeP (zac fuel).1 (zac fuel).2.1 (zac fuel).2.2 sv message l,fun f sv v=>zjX (zac fuel).1 (zac fuel).2.1 (zac fuel).2.2 f sv v,fun sv message x=>zfH (zac fuel).1 (zac fuel).2.1 (zac fuel).2.2 sv message x)
def zfE (fuel:Nat):(List ze)->Int->(List zd)->Option Bool:=(zac fuel).1
def zic (fuel:Nat):za->(List ze)->zb->Option Bool:=(zac fuel).2.1
def zdg (fuel:Nat):(List ze)->Int->zd->Option Bool:=(zac fuel).2.2
theorem znh (h:zcm l message xk sv v2=some (.inl v2')):zdn l message xk sv v2=zdn l message xk sv v2':=zY h
theorem zia (h:zcm l message xk sv v2=some (.inr wW)):zdn l message xk sv v2=some wW:=zZ h
theorem zox (h:zcp xe sv x x2 last v=some (.inl (last',v'))):zek xe sv x x2 last v=zek xe sv x x2 last' v':=zY h
theorem ziU (h:zcp xe sv x x2 last v=some (.inr wW)):zek xe sv x x2 last v=some wW:=zZ h
theorem zoy (h:zdh x x2 v3=some (.inl v3')):zel x x2 v3=zel x x2 v3':=zY h
theorem ziV (h:zdh x x2 v3=some (.inr wW)):zel x x2 v3=some wW:=zZ h
def zjr (fuel:Nat) (sv:List ze) (root:Int) (x:zd):Option Bool:=(zju sv root 0>>=fun rv=>if (rv==0) then (zjs fuel x>>=fun wN=>if wN then (zdg fuel sv root x>>=fun wQ=>some wQ) else some false) else some false)>>=fun g=>some g
def zgQ (xo:zb->Option zb) (rv:List zb) (v:List zb) (v2:Int):Option (((List zb)×Int)⊕(List zb)):=if (decide (v2<(rv.length:Int))) then (idx v v2>>=fun x2=>xo x2>>=fun wQ=>idx v v2>>=fun x3=>some (.inl ((v.set (Int.toNat v2) wQ),(i64.wrap (v2+1))))) else some (.inr v)
def zfG (xo:zb->Option zb) (rv:List zb) (v:List zb) (v2:Int):Option (List zb):=zaB (fun s=>zgQ xo rv s.1 s.2) (v,v2)
def zmu (xp:zd->Option zd) (xo:zb->Option zb) (x:zd):Option zd:=zcf x.Values>>=fun rv=>zco x.Unknown>>=fun wN=>zfG xo rv rv 0>>=fun q=>some (⟨q,wN⟩:zd)
def zes (xp:zd->Option zd) (wQ:List zd) (v2:List zd) (v3:Int):Option (((List zd)×Int)⊕(List zd)):=if (decide (v3<(wQ.length:Int))) then (idx v2 v3>>=fun x=>xp x>>=fun ke=>idx v2 v3>>=fun x2=>some (.inl ((v2.set (Int.toNat v3) ke),(i64.wrap (v3+1))))) else some (.inr v2)
def zdo (xp:zd->Option zd) (wQ:List zd) (v2:List zd) (v3:Int):Option (List zd):=zaB (fun s=>zes xp wQ s.1 s.2) (v2,v3)
def zhM (xp:zd->Option zd) (xo:zb->Option zb) (v:zb):Option zb:=zdW v.Words>>=fun rv=>zco v.Texts>>=fun wN=>zcR v.Subs>>=fun wQ=>zdo xp wQ wQ 0>>=fun q=>some (⟨v.Number,rv,wN,q⟩:zb)
def zaW:Nat->(zd->Option zd)×(zb->Option zb) | 0=>(fun _=>none,fun _=>none) | fuel+1=>(fun x=>zmu (zaW fuel).1 (zaW fuel).2 x,fun v=>zhM (zaW fuel).1 (zaW fuel).2 v)
def zib (fuel:Nat):zd->Option zd:=(zaW fuel).1
def zfF (fuel:Nat):zb->Option zb:=(zaW fuel).2
theorem zrw (h:zgQ xo rv v v2=some (.inl (v',v2'))):zfG xo rv v v2=zfG xo rv v' v2':=zY h
theorem zrx (h:zgQ xo rv v v2=some (.inr wW)):zfG xo rv v v2=some wW:=zZ h
theorem zni (h:zes xp wQ v2 v3=some (.inl (v2',v3'))):zdo xp wQ v2 v3=zdo xp wQ v2' v3':=zY h
theorem znj (h:zes xp wQ v2 v3=some (.inr wW)):zdo xp wQ v2 v3=some wW:=zZ h
def ztY (fuel:Nat) (x:zd):Option zd:=zjs fuel x>>=fun rv=>if (!rv) then some (⟨[],[]⟩:zd) else zib fuel x>>=fun wN=>some wN
def zjZ (xb:zd->zd->Option Bool) (xc:zb->zb->Option Bool) (xm:(List zb)->(List zb)->Option Bool) (xn:(List zd)->(List zd)->Option Bool) (av:zd) (b:zd):Option Bool:=(xm av.Values b.Values>>=fun rv=>if rv then (zbl av.Unknown b.Unknown>>=fun wN=>some wN) else some false)>>=fun g=>some g
def zfJ (xb:zd->zd->Option Bool) (xc:zb->zb->Option Bool) (xm:(List zb)->(List zb)->Option Bool) (xn:(List zd)->(List zd)->Option Bool) (v:zb) (wv:zb):Option Bool:=(if (v.Number==wv.Number) then (zbD v.Words wv.Words>>=fun rv=>if rv then (zbl v.Texts wv.Texts>>=fun wN=>if wN then (xn v.Subs wv.Subs>>=fun wQ=>some wQ) else some false) else some false) else some false)>>=fun g=>some g
def zz (xc:zb->zb->Option Bool) (s1:List zb) (s2:List zb) (v:Int):Option (Int⊕(Unit⊕Unit)):=if (decide (v<(s1.length:Int))) then (idx s1 v>>=fun x=>idx s2 v>>=fun x2=>xc x x2>>=fun rv=>if (!rv) then some (.inr (.inr ())) else some (.inl (i64.wrap (v+1)))) else some (.inr (.inl ()))
def zD (xc:zb->zb->Option Bool) (s1:List zb) (s2:List zb) (v:Int):Option (Unit⊕Unit):=zaB (fun s=>zz xc s1 s2 s) v
def zJ (xb:zd->zd->Option Bool) (xc:zb->zb->Option Bool) (xm:(List zb)->(List zb)->Option Bool) (xn:(List zd)->(List zd)->Option Bool) (s1:List zb) (s2:List zb):Option Bool:=if ((s1.length:Int) !=(s2.length:Int)) then some false else (zD xc s1 s2 0>>=fun q=>match q with | .inl u=>(some true) | .inr u2=>(some false))
def zF (xb:zd->zd->Option Bool) (s1:List zd) (s2:List zd) (v:Int):Option (Int⊕(Unit⊕Unit)):=if (decide (v<(s1.length:Int))) then (idx s1 v>>=fun x=>idx s2 v>>=fun x2=>xb x x2>>=fun rv=>if (!rv) then some (.inr (.inr ())) else some (.inl (i64.wrap (v+1)))) else some (.inr (.inl ()))
def zK (xb:zd->zd->Option Bool) (s1:List zd) (s2:List zd) (v:Int):Option (Unit⊕Unit):=zaB (fun s=>zF xb s1 s2 s) v
def zT (xb:zd->zd->Option Bool) (xc:zb->zb->Option Bool) (xm:(List zb)->(List zb)->Option Bool) (xn:(List zd)->(List zd)->Option Bool) (s1:List zd) (s2:List zd):Option Bool:=if ((s1.length:Int) !=(s2.length:Int)) then some false else (zK xb s1 s2 0>>=fun q=>match q with | .inl u=>(some true) | .inr u2=>(some false))
def zH:Nat->(zd->zd->Option Bool)×(zb->zb->Option Bool)×((List zb)->(List zb)->Option Bool)×((List zd)->(List zd)->Option Bool) | 0=>(fun _ _=>none,fun _ _=>none,fun _ _=>none,fun _ _=>none) | fuel+1=>(fun av b=>zjZ (zH fuel).1 (zH fuel).2.1 (zH fuel).2.2.1 (zH fuel).2.2.2 av b,fun v wv=>zfJ (zH fuel).1 (zH fuel).2.1 (zH fuel).2.2.1 (zH fuel).2.2.2 v wv,fun s1 s2=>zJ (zH fuel).1 (zH fuel).2.1 (zH fuel).2.2.1 (zH fuel).2.2.2 s1 s2,fun s1 s2=>zT (zH fuel).1 (zH fuel).2.1 (zH fuel).2.2.1 (zH fuel).2.2.2 s1 s2)
def zfI (fuel:Nat):zd->zd->Option Bool:=(zH fuel).1
def zdi (fuel:Nat):zb->zb->Option Bool:=(zH fuel).2.1
def zE (fuel:Nat):(List zb)->(List zb)->Option Bool:=(zH fuel).2.2.1
def zN (fuel:Nat):(List zd)->(List zd)->Option Bool:=(zH fuel).2.2.2
theorem zbt (h:zz xc s1 s2 v=some (.inl v')):zD xc s1 s2 v=zD xc s1 s2 v':=zY h
theorem zay (h:zz xc s1 s2 v=some (.inr wW)):zD xc s1 s2 v=some wW:=zZ h
theorem zbV (h:zF xb s1 s2 v=some (.inl v')):zK xb s1 s2 v=zK xb s1 s2 v':=zY h
theorem zaN (h:zF xb s1 s2 v=some (.inr wW)):zK xb s1 s2 v=some wW:=zZ h
def zkU (fuel:Nat) (av:zd) (b:zd):Option Bool:=(zjs fuel av>>=fun rv=>if rv then (zfI fuel av b>>=fun wN=>some wN) else some false)>>=fun g=>some g
def zla (fuel:Nat) (sv:List ze) (root:Int) (x:zd):Option Int:=zjr fuel sv root x>>=fun rv=>if rv then some 0 else (zhc sv>>=fun wN=>if (!wN) then some 9 else (if ((decide (root<0))|| (decide (root>=(sv.length:Int)))) then some 2 else some 12))
def zlc (k:Int):Option Int:=zfN k 0>>=fun rv=>if (rv==4) then some 5 else if (rv==8) then some 1 else some 0
def zlb (number:Int) (size:Int):Option (List UInt8):=zjm ([]:List UInt8) number ([]:List UInt8)>>=fun rv=>zhJ 4 (u64.wrap size)>>=fun wN=>cut rv 0 (i64.wrap ((rv.length:Int) - 1))>>=fun v=>app 1 v wN.1>>=fun v2=>some v2
def zbH (wv:zn) (b:List UInt8):Option zn:=app 24 wv.pieces ([b]:List (List UInt8))>>=fun v=>some (⟨v,(i64.wrap (wv.size+(b.length:Int)))⟩:zn)
def zbO (wv:zn) (number:Int) (wire:Int) (value:List UInt8):Option zn:=zhH ([]:List UInt8) number wire value>>=fun rv=>zbH wv rv.1>>=fun wN=>some wN
def zeG (wv:zn) (f:za) (l:List Int):Option zn:=zmY f.Kind l>>=fun rv=>if f.Repeated then (zbO wv f.Number 2 rv.1>>=fun wN=>some wN) else zlc f.Kind>>=fun wQ=>zbO wv f.Number wQ rv.1>>=fun ke=>some ke
def zbw (xg:zn->(List ze)->za->zb->Option zn) (sv:List ze) (x:zd) (x2:ze) (v:Int) (f:List (List UInt8)) (f2:Int):Option ((Int×(List (List UInt8))×Int)⊕((List (List UInt8))×Int)):=if (decide (v<(x.Values.length:Int))) then (idx x.Values v>>=fun x3=>zdt x2 x3.Number>>=fun rv=>idx x2.Fields rv.1>>=fun x4=>xg (⟨f,f2⟩:zn) sv x4 x3>>=fun wN=>some (.inl ((i64.wrap (v+1)),wN.pieces,wN.size))) else some (.inr (f,f2))
def zcG (xg:zn->(List ze)->za->zb->Option zn) (sv:List ze) (x:zd) (x2:ze) (v:Int) (f:List (List UInt8)) (f2:Int):Option ((List (List UInt8))×Int):=zaB (fun s=>zbw xg sv x x2 s.1 s.2.1 s.2.2) (v,f,f2)
def zbx (x:zd) (v2:Int) (f5:List (List UInt8)) (f6:Int):Option ((Int×(List (List UInt8))×Int)⊕((List (List UInt8))×Int)):=if (decide (v2<(x.Unknown.length:Int))) then (idx x.Unknown v2>>=fun x5=>lenO x5>>=fun v3=>zbH (⟨f5,f6⟩:zn) v3>>=fun wQ=>some (.inl ((i64.wrap (v2+1)),wQ.pieces,wQ.size))) else some (.inr (f5,f6))
def zcH (x:zd) (v2:Int) (f5:List (List UInt8)) (f6:Int):Option ((List (List UInt8))×Int):=zaB (fun s=>zbx x s.1 s.2.1 s.2.2) (v2,f5,f6)
def zcV (xr:zn->(List ze)->Int->zd->Option zn) (xf:zn->(List ze)->za->zd->Option zn) (xg:zn->(List ze)->za->zb->Option zn) (wv:zn) (sv:List ze) (message:Int) (x:zd):Option zn:=idx sv message>>=fun x2=>zcG xg sv x x2 0 wv.pieces wv.size>>=fun q=>zcH x 0 q.1 q.2>>=fun q2=>some (⟨q2.1,q2.2⟩:zn)
def zeF (xr:zn->(List ze)->Int->zd->Option zn) (xf:zn->(List ze)->za->zd->Option zn) (xg:zn->(List ze)->za->zb->Option zn) (wv:zn) (sv:List ze) (f:za) (x:zd):Option zn:=zbH wv ([]:List UInt8)>>=fun rv=>xr rv sv f.Of x>>=fun wN=>zlb f.Number (i64.wrap (wN.size - wv.size))>>=fun wQ=>idx wN.pieces (wv.pieces.length:Int)>>=fun x2=>idx (wN.pieces.set (Int.toNat (wv.pieces.length:Int)) wQ) (wv.pieces.length:Int)>>=fun x3=>some (⟨(wN.pieces.set (Int.toNat (wv.pieces.length:Int)) wQ),(i64.wrap (wN.size+(x3.length:Int)))⟩:zn)
def zbP (f:za) (v:zb) (v2:Int) (f4:List (List UInt8)) (f5:Int):Option ((Int×(List (List UInt8))×Int)⊕((List (List UInt8))×Int)):=if (decide (v2<(v.Texts.length:Int))) then (idx v.Texts v2>>=fun x=>lenO x>>=fun v3=>zbO (⟨f4,f5⟩:zn) f.Number 2 v3>>=fun wN=>some (.inl ((i64.wrap (v2+1)),wN.pieces,wN.size))) else some (.inr (f4,f5))
def zcr (f:za) (v:zb) (v2:Int) (f4:List (List UInt8)) (f5:Int):Option ((List (List UInt8))×Int):=zaB (fun s=>zbP f v s.1 s.2.1 s.2.2) (v2,f4,f5)
def zbQ (f:za) (xf:zn->(List ze)->za->zd->Option zn) (sv:List ze) (v:zb) (v4:Int) (f8:List (List UInt8)) (f9:Int):Option ((Int×(List (List UInt8))×Int)⊕((List (List UInt8))×Int)):=if (decide (v4<(v.Subs.length:Int))) then (idx v.Subs v4>>=fun x2=>xf (⟨f8,f9⟩:zn) sv f x2>>=fun wQ=>some (.inl ((i64.wrap (v4+1)),wQ.pieces,wQ.size))) else some (.inr (f8,f9))
def zcs (f:za) (xf:zn->(List ze)->za->zd->Option zn) (sv:List ze) (v:zb) (v4:Int) (f8:List (List UInt8)) (f9:Int):Option ((List (List UInt8))×Int):=zaB (fun s=>zbQ f xf sv v s.1 s.2.1 s.2.2) (v4,f8,f9)
def zdP (xr:zn->(List ze)->Int->zd->Option zn) (xf:zn->(List ze)->za->zd->Option zn) (xg:zn->(List ze)->za->zb->Option zn) (wv:zn) (sv:List ze) (f:za) (v:zb):Option zn:=((if (decide ((v.Words.length:Int)>0)) then (zeG wv f v.Words>>=fun rv=>some (rv.pieces,rv.size)) else (some (wv.pieces,wv.size)) :Option ((List (List UInt8))×Int)))>>=fun p=>zcr f v 0 p.1 p.2>>=fun q=>zcs f xf sv v 0 q.1 q.2>>=fun q2=>some (⟨q2.1,q2.2⟩:zn)
def zI:Nat->(zn->(List ze)->Int->zd->Option zn)×(zn->(List ze)->za->zd->Option zn)×(zn->(List ze)->za->zb->Option zn) | 0=>(fun _ _ _ _=>none,fun _ _ _ _=>none,fun _ _ _ _=>none) | fuel+1=>(fun wv sv message x=>zcV (zI fuel).1 (zI fuel).2.1 (zI fuel).2.2 wv sv message x,fun wv sv f x=>zeF (zI fuel).1 (zI fuel).2.1 (zI fuel).2.2 wv sv f x,fun wv sv f v=>zdP (zI fuel).1 (zI fuel).2.1 (zI fuel).2.2 wv sv f v)
def zbq (fuel:Nat):zn->(List ze)->Int->zd->Option zn:=(zI fuel).1
def zdD (fuel:Nat):zn->(List ze)->za->zd->Option zn:=(zI fuel).2.1
def zdE (fuel:Nat):zn->(List ze)->za->zb->Option zn:=(zI fuel).2.2
theorem zku {xg:zn->(List ze)->za->zb->Option zn} {sv:List ze} {x:zd} {x2:ze} {v:Int} {f:List (List UInt8)} {f2:Int} {v':Int} {f':List (List UInt8)} {f2':Int} (h:zbw xg sv x x2 v f f2=some (.inl (v',f',f2'))):zcG xg sv x x2 v f f2=zcG xg sv x x2 v' f' f2':=zY h
theorem zkv {xg:zn->(List ze)->za->zb->Option zn} {sv:List ze} {x:zd} {x2:ze} {v:Int} {f:List (List UInt8)} {f2:Int} {wW:((List (List UInt8))×Int)} (h:zbw xg sv x x2 v f f2=some (.inr wW)):zcG xg sv x x2 v f f2=some wW:=zZ h
theorem zkw {x:zd} {v2:Int} {f5:List (List UInt8)} {f6:Int} {v2':Int} {f5':List (List UInt8)} {f6':Int} (h:zbx x v2 f5 f6=some (.inl (v2',f5',f6'))):zcH x v2 f5 f6=zcH x v2' f5' f6':=zY h
theorem zkx {x:zd} {v2:Int} {f5:List (List UInt8)} {f6:Int} {wW:((List (List UInt8))×Int)} (h:zbx x v2 f5 f6=some (.inr wW)):zcH x v2 f5 f6=some wW:=zZ h
theorem zlJ {f:za} {v:zb} {v2:Int} {f4:List (List UInt8)} {f5:Int} {v2':Int} {f4':List (List UInt8)} {f5':Int} (h:zbP f v v2 f4 f5=some (.inl (v2',f4',f5'))):zcr f v v2 f4 f5=zcr f v v2' f4' f5':=zY h
theorem zlK {f:za} {v:zb} {v2:Int} {f4:List (List UInt8)} {f5:Int} {wW:((List (List UInt8))×Int)} (h:zbP f v v2 f4 f5=some (.inr wW)):zcr f v v2 f4 f5=some wW:=zZ h
theorem zlL {f:za} {xf:zn->(List ze)->za->zd->Option zn} {sv:List ze} {v:zb} {v4:Int} {f8:List (List UInt8)} {f9:Int} {v4':Int} {f8':List (List UInt8)} {f9':Int} (h:zbQ f xf sv v v4 f8 f9=some (.inl (v4',f8',f9'))):zcs f xf sv v v4 f8 f9=zcs f xf sv v v4' f8' f9':=zY h
theorem zlM {f:za} {xf:zn->(List ze)->za->zd->Option zn} {sv:List ze} {v:zb} {v4:Int} {f8:List (List UInt8)} {f9:Int} {wW:((List (List UInt8))×Int)} (h:zbQ f xf sv v v4 f8 f9=some (.inr wW)):zcs f xf sv v v4 f8 f9=some wW:=zZ h
def zdC (wv:Option zn):Option (List UInt8):=wv>>=fun x=>zaw x.pieces>>=fun rv=>some rv
def zil (fuel:Nat) (sv:List ze) (root:Int) (x:zd):Option ((List UInt8)×Int):=zla fuel sv root x>>=fun rv=>if (rv !=0) then some ([],rv) else zbq fuel (⟨[],0⟩:zn) sv root x>>=fun wN=>zdC (some wN)>>=fun wQ=>some (wQ,0)
def zoH (fuel:Nat) (sv:List ze) (root:Int) (b:List UInt8):Option Bool:=zmc fuel sv root b 64>>=fun rv=>if (rv.2 !=0) then some false else zbq fuel (⟨[],0⟩:zn) sv root rv.1>>=fun wN=>zdC (some wN)>>=fun wQ=>zfL wQ b>>=fun ke=>some ke
def zgq (k:Int):Option Bool:=zfN k 0>>=fun rv=>some (decide (rv>0))
def zlr (out:List UInt8) (number:Int) (wire:Int) (value:List UInt8):Option (List UInt8):=zhH ([]:List UInt8) number wire value>>=fun rv=>app 1 out rv.1>>=fun v=>some v
def zkO (k:Int):Option Int:=zfN k 0>>=fun rv=>if (rv==4) then some 5 else if (rv==8) then some 1 else some 0
def zls (out:List UInt8) (f:za) (b:List UInt8):Option (List UInt8):=if ((b.length:Int)==0) then some out else zkR f.Kind b>>=fun rv=>zmY f.Kind rv.1>>=fun wN=>if f.Repeated then (zlr out f.Number 2 wN.1>>=fun wQ=>some wQ) else zkO f.Kind>>=fun ke=>zlr out f.Number ke wN.1>>=fun rv5=>some rv5
def zgI (wv:zad) (message:Int) (b:List UInt8) (kg:Int):Option (zt×Int×(List (zi×Int))):=zfe b kg>>=fun rv=>if (!(mget wv.met (⟨message,rv.1.Number⟩:zi)).isSome) then (idx wv.s message>>=fun x=>zkW x b kg>>=fun wN=>some (rv.1,wN.1.Field,(mput wv.met (⟨message,rv.1.Number⟩:zi) wN.1.Field))) else some (rv.1,((mget wv.met (⟨message,rv.1.Number⟩:zi)).getD 0),wv.met)
def zjN (f:za) (before:List UInt8) (b:List UInt8) (rv:zt):Option (List UInt8):=(if f.Repeated then (zgq f.Kind>>=fun wN=>some (!wN)) else some false)>>=fun g=>((if g then some rv.From else (some rv.At) :Option Int))>>=fun p=>if (((!f.Repeated)&&(f.Kind !=17))|| ((before.length:Int)==0)) then (cut b p rv.To>>=fun v3=>some v3) else cut b p rv.To>>=fun v4=>app 1 before v4>>=fun v5=>some v5
def zlq (number:Int) (size:Int):Option (List UInt8):=zjm ([]:List UInt8) number ([]:List UInt8)>>=fun rv=>zhJ 4 (u64.wrap size)>>=fun wN=>cut rv 0 (i64.wrap ((rv.length:Int) - 1))>>=fun v=>app 1 v wN.1>>=fun v2=>some v2
def zcE (b:List UInt8) (f:za) (xd:zad->(List UInt8)->za->(List UInt8)->Option ((List UInt8)×(List (zi×Int)))) (wv:zad) (wY:List (zi×Int)) (ko:List UInt8) (kg:Int):Option (((List (zi×Int))×(List UInt8)×Int)⊕((List (zi×Int))×(List UInt8))):=if (decide (kg<(b.length:Int))) then (zfe b kg>>=fun rv5=>cut b rv5.1.At rv5.1.To>>=fun v=>xd (⟨wv.s,wY⟩:zad) ko f v>>=fun rv6=>some (.inl (rv6.2,rv6.1,rv5.1.To))) else some (.inr (wY,ko))
def zdG (b:List UInt8) (f:za) (xd:zad->(List UInt8)->za->(List UInt8)->Option ((List UInt8)×(List (zi×Int)))) (wv:zad) (wY:List (zi×Int)) (ko:List UInt8) (kg:Int):Option ((List (zi×Int))×(List UInt8)):=zaB (fun s=>zcE b f xd wv s.1 s.2.1 s.2.2) (wY,ko,kg)
def zef (xh:zad->(List UInt8)->za->(List UInt8)->Option ((List UInt8)×(List (zi×Int)))) (xt:zad->(List UInt8)->Int->(List UInt8)->Option ((List UInt8)×(List (zi×Int)))) (xd:zad->(List UInt8)->za->(List UInt8)->Option ((List UInt8)×(List (zi×Int)))) (wv:zad) (out:List UInt8) (f:za) (b:List UInt8):Option ((List UInt8)×(List (zi×Int))):=zgq f.Kind>>=fun rv=>if rv then (zls out f b>>=fun wN=>some (wN,wv.met)) else if (!f.Repeated) then (xd wv out f b>>=fun ke=>some (ke.1,ke.2)) else zdG b f xd wv wv.met out 0>>=fun q=>some (q.2,q.1)
def zbB (b:List UInt8) (message:Int) (wv:zad) (x:ze) (wY:List (zi×Int)) (kc:List (Int×(List UInt8))) (wO:List UInt8) (kg:Int):Option (((List (zi×Int))×(List (Int×(List UInt8)))×(List UInt8)×Int)⊕((List (zi×Int))×(List (Int×(List UInt8)))×(List UInt8))):=if (decide (kg<(b.length:Int))) then (zgI (⟨wv.s,wY⟩:zad) message b kg>>=fun wN=>if (wN.2.1==(-1)) then (cut b wN.1.From wN.1.To>>=fun v=>app 1 wO v>>=fun v2=>some (.inl (wN.2.2,kc,v2,wN.1.To))) else idx x.Fields wN.2.1>>=fun x2=>zjN x2 ((mget kc wN.1.Number).getD []) b wN.1>>=fun v3=>some (.inl (wN.2.2,(mput kc wN.1.Number v3),wO,wN.1.To))) else some (.inr (wY,kc,wO))
def zca (b:List UInt8) (message:Int) (wv:zad) (x:ze) (wY:List (zi×Int)) (kc:List (Int×(List UInt8))) (wO:List UInt8) (kg:Int):Option ((List (zi×Int))×(List (Int×(List UInt8)))×(List UInt8)):=zaB (fun s=>zbB b message wv x s.1 s.2.1 s.2.2.1 s.2.2.2) (wY,kc,wO,kg)
def zbZ (message:Int) (q:((List (zi×Int))×(List (Int×(List UInt8)))×(List UInt8))) (xh:zad->(List UInt8)->za->(List UInt8)->Option ((List UInt8)×(List (zi×Int)))) (v4:List Int) (wv:zad) (x:ze) (wv4:List (zi×Int)) (ko:List UInt8) (v5:Int):Option (((List (zi×Int))×(List UInt8)×Int)⊕((List (zi×Int))×(List UInt8))):=if (decide (v5<(v4.length:Int))) then (idx v4 v5>>=fun x3=>idx x.Fields ((mget wv4 (⟨message,x3⟩:zi)).getD 0)>>=fun x4=>xh (⟨wv.s,wv4⟩:zad) ko x4 ((mget q.2.1 x3).getD [])>>=fun wQ=>some (.inl (wQ.2,wQ.1,(i64.wrap (v5+1))))) else some (.inr (wv4,ko))
def zcK (message:Int) (q:((List (zi×Int))×(List (Int×(List UInt8)))×(List UInt8))) (xh:zad->(List UInt8)->za->(List UInt8)->Option ((List UInt8)×(List (zi×Int)))) (v4:List Int) (wv:zad) (x:ze) (wv4:List (zi×Int)) (ko:List UInt8) (v5:Int):Option ((List (zi×Int))×(List UInt8)):=zaB (fun s=>zbZ message q xh v4 wv x s.1 s.2.1 s.2.2) (wv4,ko,v5)
def zeo (xh:zad->(List UInt8)->za->(List UInt8)->Option ((List UInt8)×(List (zi×Int)))) (xt:zad->(List UInt8)->Int->(List UInt8)->Option ((List UInt8)×(List (zi×Int)))) (xd:zad->(List UInt8)->za->(List UInt8)->Option ((List UInt8)×(List (zi×Int)))) (wv:zad) (out:List UInt8) (message:Int) (b:List UInt8):Option ((List UInt8)×(List (zi×Int))):=idx wv.s message>>=fun x=>zca b message wv x wv.met ([]:List (Int×(List UInt8))) [] 0>>=fun q=>zlm q.2.1>>=fun v4=>zcK message q xh v4 wv x q.1 out 0>>=fun q2=>app 1 q2.2 q.2.2>>=fun v6=>some (v6,q2.1)
def zeg (xh:zad->(List UInt8)->za->(List UInt8)->Option ((List UInt8)×(List (zi×Int)))) (xt:zad->(List UInt8)->Int->(List UInt8)->Option ((List UInt8)×(List (zi×Int)))) (xd:zad->(List UInt8)->za->(List UInt8)->Option ((List UInt8)×(List (zi×Int)))) (wv:zad) (out:List UInt8) (f:za) (b:List UInt8):Option ((List UInt8)×(List (zi×Int))):=if (f.Kind !=17) then (zlr out f.Number 2 b>>=fun rv=>some (rv,wv.met)) else xt wv out f.Of b>>=fun wQ=>zlq f.Number (i64.wrap ((wQ.1.length:Int) - (out.length:Int)))>>=fun ke=>insO wQ.1 (out.length:Int) ke>>=fun v=>some (v,wQ.2)
def zO:Nat->(zad->(List UInt8)->za->(List UInt8)->Option ((List UInt8)×(List (zi×Int))))×(zad->(List UInt8)->Int->(List UInt8)->Option ((List UInt8)×(List (zi×Int))))×(zad->(List UInt8)->za->(List UInt8)->Option ((List UInt8)×(List (zi×Int)))) | 0=>(fun _ _ _ _=>none,fun _ _ _ _=>none,fun _ _ _ _=>none) | fuel+1=>(fun wv out f b=>zef (zO fuel).1 (zO fuel).2.1 (zO fuel).2.2 wv out f b,fun wv out message b=>zeo (zO fuel).1 (zO fuel).2.1 (zO fuel).2.2 wv out message b,fun wv out f b=>zeg (zO fuel).1 (zO fuel).2.1 (zO fuel).2.2 wv out f b)
def zem (fuel:Nat):zad->(List UInt8)->za->(List UInt8)->Option ((List UInt8)×(List (zi×Int))):=(zO fuel).1
def zbS (fuel:Nat):zad->(List UInt8)->Int->(List UInt8)->Option ((List UInt8)×(List (zi×Int))):=(zO fuel).2.1
def zhE (fuel:Nat):zad->(List UInt8)->za->(List UInt8)->Option ((List UInt8)×(List (zi×Int))):=(zO fuel).2.2
theorem znI {b:List UInt8} {f:za} {xd:zad->(List UInt8)->za->(List UInt8)->Option ((List UInt8)×(List (zi×Int)))} {wv:zad} {wY:List (zi×Int)} {ko:List UInt8} {kg:Int} {wv2':List (zi×Int)} {out2':List UInt8} {fromv':Int} (h:zcE b f xd wv wY ko kg=some (.inl (wv2',out2',fromv'))):zdG b f xd wv wY ko kg=zdG b f xd wv wv2' out2' fromv':=zY h
theorem znJ {b:List UInt8} {f:za} {xd:zad->(List UInt8)->za->(List UInt8)->Option ((List UInt8)×(List (zi×Int)))} {wv:zad} {wY:List (zi×Int)} {ko:List UInt8} {kg:Int} {wW:((List (zi×Int))×(List UInt8))} (h:zcE b f xd wv wY ko kg=some (.inr wW)):zdG b f xd wv wY ko kg=some wW:=zZ h
theorem zhw {b:List UInt8} {message:Int} {wv:zad} {x:ze} {wY:List (zi×Int)} {kc:List (Int×(List UInt8))} {wO:List UInt8} {kg:Int} {wv2':List (zi×Int)} {known':List (Int×(List UInt8))} {rest':List UInt8} {fromv':Int} (h:zbB b message wv x wY kc wO kg=some (.inl (wv2',known',rest',fromv'))):zca b message wv x wY kc wO kg=zca b message wv x wv2' known' rest' fromv':=zY h
theorem zml {b:List UInt8} {message:Int} {wv:zad} {x:ze} {wY:List (zi×Int)} {kc:List (Int×(List UInt8))} {wO:List UInt8} {kg:Int} {wW:((List (zi×Int))×(List (Int×(List UInt8)))×(List UInt8))} (h:zbB b message wv x wY kc wO kg=some (.inr wW)):zca b message wv x wY kc wO kg=some wW:=zZ h
theorem zmm {message:Int} {q:((List (zi×Int))×(List (Int×(List UInt8)))×(List UInt8))} {xh:zad->(List UInt8)->za->(List UInt8)->Option ((List UInt8)×(List (zi×Int)))} {v4:List Int} {wv:zad} {x:ze} {wv4:List (zi×Int)} {ko:List UInt8} {v5:Int} {wv4':List (zi×Int)} {out2':List UInt8} {v5':Int} (h:zbZ message q xh v4 wv x wv4 ko v5=some (.inl (wv4',out2',v5'))):zcK message q xh v4 wv x wv4 ko v5=zcK message q xh v4 wv x wv4' out2' v5':=zY h
theorem zmn {message:Int} {q:((List (zi×Int))×(List (Int×(List UInt8)))×(List UInt8))} {xh:zad->(List UInt8)->za->(List UInt8)->Option ((List UInt8)×(List (zi×Int)))} {v4:List Int} {wv:zad} {x:ze} {wv4:List (zi×Int)} {ko:List UInt8} {v5:Int} {wW:((List (zi×Int))×(List UInt8))} (h:zbZ message q xh v4 wv x wv4 ko v5=some (.inr wW)):zcK message q xh v4 wv x wv4 ko v5=some wW:=zZ h
def zjO (fuel:Nat) (sv:List ze) (root:Int) (b:List UInt8):Option (List UInt8):=zbS fuel (⟨sv,([]:List (zi×Int))⟩:zad) ([]:List UInt8) root b>>=fun wN=>some wN.1
def zgp (fuel:Nat) (sv:List ze) (root:Int) (b:List UInt8) (d:Int):Option ((List UInt8)×Int):=zgV fuel sv root b d>>=fun rv=>if (rv.2 !=0) then some ([],rv.2) else zjO fuel sv root b>>=fun wN=>some (wN,0)
def zeI (fuel:Nat):Option Bool:=zgp fuel ([(⟨[109],([(⟨[97],1,3,false,false,0⟩:za)]:List za)⟩:ze)]:List ze) 0 ([(8:UInt8),(129:UInt8),(0:UInt8),(8:UInt8),(130:UInt8),(0:UInt8)]:List UInt8) 0>>=fun rv=>(if ((i64.wrap rv.2)==0) then (zcY rv.1 ([(8:UInt8),(2:UInt8)]:List UInt8)>>=fun wN=>some wN) else some false)>>=fun g=>some g
def zsm (fuel:Nat) (sv:List ze) (root:Int) (b:List UInt8) (d:Int):Option Bool:=zgp fuel sv root b d>>=fun rv=>(if (rv.2==0) then (zfL rv.1 b>>=fun wN=>some wN) else some false)>>=fun g=>some g
def zmO (fuel:Nat) (sv:List ze) (root:Int) (av:List UInt8) (b:List UInt8) (d:Int):Option (Bool×Int):=zgp fuel sv root av d>>=fun rv=>if (rv.2 !=0) then some (false,rv.2) else zgp fuel sv root b d>>=fun wN=>(if (wN.2==0) then (zfL rv.1 wN.1>>=fun wQ=>some wQ) else some false)>>=fun g=>some (g,wN.2)
def zcX (fuel:Nat) (sv:List ze) (root:Int) (av:List UInt8) (b:List UInt8) (d:Int):Option Bool:=zeI fuel>>=fun rv=>if (!rv) then some false else (zfz sv>>=fun wN=>if ((!wN)|| (decide ((i64.wrap ((av.length:Int)+(b.length:Int)))>1500))) then some true else zgp fuel sv root av d>>=fun wQ=>zgp fuel sv root b d>>=fun ke=>if ((i64.wrap wQ.2) !=0) then ((if ((wQ.1.length:Int)==0) then (zpI fuel sv root av d>>=fun rv5=>some (!rv5)) else some false)>>=fun g=>some g) else zmc fuel sv root av d>>=fun rv6=>zmc fuel sv root wQ.1 d>>=fun rv7=>zil fuel sv root rv6.1>>=fun rv8=>(if ((i64.wrap ((i64.wrap ((i64.wrap rv6.2)+(i64.wrap rv7.2)))+(i64.wrap rv8.2))) !=0) then some true else zkU fuel rv6.1 rv7.1>>=fun rv9=>if (!rv9) then some true else zcY rv8.1 wQ.1>>=fun rv10=>if (!rv10) then some true else zsm fuel sv root wQ.1 d>>=fun rv11=>if (!rv11) then some true else if (decide ((wQ.1.length:Int)>(i64.wrap (2*(av.length:Int))))) then some true else zoH fuel sv root wQ.1>>=fun rv12=>some (!rv12))>>=fun g2=>if g2 then some false else if ((i64.wrap ke.2) !=0) then some true else zmc fuel sv root b d>>=fun rv13=>zmO fuel sv root av b d>>=fun rv14=>(if ((i64.wrap ((i64.wrap rv13.2)+(i64.wrap rv14.2)))==0) then (zcY wQ.1 ke.1>>=fun rv15=>zkU fuel rv6.1 rv13.1>>=fun rv16=>if (rv15==rv16) then (zcY wQ.1 ke.1>>=fun rv17=>some (rv14.1==rv17)) else some false) else some false)>>=fun g3=>some g3)
end
end Go.Proofs.YtaglemhabeipfaaGreat
