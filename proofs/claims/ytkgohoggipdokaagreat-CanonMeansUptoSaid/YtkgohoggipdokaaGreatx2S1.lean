/-
  What the Go functions do, as plain functions. No condition.
-/
import Derived.Test.YtkgohoggipdokaaGreatx2K2
set_option autoImplicit true
set_option relaxedAutoImplicit true
namespace Go.Proofs.YtkgohoggipdokaaGreat
open Go.IntKind (i32 i64 u32 u64 u8)
open Go
set_option linter.unusedVariables false
abbrev Str:=List UInt8
structure zKK where
  a0:Str
  a1:Str
  a2:Str
  a3:Str
  a4:Str
  a5:Str
  a6:Str
  a7:Str
  a8:Str
  a9:Str
  a10:Str
  a11:Str
  a12:Str
  a13:Str
  a14:Str deriving DecidableEq
structure zq where
  Number:Int
  Wire:Int
  From:Int
  At:Int
  To:Int deriving DecidableEq
def zaM:Rp zq:=⟨5,true,fun x=>[.int .i64 x.Number,.int .i64 x.Wire,.int .i64 x.From,.int .i64 x.At,.int .i64 x.To],fun _=>rfl,by decide⟩
structure ze where
  Record:zq
  Field:Int
  Run:Bool deriving DecidableEq
def zg:Rp ze:=⟨7,true,fun x=>[.int .i64 x.Record.Number,.int .i64 x.Record.Wire,.int .i64 x.Record.From,.int .i64 x.Record.At,.int .i64 x.Record.To,.int .i64 x.Field,.bool x.Run],fun _=>rfl,by decide⟩
structure zr where
  name:Str
  wire:Int deriving DecidableEq
def zaK:Rp zr:=⟨2,true,fun x=>[.str x.name,.int .i64 x.wire],fun _=>rfl,by decide⟩
mutual
structure zc where
  Values:(List zb)
  Unknown:(List Str)
structure zb where
  Number:Int
  Words:(List Int)
  Texts:(List Str)
  Subs:(List zc)
end
mutual
def zga:zc->List LV | ⟨x0,x1⟩=>[.sl x0.length 4 (zcI x0),.sl x1.length Rp.str.size (x1.flatMap Rp.str.lv)]
def zfz:List zc->List LV | []=>[] | x::l=>zga x++zfz l
def zcT:zb->List LV | ⟨x0,x1,x2,x3⟩=>[.int .i64 x0,.sl x1.length (Rp.int .u64).size (x1.flatMap (Rp.int .u64).lv),.sl x2.length Rp.str.size (x2.flatMap Rp.str.lv),.sl x3.length 2 (zfz x3)]
def zcI:List zb->List LV | []=>[] | x::l=>zcT x++zcI l
end
theorem zpw (l:List zc):zfz l=l.flatMap zga:=by
  induction l with
  | nil=>rfl
  | cons x l ih=>rw [zfz,ih,xS]
def zj:Rp zc:=⟨2,true,zga,fun x=>by cases x;rfl,by decide⟩
theorem zjH (l:List zb):zcI l=l.flatMap zcT:=by
  induction l with
  | nil=>rfl
  | cons x l ih=>rw [zcI,ih,xS]
def zh:Rp zb:=⟨4,true,zcT,fun x=>by cases x;rfl,by decide⟩
theorem zak (x:zc):zj.lv x=[.sl x.Values.length zh.size (x.Values.flatMap zh.lv),.sl x.Unknown.length Rp.str.size (x.Unknown.flatMap Rp.str.lv)]:=by
  cases x;simp only [zj,zga,zjH,zh]<;>rfl
theorem zad (x:zb):zh.lv x=[.int .i64 x.Number,.sl x.Words.length (Rp.int .u64).size (x.Words.flatMap (Rp.int .u64).lv),.sl x.Texts.length Rp.str.size (x.Texts.flatMap Rp.str.lv),.sl x.Subs.length zj.size (x.Subs.flatMap zj.lv)]:=by
  cases x;simp only [zh,zcT,zpw,zj]<;>rfl
structure za where
  Name:Str
  Number:Int
  Kind:Int
  Repeated:Bool
  Packed:Bool
  Of:Int deriving DecidableEq
def zf:Rp za:=⟨6,true,fun x=>[.str x.Name,.int .i64 x.Number,.int .i64 x.Kind,.bool x.Repeated,.bool x.Packed,.int .i64 x.Of],fun _=>rfl,by decide⟩
structure zd where
  Name:Str
  Fields:(List za) deriving DecidableEq
def zi:Rp zd:=⟨2,true,fun x=>[.str x.Name,.sl x.Fields.length zf.size (x.Fields.flatMap zf.lv)],fun _=>rfl,by decide⟩
structure zaq where
  Number:Int
  Wire:Int deriving DecidableEq
def zbO:Rp zaq:=⟨2,true,fun x=>[.int .i64 x.Number,.int .i64 x.Wire],fun _=>rfl,by decide⟩
structure zt where
  message:Int
  name:Str deriving DecidableEq
def zM:Rp zt:=⟨2,true,fun x=>[.int .i64 x.message,.str x.name],fun _=>rfl,by decide⟩
structure zu where
  message:Int
  number:Int deriving DecidableEq
def zN:Rp zu:=⟨2,true,fun x=>[.int .i64 x.message,.int .i64 x.number],fun _=>rfl,by decide⟩
structure zaQ where
  size:Int
  kinds:(List Int)
  names:(List (zt×Bool))
  numbers:(List (zu×Bool))
structure zaP where
  Message:Int
  Field:Int
  What:Int deriving DecidableEq
def zdv:Rp zaP:=⟨3,true,fun x=>[.int .i64 x.Message,.int .i64 x.Field,.int .i64 x.What],fun _=>rfl,by decide⟩
structure zQ where
  number:Int
  wire:Int deriving DecidableEq
def zah:Rp zQ:=⟨2,true,fun x=>[.int .i64 x.number,.int .i64 x.wire],fun _=>rfl,by decide⟩
structure zT where
  field:Int
  run:Bool
  e:Int deriving DecidableEq
def zap:Rp zT:=⟨3,true,fun x=>[.int .i64 x.field,.bool x.run,.int .u8 x.e],fun _=>rfl,by decide⟩
structure zvH where
  R:zq
  Field:Int
  Run:Bool deriving DecidableEq
structure zm where
  message:Int
  number:Int
  wire:Int deriving DecidableEq
def zn:Rp zm:=⟨3,true,fun x=>[.int .i64 x.message,.int .i64 x.number,.int .i64 x.wire],fun _=>rfl,by decide⟩
structure zaw where
  s:(List zd)
  b:(List UInt8)
  met:(List (zm×ze))
structure zz where
  depth:Int
  place:Int
  e:Int deriving DecidableEq
def zaF:Rp zz:=⟨3,true,fun x=>[.int .i64 x.depth,.int .i64 x.place,.int .u8 x.e],fun _=>rfl,by decide⟩
structure zJb where
  a0:Int
  a1:Int deriving DecidableEq
structure zk where
  pieces:(List (List UInt8))
  size:Int deriving DecidableEq
def zeS:Rp zk:=⟨2,true,fun x=>[.sl x.pieces.length (Rp.list Rp.byte).size (x.pieces.flatMap (Rp.list Rp.byte).lv),.int .i64 x.size],fun _=>rfl,by decide⟩
noncomputable section
def zcs (n:Int):Option (List UInt8):=if (decide (n<0)) then none else if (decide ((i64.wrap (n - (i64.wrap (0 - 0))))>0)) then (mkO 1 (0:UInt8) (i64.wrap (n - (i64.wrap (0 - 0)))) (i64.wrap (n - (i64.wrap (0 - 0))))>>=fun v=>cut v 0 0>>=fun v2=>some v2) else some []
def zau (wx:List (List UInt8)) (size:Int) (v:Int):Option ((Int×Int)⊕Int):=if (decide (v<(wx.length:Int))) then (idx wx v>>=fun x=>if (decide ((i64.wrap (size+(x.length:Int)))<0)) then none else some (.inl ((i64.wrap (size+(x.length:Int))),(i64.wrap (v+1))))) else some (.inr size)
def zbk (wx:List (List UInt8)) (size:Int) (v:Int):Option Int:=zaE (fun s:(Int×Int)=>zau wx s.1 s.2) (size,v)
def zav (wx:List (List UInt8)) (wE:List UInt8) (v2:Int):Option (((List UInt8)×Int)⊕(List UInt8)):=if (decide (v2<(wx.length:Int))) then (idx wx v2>>=fun x2=>app 1 wE x2>>=fun v3=>some (.inl (v3,(i64.wrap (v2+1))))) else some (.inr wE)
def zbl (wx:List (List UInt8)) (wE:List UInt8) (v2:Int):Option (List UInt8):=zaE (fun s:((List UInt8)×Int)=>zav wx s.1 s.2) (wE,v2)
def zax (wx:List (List UInt8)):Option (List UInt8):=zbk wx 0 0>>=fun q=>zcs q>>=fun rv=>zbl wx rv 0>>=fun q2=>some q2
theorem zhp (h:zau wx size v=some (.inl (size',v'))):zbk wx size v=zbk wx size' v':=zY (body:=fun s:(Int×Int)=>zau wx s.1 s.2) h
theorem zhq (h:zau wx size v=some (.inr wg)):zbk wx size v=some wg:=zZ (body:=fun s:(Int×Int)=>zau wx s.1 s.2) h
theorem zhr (h:zav wx wE v2=some (.inl (newslice',v2'))):zbl wx wE v2=zbl wx newslice' v2':=zY (body:=fun s:((List UInt8)×Int)=>zav wx s.1 s.2) h
theorem zhs (h:zav wx wE v2=some (.inr wg)):zbl wx wE v2=some wg:=zZ (body:=fun s:((List UInt8)×Int)=>zav wx s.1 s.2) h
def zaI (sv:List Int) (v:Int) (v2:Int):Option (Int⊕(Unit⊕Int)):=if (decide (v2<(sv.length:Int))) then (idx sv v2>>=fun x=>if (v==x) then some (.inr (.inr v2)) else some (.inl (i64.wrap (v2+1)))) else some (.inr (.inl ()))
def zbC (sv:List Int) (v:Int) (v2:Int):Option (Unit⊕Int):=zaE (fun s:Int=>zaI sv v s) v2
def zcF (sv:List Int) (v:Int):Option Int:=zbC sv v 0>>=fun q=>match q with | .inl u=>(some (-1)) | .inr u2=>(some u2)
theorem ziw (h:zaI sv v v2=some (.inl v2')):zbC sv v v2=zbC sv v v2':=zY (body:=fun s:Int=>zaI sv v s) h
theorem zfj (h:zaI sv v v2=some (.inr wg)):zbC sv v v2=some wg:=zZ (body:=fun s:Int=>zaI sv v s) h
def zca (sv:List Int) (v:Int):Option Bool:=zcF sv v>>=fun rv=>some (decide (rv>=0))
def zao (s1:List Int) (s2:List Int) (v:Int):Option (Int⊕(Unit⊕Unit)):=if (decide (v<(s1.length:Int))) then (idx s1 v>>=fun x=>idx s2 v>>=fun x2=>if (x !=x2) then some (.inr (.inr ())) else some (.inl (i64.wrap (v+1)))) else some (.inr (.inl ()))
def zaY (s1:List Int) (s2:List Int) (v:Int):Option (Unit⊕Unit):=zaE (fun s:Int=>zao s1 s2 s) v
def zbH (s1:List Int) (s2:List Int):Option Bool:=if ((s1.length:Int) !=(s2.length:Int)) then some false else (zaY s1 s2 0>>=fun q=>match q with | .inl u=>(some true) | .inr u2=>(some false))
theorem zgD (h:zao s1 s2 v=some (.inl v')):zaY s1 s2 v=zaY s1 s2 v':=zY (body:=fun s:Int=>zao s1 s2 s) h
theorem zdS (h:zao s1 s2 v=some (.inr wg)):zaY s1 s2 v=some wg:=zZ (body:=fun s:Int=>zao s1 s2 s) h
def zan (s1:List Str) (s2:List Str) (v:Int):Option (Int⊕(Unit⊕Unit)):=if (decide (v<(s1.length:Int))) then (idx s1 v>>=fun x=>idx s2 v>>=fun x2=>if (!(x==x2)) then some (.inr (.inr ())) else some (.inl (i64.wrap (v+1)))) else some (.inr (.inl ()))
def zaX (s1:List Str) (s2:List Str) (v:Int):Option (Unit⊕Unit):=zaE (fun s:Int=>zan s1 s2 s) v
def zbm (s1:List Str) (s2:List Str):Option Bool:=if ((s1.length:Int) !=(s2.length:Int)) then some false else (zaX s1 s2 0>>=fun q=>match q with | .inl u=>(some true) | .inr u2=>(some false))
theorem zgC (h:zan s1 s2 v=some (.inl v')):zaX s1 s2 v=zaX s1 s2 v':=zY (body:=fun s:Int=>zan s1 s2 s) h
theorem zdR (h:zan s1 s2 v=some (.inr wg)):zaX s1 s2 v=some wg:=zZ (body:=fun s:Int=>zan s1 s2 s) h
def zkR (av:List UInt8) (b:List UInt8):Option Bool:=some (av==b)
def zeA (wv2:Int) (n:Int):Option ((Int×Int)⊕Int):=if (wv2 !=0) then some (.inl ((shrI .u64 wv2 7),(i64.wrap (n+1)))) else some (.inr n)
def zgZ (wv2:Int) (n:Int):Option Int:=zaE (fun s:(Int×Int)=>zeA s.1 s.2) (wv2,n)
def zlw (wv:Int):Option Int:=zgZ (shrI .u64 wv 7) 1>>=fun q=>some q
theorem zsN (h:zeA wv2 n=some (.inl (wv2',n'))):zgZ wv2 n=zgZ wv2' n':=zY (body:=fun s:(Int×Int)=>zeA s.1 s.2) h
theorem zsO (h:zeA wv2 n=some (.inr wg)):zgZ wv2 n=some wg:=zZ (body:=fun s:(Int×Int)=>zeA s.1 s.2) h
def zcq (v:List UInt8) (wv:Int) (b:List UInt8) (v2:Int):Option (((List UInt8)×Int)⊕(List UInt8)):=if (decide (v2<(v.length:Int))) then (shrO .u64 wv (i64.wrap (8*v2))>>=fun v3=>idx b v2>>=fun x=>zoY (u8.wrap v3)>>=fun y2=>some (.inl ((b.set (Int.toNat v2) y2),(i64.wrap (v2+1))))) else some (.inr b)
def zfb (v:List UInt8) (wv:Int) (b:List UInt8) (v2:Int):Option (List UInt8):=zaE (fun s:((List UInt8)×Int)=>zcq v wv s.1 s.2) (b,v2)
def ziI (wv:Int) (n:Int):Option (List UInt8):=mkO 1 (0:UInt8) (if (8:Int)<(if n<0 then 0 else n) then 8 else if n<0 then 0 else n) (if (8:Int)<(if n<0 then 0 else n) then 8 else if n<0 then 0 else n)>>=fun v=>zfb v wv v 0>>=fun q=>some q
theorem zpn {v:List UInt8} {wv:Int} {b:List UInt8} {v2:Int} {b':List UInt8} {v2':Int} (h:zcq v wv b v2=some (.inl (b',v2'))):zfb v wv b v2=zfb v wv b' v2':=zY (body:=fun s:((List UInt8)×Int)=>zcq v wv s.1 s.2) h
theorem zpo {v:List UInt8} {wv:Int} {b:List UInt8} {v2:Int} {wg:List UInt8} (h:zcq v wv b v2=some (.inr wg)):zfb v wv b v2=some wg:=zZ (body:=fun s:((List UInt8)×Int)=>zcq v wv s.1 s.2) h
def zid (wv:Int):Option Int:=some (u32.wrap wv)
def ziJ (wv:Int):Option Int:=zid wv>>=fun rv=>some (i32.wrap rv)
def ziK (n:Int):Option Int:=some (u64.wrap (i64.wrap n))
def zdU (v:List UInt8) (wv:Int) (v2:Int):Option ((Int×Int)⊕Int):=if (decide (v2<(v.length:Int))) then (idx v v2>>=fun x=>shlO .u64 (u64.wrap (x.toNat:Int)) (i64.wrap (8*v2))>>=fun v3=>some (.inl ((orI .u64 wv v3),(i64.wrap (v2+1))))) else some (.inr wv)
def zgp (v:List UInt8) (wv:Int) (v2:Int):Option Int:=zaE (fun s:(Int×Int)=>zdU v s.1 s.2) (wv,v2)
def zlx (b:List UInt8):Option Int:=cut b 0 (if (8:Int)<(b.length:Int) then 8 else (b.length:Int))>>=fun v=>zgp v 0 0>>=fun q=>some q
theorem zrm (h:zdU v wv v2=some (.inl (wv',v2'))):zgp v wv v2=zgp v wv' v2':=zY (body:=fun s:(Int×Int)=>zdU v s.1 s.2) h
theorem zrn (h:zdU v wv v2=some (.inr wg)):zgp v wv v2=some wg:=zZ (body:=fun s:(Int×Int)=>zdU v s.1 s.2) h
def zeF (av:List UInt8) (b:List UInt8):Option Bool:=some (av==b)
def zct (v:List UInt8) (wv:Int) (v2:Int):Option ((Int×Int)⊕(Unit⊕(Int×Int×Int))):=if (decide (v2<(v.length:Int))) then (idx v v2>>=fun x=>if ((v2==9)&&(decide ((x.toNat:Int)>1))) then some (.inr (.inr (0,0,4))) else shlO .u64 (u64.wrap (andI .u8 (x.toNat:Int) 127)) (i64.wrap (7*v2))>>=fun v4=>if (decide ((x.toNat:Int)<128)) then some (.inr (.inr ((orI .u64 wv v4),(i64.wrap (v2+1)),0))) else some (.inl ((orI .u64 wv v4),(i64.wrap (v2+1))))) else some (.inr (.inl ()))
def zfp (v:List UInt8) (wv:Int) (v2:Int):Option (Unit⊕(Int×Int×Int)):=zaE (fun s:(Int×Int)=>zct v s.1 s.2) (wv,v2)
def zfs (b:List UInt8):Option (Int×Int×Int):=cut b 0 (if (10:Int)<(b.length:Int) then 10 else (b.length:Int))>>=fun v=>zfp v 0 0>>=fun q=>match q with | .inl u=>(some (0,0,3)) | .inr u2=>(some (u2.1,u2.2.1,u2.2.2))
theorem zpQ (h:zct v wv v2=some (.inl (wv',v2'))):zfp v wv v2=zfp v wv' v2':=zY (body:=fun s:(Int×Int)=>zct v s.1 s.2) h
theorem zgV (h:zct v wv v2=some (.inr wg)):zfp v wv v2=some wg:=zZ (body:=fun s:(Int×Int)=>zct v s.1 s.2) h
def zdu (wv2:Int) (l:List UInt8):Option ((Int×(List UInt8))⊕(Int×(List UInt8))):=if (decide (wv2>=128)) then (zoY (orI .u8 (u8.wrap wv2) 128)>>=fun y=>app 1 l ([y]:List UInt8)>>=fun v3=>some (.inl ((shrI .u64 wv2 7),v3))) else some (.inr (wv2,l))
def zgL (wv2:Int) (l:List UInt8):Option (Int×(List UInt8)):=zaE (fun s:(Int×(List UInt8))=>zdu s.1 s.2) (wv2,l)
def zgU (b:List UInt8) (wv:Int):Option (List UInt8):=zlw wv>>=fun rv=>mkO 1 (0:UInt8) 0 (i64.wrap ((b.length:Int)+rv))>>=fun v=>app 1 v b>>=fun v2=>zgL wv v2>>=fun q=>zoY (u8.wrap q.1)>>=fun y2=>app 1 q.2 ([y2]:List UInt8)>>=fun v4=>some v4
theorem zrd {wv2:Int} {l:List UInt8} {wv2':Int} {l':List UInt8} (h:zdu wv2 l=some (.inl (wv2',l'))):zgL wv2 l=zgL wv2' l':=zY (body:=fun s:(Int×(List UInt8))=>zdu s.1 s.2) h
theorem zre {wv2:Int} {l:List UInt8} {wg:(Int×(List UInt8))} (h:zdu wv2 l=some (.inr wg)):zgL wv2 l=some wg:=zZ (body:=fun s:(Int×(List UInt8))=>zdu s.1 s.2) h
def zhn (b:List UInt8):Option (Int×Int):=zfs b>>=fun rv=>some (rv.2.1,rv.2.2)
def zgJ (wire:Int):Option Bool:=if (wire==0) then if (wire==0) then some true else (some false) else if (wire==1) then if (wire==1) then some true else (some false) else if (wire==2) then if (wire==2) then some true else (some false) else if (wire==5) then some true else some false
def zjX (t:zaq):Option Bool:=(if (decide (t.Number>=1)) then (if (decide (t.Number<=536870911)) then (zgJ t.Wire>>=fun rv=>some rv) else some false) else some false)>>=fun g=>some g
def znU (b:List UInt8):Option (zaq×Int×Int):=zfs b>>=fun rv=>if (rv.2.2 !=0) then some ((⟨0,0⟩:zaq),0,rv.2.2) else (zjX (⟨(i64.wrap (if (536870912:Int)<(shrI .u64 rv.1 3) then 536870912 else shrI .u64 rv.1 3)),(i64.wrap (andI .u64 rv.1 7))⟩:zaq)>>=fun vY=>if (!vY) then some ((⟨0,0⟩:zaq),0,5) else (some ((⟨(i64.wrap (if (536870912:Int)<(shrI .u64 rv.1 3) then 536870912 else shrI .u64 rv.1 3)),(i64.wrap (andI .u64 rv.1 7))⟩:zaq),rv.2.1,0)))
def znV (t:zaq):Option Int:=some (orI .u64 (shlI .u64 (u64.wrap t.Number) 3) (u64.wrap t.Wire))
def zmC (b:List UInt8) (t:zaq):Option ((List UInt8)×Int):=zjX t>>=fun rv=>if (!rv) then some ([],2) else znV t>>=fun vY=>zgU b vY>>=fun wd=>some (wd,0)
def zrc (c:Int):Option (Int×Int):=if ((shrI .u8 c 7)==0) then some (1,(u32.wrap c)) else if ((shrI .u8 c 5)==6) then some (2,(u32.wrap (andI .u8 c 31))) else if ((shrI .u8 c 4)==14) then some (3,(u32.wrap (andI .u8 c 15))) else if ((shrI .u8 c 3)==30) then some (4,(u32.wrap (andI .u8 c 7))) else some (0,0)
def zmc (wv:Int):Option Int:=if ((shrI .u32 wv 7)==0) then some 1 else if ((shrI .u32 wv 11)==0) then some 2 else if ((shrI .u32 wv 11)==27) then some 0 else if ((shrI .u32 wv 16)==0) then some 3 else if (decide (wv<=1114111)) then some 4 else some 0
def zee (v2:List UInt8) (wv:Int) (v3:Int):Option ((Int×Int)⊕(Int⊕Unit)):=if (decide (v3<(v2.length:Int))) then (idx v2 v3>>=fun x2=>if ((shrI .u8 (x2.toNat:Int) 6) !=2) then some (.inr (.inr ())) else some (.inl ((orI .u32 (shlI .u32 wv 6) (u32.wrap (andI .u8 (x2.toNat:Int) 63))),(i64.wrap (v3+1))))) else some (.inr (.inl wv))
def zcn (v2:List UInt8) (wv:Int) (v3:Int):Option (Int⊕Unit):=zaE (fun s:(Int×Int)=>zee v2 s.1 s.2) (wv,v3)
def zmb (b:List UInt8):Option Int:=if ((b.length:Int)==0) then some 0 else (idx b 0>>=fun x=>zrc (x.toNat:Int)>>=fun rv=>if ((rv.1==0)|| (decide (rv.1>(b.length:Int)))) then some 0 else (cut b 1 rv.1>>=fun v2=>zcn v2 rv.2 0>>=fun q=>match q with | .inl u=>(zmc u>>=fun vY=>if (rv.1 !=vY) then some 0 else some rv.1) | .inr u2=>(some 0)))
theorem zsW (h:zee v2 wv v3=some (.inl (wv',v3'))):zcn v2 wv v3=zcn v2 wv' v3':=zY (body:=fun s:(Int×Int)=>zee v2 s.1 s.2) h
theorem zmN (h:zee v2 wv v3=some (.inr wg)):zcn v2 wv v3=some wg:=zZ (body:=fun s:(Int×Int)=>zee v2 s.1 s.2) h
def zeR (b:List UInt8) (atv:Int) (points:Int) (size:Int):Option ((Int×Int×Int)⊕(Int×Int)):=if (decide (size>0)) then (cut b (i64.wrap (atv+size)) (b.length:Int)>>=fun v=>zmb v>>=fun vY=>some (.inl ((i64.wrap (atv+size)),(i64.wrap (points+1)),vY))) else some (.inr (atv,points))
def zgm (b:List UInt8) (atv:Int) (points:Int) (size:Int):Option (Int×Int):=zaE (fun s:(Int×Int×Int)=>zeR b s.1 s.2.1 s.2.2) (atv,points,size)
def zoc (b:List UInt8):Option (Int×Int):=zmb b>>=fun rv=>zgm b 0 0 rv>>=fun q=>some (q.1,q.2)
theorem zsX (h:zeR b atv points size=some (.inl (atv',points',size'))):zgm b atv points size=zgm b atv' points' size':=zY (body:=fun s:(Int×Int×Int)=>zeR b s.1 s.2.1 s.2.2) h
theorem zsY (h:zeR b atv points size=some (.inr wg)):zgm b atv points size=some wg:=zZ (body:=fun s:(Int×Int×Int)=>zeR b s.1 s.2.1 s.2.2) h
def zma (b:List UInt8):Option Int:=zoc b>>=fun rv=>some rv.1
def ziA (b:List UInt8):Option Bool:=zma b>>=fun rv=>some (rv==(b.length:Int))
def zhg (wire:Int) (b:List UInt8):Option (Int×Int×Int):=if (wire==0) then (zhn b>>=fun rv=>some (0,rv.1,rv.2)) else (((if (wire==1) then some (0,0,8) else (if (wire==5) then some (0,0,4) else if (wire==2) then (zfs b>>=fun vY=>some (vY.2.1,vY.2.2,vY.1)) else some (0,0,0)) :Option (Int×Int×Int)))>>=fun p=>if (p.2.1 !=0) then some (0,0,p.2.1) else if (decide (p.2.2>(u64.wrap (i64.wrap ((b.length:Int) - p.1))))) then some (0,0,3) else some (p.1,(i64.wrap (p.1+(i64.wrap p.2.2))),0))
def zgg (b:List UInt8) (wB:Int):Option (zq×Int):=if ((decide (wB<0))|| (decide (wB>=(b.length:Int)))) then some ((⟨0,0,0,0,0⟩:zq),2) else (cut b wB (b.length:Int)>>=fun v2=>znU v2>>=fun rv=>if (rv.2.2 !=0) then some ((⟨0,0,0,0,0⟩:zq),rv.2.2) else (cut b (i64.wrap (wB+rv.2.1)) (b.length:Int)>>=fun v3=>zhg rv.1.Wire v3>>=fun vY=>if (vY.2.2 !=0) then some ((⟨0,0,0,0,0⟩:zq),vY.2.2) else (some ((⟨rv.1.Number,rv.1.Wire,wB,(i64.wrap ((i64.wrap (wB+rv.2.1))+vY.1)),(i64.wrap ((i64.wrap (wB+rv.2.1))+vY.2.1))⟩:zq),0))))
def ziV (wire:Int) (value:List UInt8):Option Bool:=if (wire==2) then some true else zhg wire value>>=fun rv=>some ((rv.2.2==0)&&(rv.2.1==(value.length:Int)))
def zir (b:List UInt8) (number:Int) (wire:Int) (value:List UInt8):Option ((List UInt8)×Int):=zmC ([]:List UInt8) (⟨number,wire⟩:zaq)>>=fun rv=>(if (rv.2 !=0) then some true else ziV wire value>>=fun vY=>some (!vY))>>=fun g=>if g then some ([],2) else if (wire==2) then (zgU rv.1 (u64.wrap (value.length:Int))>>=fun wd=>zax ([b,wd,value]:List (List UInt8))>>=fun rv4=>some (rv4,0)) else zax ([b,rv.1,value]:List (List UInt8))>>=fun rv5=>some (rv5,0)
def zkt (b:List UInt8) (number:Int) (value:List UInt8):Option (List UInt8):=zir b number 2 value>>=fun rv=>if (rv.2 !=0) then (zax ([b]:List (List UInt8))>>=fun vY=>some vY) else some rv.1
def zmp (wv:Int):Option Int:=some (if (1:Int)<wv then 1 else wv)
def zgc (k:Int) (wv:Int):Option (Int×Int):=((if (k==1) then some (k==1) else (some (k==8)) :Option Bool))>>=fun p=>if p then (ziJ wv>>=fun rv=>ziK rv>>=fun vY=>some (vY,0)) else ((if (k==3) then some (k==3) else (if (k==5) then some (k==5) else if (k==9) then some (k==9) else if (k==10) then some (k==10) else some (k==11)) :Option Bool))>>=fun p2=>if p2 then (zid wv>>=fun wd=>some ((u64.wrap wd),0)) else if (k==7) then (zmp wv>>=fun rv4=>some (rv4,0)) else ((if (k==2) then some (k==2) else (if (k==4) then some (k==4) else if (k==6) then some (k==6) else if (k==12) then some (k==12) else if (k==13) then some (k==13) else some (k==14)) :Option Bool))>>=fun p3=>if p3 then some (wv,0) else some (0,2)
def zkp:Option (List (Int×zr)):=some (mput (mput (mput (mput (mput (mput (mput (mput (mput (mput (mput (mput (mput (mput (mput (mput (mput ([]:List (Int×zr)) 1 (⟨[105,110,116,51,50],0⟩:zr)) 2 (⟨[105,110,116,54,52],0⟩:zr)) 3 (⟨[117,105,110,116,51,50],0⟩:zr)) 4 (⟨[117,105,110,116,54,52],0⟩:zr)) 5 (⟨[115,105,110,116,51,50],0⟩:zr)) 6 (⟨[115,105,110,116,54,52],0⟩:zr)) 7 (⟨[98,111,111,108],0⟩:zr)) 8 (⟨[101,110,117,109],0⟩:zr)) 9 (⟨[102,105,120,101,100,51,50],5⟩:zr)) 10 (⟨[115,102,105,120,101,100,51,50],5⟩:zr)) 11 (⟨[102,108,111,97,116],5⟩:zr)) 12 (⟨[102,105,120,101,100,54,52],1⟩:zr)) 13 (⟨[115,102,105,120,101,100,54,52],1⟩:zr)) 14 (⟨[100,111,117,98,108,101],1⟩:zr)) 15 (⟨[115,116,114,105,110,103],2⟩:zr)) 16 (⟨[98,121,116,101,115],2⟩:zr)) 17 (⟨[109,101,115,115,97,103,101],2⟩:zr))
def znv:Option (List Int):=zkp>>=fun rv=>zqm rv>>=fun v=>some v
def zjS (k:Int):Option (Int×Int):=zkp>>=fun rv=>if (!(mget rv k).isSome) then some (0,2) else some (((mget rv k).getD (⟨[],0⟩:zr)).wire,0)
def zhc (k:Int):Option Bool:=zjS k>>=fun rv=>some ((rv.2==0)&&(rv.1 !=2))
def zfi (c:Int):Option Bool:=some ((decide (c>=48))&&(decide (c<=57)))
def zfJ (c:Int):Option Bool:=some (if (decide (c>=97)) then (decide (c<=122))|| (if (decide (c>=65)) then (decide (c<=90))|| (c==95) else c==95) else (if (decide (c>=65)) then (decide (c<=90))|| (c==95) else c==95))
def zce (name:Str) (v2:Int):Option (Int⊕(Unit⊕Unit)):=if (decide (v2<(name.length:Int))) then ((idx name v2>>=fun c2=>zfJ (c2.toNat:Int)>>=fun vY=>if (!vY) then (idx name v2>>=fun c3=>zfi (c3.toNat:Int)>>=fun wd=>some (!wd)) else some false)>>=fun g2=>if g2 then some (.inr (.inr ())) else some (.inl (i64.wrap (v2+1)))) else some (.inr (.inl ()))
def zeg (name:Str) (v2:Int):Option (Unit⊕Unit):=zaE (fun s:Int=>zce name s) v2
def zfO (name:Str):Option Bool:=(if (name==[]) then some true else if (decide ((name.length:Int)>60)) then some true else idx name 0>>=fun c=>zfi (c.toNat:Int)>>=fun rv=>some rv)>>=fun g=>if g then some false else (zeg name 0>>=fun q=>match q with | .inl u=>(some true) | .inr u2=>(some false))
theorem znT (h:zce name v2=some (.inl v2')):zeg name v2=zeg name v2':=zY (body:=fun s:Int=>zce name s) h
theorem ziZ (h:zce name v2=some (.inr wg)):zeg name v2=some wg:=zZ (body:=fun s:Int=>zce name s) h
def zfK (n:Int):Option Bool:=some ((decide (n>=1))&&((decide (n<=536870911))&&((decide (n<19000))|| (decide (n>19999)))))
def zgh (f:za):Option Bool:=(if f.Repeated then (zhc f.Kind>>=fun rv=>some rv) else some false)>>=fun g=>some g
def zen (c:zaQ) (f:za):Option Bool:=if (f.Kind==17) then some ((decide (f.Of>=0))&&(decide (f.Of<c.size))) else some (f.Of==0)
def zem (c:zaQ) (message:Int) (f:za):Option (Int×(List (zt×Bool))×(List (zu×Bool))):=zfO f.Name>>=fun rv=>if (!rv) then some (5,c.names,c.numbers) else if ((mget c.names (⟨message,f.Name⟩:zt)).getD false) then some (6,c.names,c.numbers) else zfK f.Number>>=fun vY=>if (!vY) then some (7,c.names,c.numbers) else if ((mget c.numbers (⟨message,f.Number⟩:zu)).getD false) then some (8,c.names,c.numbers) else zca c.kinds f.Kind>>=fun wd=>if (!wd) then some (9,c.names,c.numbers) else (if f.Packed then (zgh f>>=fun rv4=>some (!rv4)) else some false)>>=fun g=>if g then some (10,c.names,c.numbers) else zen c f>>=fun rv5=>if (!rv5) then some (11,c.names,c.numbers) else some (0,(mput c.names (⟨message,f.Name⟩:zt) true),(mput c.numbers (⟨message,f.Number⟩:zu) true))
def zdy (c:zaQ) (m:zd):Option (Int×(List (zt×Bool))×(List (zu×Bool))):=zfO m.Name>>=fun rv=>if (!rv) then some (2,c.names,c.numbers) else if ((mget c.names (⟨(-1),m.Name⟩:zt)).getD false) then some (3,c.names,c.numbers) else if (decide ((m.Fields.length:Int)>200)) then some (4,c.names,c.numbers) else some (0,(mput c.names (⟨(-1),m.Name⟩:zt) true),c.numbers)
def zby (i:Int) (sv:List zd) (n3:Int) (k:Int):Option ((Int×Int)⊕Int):=idx sv i>>=fun x3=>if (decide (k<(x3.Fields.length:Int))) then (idx sv i>>=fun x4=>idx x4.Fields k>>=fun x5=>some (.inl ((i64.wrap (n3+(i64.wrap (Int.tdiv (x5.Name.length:Int) 100)))),(i64.wrap (k+1))))) else (some (.inr n3))
def zcX (i:Int) (sv:List zd) (n3:Int) (k:Int):Option Int:=zaE (fun s:(Int×Int)=>zby i sv s.1 s.2) (n3,k)
def zbx (sv:List zd) (n:Int) (i:Int):Option ((Int×Int)⊕Int):=if (decide (i<(sv.length:Int))) then (idx sv i>>=fun x=>idx sv i>>=fun x2=>zcX i sv (i64.wrap ((i64.wrap ((i64.wrap (n+1))+(i64.wrap (Int.tdiv (x.Name.length:Int) 100))))+(x2.Fields.length:Int))) 0>>=fun q=>some (.inl (q,(i64.wrap (i+1))))) else some (.inr n)
def zcW (sv:List zd) (n:Int) (i:Int):Option Int:=zaE (fun s:(Int×Int)=>zbx sv s.1 s.2) (n,i)
def zfd (sv:List zd):Option Bool:=zcW sv 0 0>>=fun q2=>some (decide (q2<=500))
theorem zlB (h:zby i sv n3 k=some (.inl (n3',k'))):zcX i sv n3 k=zcX i sv n3' k':=zY (body:=fun s:(Int×Int)=>zby i sv s.1 s.2) h
theorem zlC (h:zby i sv n3 k=some (.inr wg)):zcX i sv n3 k=some wg:=zZ (body:=fun s:(Int×Int)=>zby i sv s.1 s.2) h
theorem zlz (h:zbx sv n i=some (.inl (n',i'))):zcW sv n i=zcW sv n' i':=zY (body:=fun s:(Int×Int)=>zbx sv s.1 s.2) h
theorem zlA (h:zbx sv n i=some (.inr wg)):zcW sv n i=some wg:=zZ (body:=fun s:(Int×Int)=>zbx sv s.1 s.2) h
def zbM (rv:List Int) (sv:List zd) (v2:Int) (x:zd) (v3:Int) (f6:List (zt×Bool)) (f7:List (zu×Bool)):Option ((Int×(List (zt×Bool))×(List (zu×Bool)))⊕(((List (zt×Bool))×(List (zu×Bool)))⊕(Int×Int))):=if (decide (v3<(x.Fields.length:Int))) then (idx x.Fields v3>>=fun x2=>zem (⟨(sv.length:Int),rv,f6,f7⟩:zaQ) v2 x2>>=fun rv5=>if (rv5.1 !=0) then some (.inr (.inr (v3,rv5.1))) else some (.inl ((i64.wrap (v3+1)),rv5.2.1,rv5.2.2))) else some (.inr (.inl (f6,f7)))
def zdd (rv:List Int) (sv:List zd) (v2:Int) (x:zd) (v3:Int) (f6:List (zt×Bool)) (f7:List (zu×Bool)):Option (((List (zt×Bool))×(List (zu×Bool)))⊕(Int×Int)):=zaE (fun s:(Int×(List (zt×Bool))×(List (zu×Bool)))=>zbM rv sv v2 x s.1 s.2.1 s.2.2) (v3,f6,f7)
def zbf (rv:List Int) (sv:List zd) (v2:Int) (f:List (zt×Bool)) (f2:List (zu×Bool)):Option ((Int×(List (zt×Bool))×(List (zu×Bool)))⊕(Unit⊕(Int×Int×Int))):=if (decide (v2<(sv.length:Int))) then (idx sv v2>>=fun x=>zdy (⟨(sv.length:Int),rv,f,f2⟩:zaQ) x>>=fun wd=>if (wd.1 !=0) then some (.inr (.inr (v2,(-1),wd.1))) else (zdd rv sv v2 x 0 wd.2.1 wd.2.2>>=fun q=>match q with | .inl u=>(some (.inl ((i64.wrap (v2+1)),u.1,u.2))) | .inr u2=>(some (.inr (.inr (v2,u2.1,u2.2)))))) else some (.inr (.inl ()))
def zew (rv:List Int) (sv:List zd) (v2:Int) (f:List (zt×Bool)) (f2:List (zu×Bool)):Option (Unit⊕(Int×Int×Int)):=zaE (fun s:(Int×(List (zt×Bool))×(List (zu×Bool)))=>zbf rv sv s.1 s.2.1 s.2.2) (v2,f,f2)
def zhJ (sv:List zd):Option (zaP×Int):=if ((decide ((sv.length:Int)<1))|| (decide ((sv.length:Int)>100))) then some ((⟨(-1),(-1),1⟩:zaP),9) else (znv>>=fun rv=>zew rv sv 0 ([]:List (zt×Bool)) ([]:List (zu×Bool))>>=fun q2=>match q2 with | .inl u3=>(some ((⟨0,0,0⟩:zaP),0)) | .inr u4=>(some ((⟨u4.1,u4.2.1,u4.2.2⟩:zaP),9)))
theorem zoU {f6:List (zt×Bool)} {f7:List (zu×Bool)} (h:zbM rv sv v2 x v3 f6 f7=some (.inl (v3',f6',f7'))):zdd rv sv v2 x v3 f6 f7=zdd rv sv v2 x v3' f6' f7':=zY (body:=fun s:(Int×(List (zt×Bool))×(List (zu×Bool)))=>zbM rv sv v2 x s.1 s.2.1 s.2.2) h
theorem zju {f6:List (zt×Bool)} {f7:List (zu×Bool)} (h:zbM rv sv v2 x v3 f6 f7=some (.inr wg)):zdd rv sv v2 x v3 f6 f7=some wg:=zZ (body:=fun s:(Int×(List (zt×Bool))×(List (zu×Bool)))=>zbM rv sv v2 x s.1 s.2.1 s.2.2) h
theorem zoT {f2:List (zu×Bool)} (h:zbf rv sv v2 f f2=some (.inl (v2',f',f2'))):zew rv sv v2 f f2=zew rv sv v2' f' f2':=zY (body:=fun s:(Int×(List (zt×Bool))×(List (zu×Bool)))=>zbf rv sv s.1 s.2.1 s.2.2) h
theorem zdQ {f2:List (zu×Bool)} (h:zbf rv sv v2 f f2=some (.inr wg)):zew rv sv v2 f f2=some wg:=zZ (body:=fun s:(Int×(List (zt×Bool))×(List (zu×Bool)))=>zbf rv sv s.1 s.2.1 s.2.2) h
def zgr (sv:List zd):Option Bool:=zhJ sv>>=fun rv=>some (rv.2==0)
def zeM (f:za) (v:Int):Option Bool:=some (f.Number==v)
def zA (sv:List za) (v:Int) (v2:Int):Option (Int⊕(Unit⊕Int)):=if (decide (v2<(sv.length:Int))) then (idx sv v2>>=fun x=>zeM x v>>=fun rv=>if rv then some (.inr (.inr v2)) else some (.inl (i64.wrap (v2+1)))) else some (.inr (.inl ()))
def zR (sv:List za) (v:Int) (v2:Int):Option (Unit⊕Int):=zaE (fun s:Int=>zA sv v s) v2
def zas (sv:List za) (v:Int):Option Int:=zR sv v 0>>=fun q=>match q with | .inl u=>(some (-1)) | .inr u2=>(some u2)
theorem zcE (h:zA sv v v2=some (.inl v2')):zR sv v v2=zR sv v v2':=zY (body:=fun s:Int=>zA sv v s) h
theorem zbn (h:zA sv v v2=some (.inr wg)):zR sv v v2=some wg:=zZ (body:=fun s:Int=>zA sv v s) h
def zbX (m:zd) (v:Int):Option (Int×Bool):=zas m.Fields v>>=fun rv=>some ((if rv<0 then 0 else rv),(decide (rv>=0)))
def zdc (m:zd) (number:Int):Option (Int×Bool):=zbX m number>>=fun rv=>some (rv.1,rv.2)
def zfC (k:Int):Option (Int×Int):=((if (k==1) then some (k==1) else (if (k==2) then some (k==2) else if (k==3) then some (k==3) else if (k==4) then some (k==4) else if (k==5) then some (k==5) else if (k==6) then some (k==6) else if (k==7) then some (k==7) else some (k==8)) :Option Bool))>>=fun p=>if p then some (0,0) else ((if (k==9) then some (k==9) else (if (k==10) then some (k==10) else some (k==11)) :Option Bool))>>=fun p2=>if p2 then some (4,0) else if (k==12) then if (k==12) then some (8,0) else (some (0,2)) else if (k==13) then if (k==13) then some (8,0) else (some (0,2)) else if (k==14) then some (8,0) else some (0,2)
def zhI (b:List UInt8):Option (Int×Int):=zfs b>>=fun rv=>if ((rv.2.2 !=0)|| (rv.2.1 !=(b.length:Int))) then some (0,12) else some (rv.1,0)
def zhH (k:Int) (b:List UInt8):Option (Int×Int):=zfC k>>=fun rv=>if (rv.2 !=0) then some (0,rv.2) else if (rv.1==0) then (zhI b>>=fun vY=>some (vY.1,vY.2)) else if (rv.1 !=(b.length:Int)) then some (0,12) else zlx b>>=fun wd=>some (wd,0)
def ziY (k:Int) (b:List UInt8):Option (Int×Int):=zhH k b>>=fun rv=>if (rv.2 !=0) then some (0,rv.2) else zgc k rv.1>>=fun vY=>some (vY.1,vY.2)
def ziv (k:Int) (wv:Int):Option ((List UInt8)×Int):=zfC k>>=fun rv=>if (rv.2 !=0) then some ([],rv.2) else zgc k wv>>=fun vY=>if (rv.1==0) then (zgU ([]:List UInt8) vY.1>>=fun wd=>some (wd,vY.2)) else ziI vY.1 rv.1>>=fun rv4=>some (rv4,vY.2)
def zhj (k:Int) (wv:Int):Option Int:=zfC k>>=fun rv=>if ((rv.2 !=0)|| (rv.1 !=0)) then some rv.1 else zgc k wv>>=fun vY=>zlw vY.1>>=fun wd=>some wd
def zjW (k:Int):Option Int:=zhj k 0>>=fun rv=>some rv
def zlU (wide:Int) (b:List UInt8):Option (Int×Int):=if (wide==1) then (zhn b>>=fun rv=>some (rv.1,rv.2)) else if (decide (wide>(b.length:Int))) then some (0,3) else some (wide,0)
def zbA {σ:Type} (kf:(Rnd σ ((List UInt8)×Int))) (rv:Int) (vZ:List UInt8) (sg2:σ):Option (((List UInt8)×σ)⊕(σ⊕σ)):=if (decide ((vZ.length:Int)>0)) then (zlU rv vZ>>=fun vY=>cut vZ 0 vY.1>>=fun v3=>kf sg2 (v3,vY.2)>>=fun y2=>if ((!y2.1)|| (vY.2 !=0)) then some (.inr (.inr y2.2)) else cut vZ vY.1 (vZ.length:Int)>>=fun v5=>some (.inl (v5,y2.2))) else some (.inr (.inl sg2))
def zeu {σ:Type} (kf:(Rnd σ ((List UInt8)×Int))) (rv:Int) (vZ:List UInt8) (sg2:σ):Option (σ⊕σ):=zaE (fun s:((List UInt8)×σ)=>zbA kf rv s.1 s.2) (vZ,sg2)
def zdW {σ:Type} (v:Int) (v2:List UInt8) (kf:Rnd σ ((List UInt8)×Int)) (sg:σ):Option σ:=zjW v>>=fun rv=>if (rv==0) then (kf sg (([]:List UInt8),2)>>=fun y=>some y.2) else (zeu kf rv v2 sg>>=fun q=>match q with | .inl u=>(some u) | .inr u2=>(some u2))
theorem zoS {σ:Type} {kf:(Rnd σ ((List UInt8)×Int))} {rv:Int} {vZ:List UInt8} {sg2:σ} {rest':List UInt8} {sg2':σ} (h:zbA kf rv vZ sg2=some (.inl (rest',sg2'))):zeu kf rv vZ sg2=zeu kf rv rest' sg2':=zY (body:=fun s:((List UInt8)×σ)=>zbA kf rv s.1 s.2) h
theorem zgB {σ:Type} {kf:(Rnd σ ((List UInt8)×Int))} {rv:Int} {vZ:List UInt8} {sg2:σ} {wg:(σ⊕σ)} (h:zbA kf rv vZ sg2=some (.inr wg)):zeu kf rv vZ sg2=some wg:=zZ (body:=fun s:((List UInt8)×σ)=>zbA kf rv s.1 s.2) h
def zit (k:Int) (b:List UInt8):Option (Int×(List UInt8)):=some (k,b)
def zdp (k:Int) (f:List Int) (x:List UInt8) (x2:Int):Option ((List Int)⊕(Int×(List Int))):=if (x2 !=0) then some (.inr (x2,f)) else ziY k x>>=fun vY=>app 8 f ([vY.1]:List Int)>>=fun v=>some (.inl v)
def zlT (k:Int) (b:List UInt8):Option ((List Int)×Int):=zit k b>>=fun rv=>zdW rv.1 rv.2 (rnd (fun (s:List Int) (x:((List UInt8)×Int))=>zdp k s x.1 x.2)) (.inl [])>>=fun q=>match q with | .inl u=>(some (u,0)) | .inr j=>(some ([],j.1))
def zed (k:Int) (l:List Int) (b:List UInt8) (v:Int):Option (((List UInt8)×Int)⊕(List UInt8)):=if (decide (v<(l.length:Int))) then (idx l v>>=fun x=>ziv k x>>=fun vY=>app 1 b vY.1>>=fun v2=>some (.inl (v2,(i64.wrap (v+1))))) else some (.inr b)
def zhi (k:Int) (l:List Int) (b:List UInt8) (v:Int):Option (List UInt8):=zaE (fun s:((List UInt8)×Int)=>zed k l s.1 s.2) (b,v)
def znP (k:Int) (l:List Int):Option ((List UInt8)×Int):=zjW k>>=fun rv=>if (rv==0) then some ([],2) else zhi k l [] 0>>=fun q=>some (q,0)
theorem zsP {k:Int} {l:List Int} {b:List UInt8} {v:Int} {b':List UInt8} {v':Int} (h:zed k l b v=some (.inl (b',v'))):zhi k l b v=zhi k l b' v':=zY (body:=fun s:((List UInt8)×Int)=>zed k l s.1 s.2) h
theorem zsQ {k:Int} {l:List Int} {b:List UInt8} {v:Int} {wg:List UInt8} (h:zed k l b v=some (.inr wg)):zhi k l b v=some wg:=zZ (body:=fun s:((List UInt8)×Int)=>zed k l s.1 s.2) h
def zeL (f:Int) (x:List UInt8) (x2:Int):Option (Int⊕(Int×Int)):=if (x2 !=0) then some (.inr (x2,f)) else some (.inl (i64.wrap (f+1)))
def zlS (k:Int) (b:List UInt8):Option (Int×Int):=zit k b>>=fun rv=>zdW rv.1 rv.2 (rnd (fun (s:Int) (x:((List UInt8)×Int))=>zeL s x.1 x.2)) (.inl 0)>>=fun q=>match q with | .inl u=>(some (u,0)) | .inr j=>(some (0,j.1))
def zhQ (f:za) (v:Int):Option Bool:=some (f.Number==v)
def zG (sv:List za) (v:Int) (v2:Int):Option (Int⊕(Unit⊕Int)):=if (decide (v2<(sv.length:Int))) then (idx sv v2>>=fun x=>zhQ x v>>=fun rv=>if rv then some (.inr (.inr v2)) else some (.inl (i64.wrap (v2+1)))) else some (.inr (.inl ()))
def zX (sv:List za) (v:Int) (v2:Int):Option (Unit⊕Int):=zaE (fun s:Int=>zG sv v s) v2
def zaA (sv:List za) (v:Int):Option Int:=zX sv v 0>>=fun q=>match q with | .inl u=>(some (-1)) | .inr u2=>(some u2)
theorem zdg (h:zG sv v v2=some (.inl v2')):zX sv v v2=zX sv v v2':=zY (body:=fun s:Int=>zG sv v s) h
theorem zbv (h:zG sv v v2=some (.inr wg)):zX sv v v2=some wg:=zZ (body:=fun s:Int=>zG sv v s) h
def zkI (m:zd) (number:Int):Option Int:=zaA m.Fields number>>=fun rv=>some rv
def zkJ (f:za) (wire:Int):Option Bool:=(if f.Repeated then (if (wire==2) then (zhc f.Kind>>=fun rv=>some rv) else some false) else some false)>>=fun g=>some g
def zme (k:Int) (wire:Int):Option Bool:=zjS k>>=fun rv=>some ((rv.2==0)&&(rv.1==wire))
def zho (m:zd) (hv:zQ):Option zT:=zkI m hv.number>>=fun rv=>if (rv==(-1)) then some (⟨(-1),false,0⟩:zT) else idx m.Fields rv>>=fun x=>zkJ x hv.wire>>=fun vY=>(if (!vY) then (zme x.Kind hv.wire>>=fun wd=>some (!wd)) else some false)>>=fun g=>if g then some (⟨0,false,6⟩:zT) else some (⟨rv,vY,0⟩:zT)
def zjZ (m:zd) (b:List UInt8) (wB:Int) (met:List (zQ×zT)):Option (ze×Int×(List (zQ×zT))):=zgg b wB>>=fun rv=>if (rv.2 !=0) then some ((⟨(⟨0,0,0,0,0⟩:zq),0,false⟩:ze),rv.2,met) else (((if (!(mget met (⟨rv.1.Number,rv.1.Wire⟩:zQ)).isSome) then (zho m (⟨rv.1.Number,rv.1.Wire⟩:zQ)>>=fun vY=>some ((mput met (⟨rv.1.Number,rv.1.Wire⟩:zQ) vY),vY.field,vY.run,vY.e)) else (some (met,((mget met (⟨rv.1.Number,rv.1.Wire⟩:zQ)).getD (⟨0,false,0⟩:zT)).field,((mget met (⟨rv.1.Number,rv.1.Wire⟩:zQ)).getD (⟨0,false,0⟩:zT)).run,((mget met (⟨rv.1.Number,rv.1.Wire⟩:zQ)).getD (⟨0,false,0⟩:zT)).e)) :Option ((List (zQ×zT))×Int×Bool×Int)))>>=fun p=>if (p.2.2.2 !=0) then some ((⟨(⟨0,0,0,0,0⟩:zq),0,false⟩:ze),p.2.2.2,p.1) else some ((⟨rv.1,p.2.1,p.2.2.1⟩:ze),0,p.1))
def zde (b:List UInt8) (m:zd) (l:List ze) (met:List (zQ×zT)) (wB:Int):Option (((List ze)×(List (zQ×zT))×Int)⊕((List ze)⊕(Int×Int))):=if (decide (wB<(b.length:Int))) then (zjZ m b wB met>>=fun vY=>if (vY.2.1 !=0) then some (.inr (.inr (wB,vY.2.1))) else app 56 l ([vY.1]:List ze)>>=fun v=>some (.inl (v,vY.2.2,vY.1.Record.To))) else some (.inr (.inl l))
def zgn (b:List UInt8) (m:zd) (l:List ze) (met:List (zQ×zT)) (wB:Int):Option ((List ze)⊕(Int×Int)):=zaE (fun s:((List ze)×(List (zQ×zT))×Int)=>zde b m s.1 s.2.1 s.2.2) (l,met,wB)
def zof (m:zd) (b:List UInt8):Option ((List ze)×Int×Int):=zgn b m [] ([]:List (zQ×zT)) 0>>=fun q=>match q with | .inl u=>(some (u,0,0)) | .inr u2=>(some ([],u2.1,u2.2))
theorem zmO (h:zde b m l met wB=some (.inl (l',wo,fromv'))):zgn b m l met wB=zgn b m l' wo fromv':=zY (body:=fun s:((List ze)×(List (zQ×zT))×Int)=>zde b m s.1 s.2.1 s.2.2) h
theorem zjp (h:zde b m l met wB=some (.inr wg)):zgn b m l met wB=some wg:=zZ (body:=fun s:((List ze)×(List (zQ×zT))×Int)=>zde b m s.1 s.2.1 s.2.2) h
def zmd (m:zd) (b:List UInt8) (wB:Int):Option (ze×Int):=zjZ m b wB ([]:List (zQ×zT))>>=fun vY=>some (vY.1,vY.2.1)
def zfM (wv:zaw) (message:Int) (wB:Int) (tov:Int):Option (ze×Int×(List (zm×ze))):=cut wv.b 0 tov>>=fun v=>zgg v wB>>=fun rv=>if (rv.2 !=0) then some ((⟨(⟨0,0,0,0,0⟩:zq),0,false⟩:ze),rv.2,wv.met) else (if (!(mget wv.met (⟨message,rv.1.Number,rv.1.Wire⟩:zm)).isSome) then (idx wv.s message>>=fun x=>zmd x v wB>>=fun vY=>if (vY.2 !=0) then some ((⟨(⟨0,0,0,0,0⟩:zq),0,false⟩:ze),vY.2,wv.met) else some ((⟨rv.1,vY.1.Field,vY.1.Run⟩:ze),0,(mput wv.met (⟨message,rv.1.Number,rv.1.Wire⟩:zm) vY.1))) else (some ((⟨rv.1,(((mget wv.met (⟨message,rv.1.Number,rv.1.Wire⟩:zm)).getD (⟨(⟨0,0,0,0,0⟩:zq),0,false⟩:ze)).Field),(((mget wv.met (⟨message,rv.1.Number,rv.1.Wire⟩:zm)).getD (⟨(⟨0,0,0,0,0⟩:zq),0,false⟩:ze)).Run)⟩:ze),0,wv.met)))
def zjh (f:za) (isRun:Bool) (value:List UInt8):Option Int:=if isRun then (zlS f.Kind value>>=fun rv=>some rv.2) else (if (f.Kind==15) then (ziA value>>=fun vY=>some (!vY)) else some false)>>=fun g=>if g then some 7 else if (f.Kind==17) then some 8 else some 0
def zaG (d:Int) (message:Int) (xl:zaw->Int->ze->Int->Option (zz×(List (zm×ze)))) (tov:Int) (wv:zaw) (wv2:List (zm×ze)) (wD:Int) (depth:Int):Option (((List (zm×ze))×Int×Int)⊕(((List (zm×ze))×Int)⊕((List (zm×ze))×Int×Int×Int))):=if (decide (wD<tov)) then (zfM (⟨wv.s,wv.b,wv2⟩:zaw) message wD tov>>=fun vY=>if (vY.2.1 !=0) then some (.inr (.inr (vY.2.2,0,wD,vY.2.1))) else xl (⟨wv.s,wv.b,vY.2.2⟩:zaw) message vY.1 d>>=fun rv4=>if (rv4.1.e !=0) then some (.inr (.inr (rv4.2,rv4.1.depth,rv4.1.place,rv4.1.e))) else some (.inl (rv4.2,vY.1.Record.To,(if depth<rv4.1.depth then rv4.1.depth else depth)))) else some (.inr (.inl (wv2,depth)))
def zbQ (d:Int) (message:Int) (xl:zaw->Int->ze->Int->Option (zz×(List (zm×ze)))) (tov:Int) (wv:zaw) (wv2:List (zm×ze)) (wD:Int) (depth:Int):Option (((List (zm×ze))×Int)⊕((List (zm×ze))×Int×Int×Int)):=zaE (fun s:((List (zm×ze))×Int×Int)=>zaG d message xl tov wv s.1 s.2.1 s.2.2) (wv2,wD,depth)
def zdC (xr:zaw->Int->Int->Int->Int->Option (zz×(List (zm×ze)))) (xl:zaw->Int->ze->Int->Option (zz×(List (zm×ze)))) (wv:zaw) (message:Int) (wB:Int) (tov:Int) (d:Int):Option (zz×(List (zm×ze))):=zbQ d message xl tov wv wv.met wB 0>>=fun q=>match q with | .inl u=>(some ((⟨u.2,0,0⟩:zz),u.1)) | .inr u2=>(some ((⟨u2.2.1,u2.2.2.1,u2.2.2.2⟩:zz),u2.1))
def zdn (xr:zaw->Int->Int->Int->Int->Option (zz×(List (zm×ze)))) (xl:zaw->Int->ze->Int->Option (zz×(List (zm×ze)))) (wv:zaw) (message:Int) (v:ze) (d:Int):Option (zz×(List (zm×ze))):=if (v.Field==(-1)) then some ((⟨0,0,0⟩:zz),wv.met) else idx wv.s message>>=fun x=>idx x.Fields v.Field>>=fun x2=>if ((x2.Kind==17)&&(decide (d>0))) then (xr wv x2.Of v.Record.At v.Record.To (i64.wrap (d - 1))>>=fun vY=>some ((⟨(i64.wrap (vY.1.depth+1)),vY.1.place,vY.1.e⟩:zz),vY.2)) else cut wv.b v.Record.At v.Record.To>>=fun v3=>zjh x2 v.Run v3>>=fun wd=>if (wd !=0) then some ((⟨0,v.Record.From,wd⟩:zz),wv.met) else some ((⟨0,0,0⟩:zz),wv.met)
def zay:Nat->(zaw->Int->Int->Int->Int->Option (zz×(List (zm×ze))))×(zaw->Int->ze->Int->Option (zz×(List (zm×ze)))) | 0=>(fun _ _ _ _ _=>none,fun _ _ _ _=>none) | fuel+1=>(fun wv message wB tov d=>zdC (zay fuel).1 (zay fuel).2 wv message wB tov d,fun wv message v d=>zdn (zay fuel).1 (zay fuel).2 wv message v d)
def zbg (fuel:Nat):zaw->Int->Int->Int->Int->Option (zz×(List (zm×ze))):=(zay fuel).1
def zdm (fuel:Nat):zaw->Int->ze->Int->Option (zz×(List (zm×ze))):=(zay fuel).2
theorem zkP (h:zaG d message xl tov wv wv2 wD depth=some (.inl (wv2',fromv2',depth'))):zbQ d message xl tov wv wv2 wD depth=zbQ d message xl tov wv wv2' fromv2' depth':=zY (body:=fun s:((List (zm×ze))×Int×Int)=>zaG d message xl tov wv s.1 s.2.1 s.2.2) h
theorem zdh (h:zaG d message xl tov wv wv2 wD depth=some (.inr wg)):zbQ d message xl tov wv wv2 wD depth=some wg:=zZ (body:=fun s:((List (zm×ze))×Int×Int)=>zaG d message xl tov wv s.1 s.2.1 s.2.2) h
def ziB (sv:List zd) (root:Int) (d:Int):Option Int:=zgr sv>>=fun rv=>if (!rv) then some 9 else (if ((decide (root<0))|| ((decide (root>=(sv.length:Int)))|| ((decide (d<0))|| (decide (d>64))))) then some 2 else some 0)
def zkH (fuel:Nat) (sv:List zd) (root:Int) (b:List UInt8) (d:Int):Option zz:=ziB sv root d>>=fun rv=>if (rv !=0) then some (⟨0,0,rv⟩:zz) else (zbg fuel (⟨sv,b,([]:List (zm×ze))⟩:zaw) root 0 (b.length:Int) d>>=fun wd=>some wd.1)
def zjg (fuel:Nat) (sv:List zd) (root:Int) (b:List UInt8) (d:Int):Option (Int×Int):=zkH fuel sv root b d>>=fun rv=>some (rv.place,rv.e)
def zdH (v:zb):Option Int:=some (i64.wrap ((i64.wrap ((v.Words.length:Int)+(v.Texts.length:Int)))+(v.Subs.length:Int)))
def zbs (x:zc) (n:Int) (i:Int):Option ((Int×Int)⊕Int):=if (decide (i<(x.Unknown.length:Int))) then (idx x.Unknown i>>=fun x2=>some (.inl ((i64.wrap ((i64.wrap (n+1))+(x2.length:Int))),(i64.wrap (i+1))))) else some (.inr n)
def zcy (x:zc) (n:Int) (i:Int):Option Int:=zaE (fun s:(Int×Int)=>zbs x s.1 s.2) (n,i)
def zbc (wj:Int) (xk:zb->Int->Option Int) (x:zc) (n3:Int) (i2:Int):Option ((Int×Int)⊕(Int⊕Unit)):=if (decide (i2<(x.Values.length:Int))) then (idx x.Values i2>>=fun x3=>xk x3 wj>>=fun rv=>if (decide ((i64.wrap (n3+rv))>=5000)) then some (.inr (.inr ())) else some (.inl ((i64.wrap (n3+rv)),(i64.wrap (i2+1))))) else some (.inr (.inl n3))
def zcz (wj:Int) (xk:zb->Int->Option Int) (x:zc) (n3:Int) (i2:Int):Option (Int⊕Unit):=zaE (fun s:(Int×Int)=>zbc wj xk x s.1 s.2) (n3,i2)
def zdP (xj:zc->Int->Option Int) (xk:zb->Int->Option Int) (x:zc) (wj:Int):Option Int:=if (decide (wj<0)) then some 5000 else (zcy x 1 0>>=fun q=>zcz wj xk x q 0>>=fun q2=>match q2 with | .inl u=>(some u) | .inr u2=>(some 5000))
def zaL (v:zb) (n:Int) (k:Int):Option ((Int×Int)⊕Int):=if (decide (k<(v.Texts.length:Int))) then (idx v.Texts k>>=fun x=>some (.inl ((i64.wrap ((i64.wrap (n+1))+(x.length:Int))),(i64.wrap (k+1))))) else some (.inr n)
def zbI (v:zb) (n:Int) (k:Int):Option Int:=zaE (fun s:(Int×Int)=>zaL v s.1 s.2) (n,k)
def zaB (wj:Int) (xj:zc->Int->Option Int) (v:zb) (n3:Int) (k2:Int):Option ((Int×Int)⊕(Int⊕Unit)):=if (decide (k2<(v.Subs.length:Int))) then (idx v.Subs k2>>=fun x2=>xj x2 (i64.wrap (wj - 1))>>=fun rv=>if (decide ((i64.wrap (n3+rv))>=5000)) then some (.inr (.inr ())) else some (.inl ((i64.wrap (n3+rv)),(i64.wrap (k2+1))))) else some (.inr (.inl n3))
def zbJ (wj:Int) (xj:zc->Int->Option Int) (v:zb) (n3:Int) (k2:Int):Option (Int⊕Unit):=zaE (fun s:(Int×Int)=>zaB wj xj v s.1 s.2) (n3,k2)
def zcr (xj:zc->Int->Option Int) (xk:zb->Int->Option Int) (v:zb) (wj:Int):Option Int:=zbI v (i64.wrap (1+(v.Words.length:Int))) 0>>=fun q=>zbJ wj xj v q 0>>=fun q2=>match q2 with | .inl u=>(some u) | .inr u2=>(some 5000)
def zar:Nat->(zc->Int->Option Int)×(zb->Int->Option Int) | 0=>(fun _ _=>none,fun _ _=>none) | fuel+1=>(fun x wj=>zdP (zar fuel).1 (zar fuel).2 x wj,fun v wj=>zcr (zar fuel).1 (zar fuel).2 v wj)
def zbe (fuel:Nat):zc->Int->Option Int:=(zar fuel).1
def zbb (fuel:Nat):zb->Int->Option Int:=(zar fuel).2
theorem zlf (h:zbs x n i=some (.inl (n',i'))):zcy x n i=zcy x n' i':=zY (body:=fun s:(Int×Int)=>zbs x s.1 s.2) h
theorem zlg (h:zbs x n i=some (.inr wg)):zcy x n i=some wg:=zZ (body:=fun s:(Int×Int)=>zbs x s.1 s.2) h
theorem zlh (h:zbc wj xk x n3 i2=some (.inl (n3',i2'))):zcz wj xk x n3 i2=zcz wj xk x n3' i2':=zY (body:=fun s:(Int×Int)=>zbc wj xk x s.1 s.2) h
theorem zgG (h:zbc wj xk x n3 i2=some (.inr wg)):zcz wj xk x n3 i2=some wg:=zZ (body:=fun s:(Int×Int)=>zbc wj xk x s.1 s.2) h
theorem ziM (h:zaL v n k=some (.inl (n',k'))):zbI v n k=zbI v n' k':=zY (body:=fun s:(Int×Int)=>zaL v s.1 s.2) h
theorem ziN (h:zaL v n k=some (.inr wg)):zbI v n k=some wg:=zZ (body:=fun s:(Int×Int)=>zaL v s.1 s.2) h
theorem ziO (h:zaB wj xj v n3 k2=some (.inl (n3',k2'))):zbJ wj xj v n3 k2=zbJ wj xj v n3' k2':=zY (body:=fun s:(Int×Int)=>zaB wj xj v s.1 s.2) h
theorem zfr (h:zaB wj xj v n3 k2=some (.inr wg)):zbJ wj xj v n3 k2=some wg:=zZ (body:=fun s:(Int×Int)=>zaB wj xj v s.1 s.2) h
def zds (b:List UInt8) (l:List ze) (all:List Str) (v2:Int):Option (((List Str)×Int)⊕(List Str)):=if (decide (v2<(l.length:Int))) then (idx l v2>>=fun x=>cut b x.Record.At x.Record.To>>=fun v3=>idx all v2>>=fun x2=>some (.inl ((all.set (Int.toNat v2) v3),(i64.wrap (v2+1))))) else some (.inr all)
def zfR (b:List UInt8) (l:List ze) (all:List Str) (v2:Int):Option (List Str):=zaE (fun s:((List Str)×Int)=>zds b l s.1 s.2) (all,v2)
def zkE (b:List UInt8) (l:List ze):Option (List Str):=mkO 16 ([]:Str) (l.length:Int) (l.length:Int)>>=fun v=>zfR b l v 0>>=fun q=>some q
theorem zqX (h:zds b l all v2=some (.inl (all',v2'))):zfR b l all v2=zfR b l all' v2':=zY (body:=fun s:((List Str)×Int)=>zds b l s.1 s.2) h
theorem zqY (h:zds b l all v2=some (.inr wg)):zfR b l all v2=some wg:=zZ (body:=fun s:((List Str)×Int)=>zds b l s.1 s.2) h
def zdt (b:List UInt8) (k:Int) (l:List ze) (all:List Int) (v:Int):Option (((List Int)×Int)⊕(List Int)):=if (decide (v<(l.length:Int))) then (idx l v>>=fun x=>cut b x.Record.At x.Record.To>>=fun v2=>zlT k v2>>=fun rv=>app 8 all rv.1>>=fun v3=>some (.inl (v3,(i64.wrap (v+1))))) else some (.inr all)
def zfS (b:List UInt8) (k:Int) (l:List ze) (all:List Int) (v:Int):Option (List Int):=zaE (fun s:((List Int)×Int)=>zdt b k l s.1 s.2) (all,v)
def zkF (k:Int) (b:List UInt8) (l:List ze):Option (List Int):=zfS b k l [] 0>>=fun q=>some q
theorem zqZ (h:zdt b k l all v=some (.inl (all',v'))):zfS b k l all v=zfS b k l all' v':=zY (body:=fun s:((List Int)×Int)=>zdt b k l s.1 s.2) h
theorem zra (h:zdt b k l all v=some (.inr wg)):zfS b k l all v=some wg:=zZ (body:=fun s:((List Int)×Int)=>zdt b k l s.1 s.2) h
def zcb (b:List UInt8) (rv:((List ze)×Int×Int)) (wC:List (Int×(List ze))) (v:Int) (f:List Str):Option (((List (Int×(List ze)))×Int×(List Str))⊕((List (Int×(List ze)))×(List Str))):=if (decide (v<(rv.1.length:Int))) then (idx rv.1 v>>=fun x2=>if (x2.Field==(-1)) then (cut b x2.Record.From x2.Record.To>>=fun v2=>app 16 f ([v2]:List Str)>>=fun v3=>some (.inl (wC,(i64.wrap (v+1)),v3))) else app 56 ((mget wC x2.Record.Number).getD []) ([x2]:List ze)>>=fun v4=>some (.inl ((mput wC x2.Record.Number v4),(i64.wrap (v+1)),f))) else some (.inr (wC,f))
def zex (b:List UInt8) (rv:((List ze)×Int×Int)) (wC:List (Int×(List ze))) (v:Int) (f:List Str):Option ((List (Int×(List ze)))×(List Str)):=zaE (fun s:((List (Int×(List ze)))×Int×(List Str))=>zcb b rv s.1 s.2.1 s.2.2) (wC,v,f)
def zcc (b:List UInt8) (q:((List (Int×(List ze)))×(List Str))) (xh:(List zd)->za->(List UInt8)->(List ze)->Option zb) (sv:List zd) (v5:List Int) (x:zd) (v6:Int) (f3:List zb):Option ((Int×(List zb))⊕(List zb)):=if (decide (v6<(v5.length:Int))) then (idx v5 v6>>=fun x3=>idx ((mget q.1 x3).getD []) 0>>=fun x4=>idx x.Fields x4.Field>>=fun x5=>xh sv x5 b ((mget q.1 x3).getD [])>>=fun vY=>zdH vY>>=fun wd=>if (decide (wd>0)) then (app 80 f3 ([vY]:List zb)>>=fun v7=>some (.inl ((i64.wrap (v6+1)),v7))) else some (.inl ((i64.wrap (v6+1)),f3))) else some (.inr f3)
def zey (b:List UInt8) (q:((List (Int×(List ze)))×(List Str))) (xh:(List zd)->za->(List UInt8)->(List ze)->Option zb) (sv:List zd) (v5:List Int) (x:zd) (v6:Int) (f3:List zb):Option (List zb):=zaE (fun s:(Int×(List zb))=>zcc b q xh sv v5 x s.1 s.2) (v6,f3)
def zgl (xg:(List zd)->Int->(List UInt8)->Option zc) (xq:(List zd)->za->(List UInt8)->(List ze)->Option (List zc)) (xh:(List zd)->za->(List UInt8)->(List ze)->Option zb) (sv:List zd) (message:Int) (b:List UInt8):Option zc:=idx sv message>>=fun x=>zof x b>>=fun rv=>zex b rv ([]:List (Int×(List ze))) 0 []>>=fun q=>zqm q.1>>=fun v5=>zey b q xh sv v5 x 0 []>>=fun q2=>some (⟨q2,q.2⟩:zc)
def zdZ (b:List UInt8) (l:List ze) (pieces:List (List UInt8)) (v2:Int):Option (((List (List UInt8))×Int)⊕(List (List UInt8))):=if (decide (v2<(l.length:Int))) then (idx l v2>>=fun x=>cut b x.Record.At x.Record.To>>=fun v3=>idx pieces v2>>=fun x2=>some (.inl ((pieces.set (Int.toNat v2) v3),(i64.wrap (v2+1))))) else some (.inr pieces)
def zgt (b:List UInt8) (l:List ze) (pieces:List (List UInt8)) (v2:Int):Option (List (List UInt8)):=zaE (fun s:((List (List UInt8))×Int)=>zdZ b l s.1 s.2) (pieces,v2)
def zea (f:za) (p:List (List UInt8)) (xg:(List zd)->Int->(List UInt8)->Option zc) (sv:List zd) (all:List zc) (v6:Int):Option (((List zc)×Int)⊕(List zc)):=if (decide (v6<(p.length:Int))) then (idx p v6>>=fun x3=>xg sv f.Of x3>>=fun vY=>idx all v6>>=fun x4=>some (.inl ((all.set (Int.toNat v6) vY),(i64.wrap (v6+1))))) else some (.inr all)
def zeQ (f:za) (p:List (List UInt8)) (xg:(List zd)->Int->(List UInt8)->Option zc) (sv:List zd) (all:List zc) (v6:Int):Option (List zc):=zaE (fun s:((List zc)×Int)=>zea f p xg sv s.1 s.2) (all,v6)
def zhm (xg:(List zd)->Int->(List UInt8)->Option zc) (xq:(List zd)->za->(List UInt8)->(List ze)->Option (List zc)) (xh:(List zd)->za->(List UInt8)->(List ze)->Option zb) (sv:List zd) (f:za) (b:List UInt8) (l:List ze):Option (List zc):=mkO 24 ([]:List UInt8) (l.length:Int) (l.length:Int)>>=fun v=>zgt b l v 0>>=fun q=>((if ((!f.Repeated)&&(decide ((q.length:Int)>1))) then (zax q>>=fun rv=>some ([rv]:List (List UInt8))) else (some q) :Option (List (List UInt8))))>>=fun p=>mkO 48 ((⟨[],[]⟩:zc):zc) (p.length:Int) (p.length:Int)>>=fun v5=>zeQ f p xg sv v5 0>>=fun q2=>some q2
def zgu (xg:(List zd)->Int->(List UInt8)->Option zc) (xq:(List zd)->za->(List UInt8)->(List ze)->Option (List zc)) (xh:(List zd)->za->(List UInt8)->(List ze)->Option zb) (sv:List zd) (f:za) (b:List UInt8) (l:List ze):Option zb:=((if ((!f.Repeated)&&(f.Kind !=17)) then (cut l (i64.wrap ((l.length:Int) - 1)) (l.length:Int)>>=fun v2=>some v2) else (some l) :Option (List ze)))>>=fun p=>if (f.Kind==17) then (xq sv f b p>>=fun rv=>some (⟨f.Number,[],[],rv⟩:zb)) else ((if (f.Kind==15) then some (f.Kind==15) else (some (f.Kind==16)) :Option Bool))>>=fun p2=>if p2 then (zkE b p>>=fun vY=>some (⟨f.Number,[],vY,[]⟩:zb)) else zkF f.Kind b p>>=fun wd=>some (⟨f.Number,wd,[],[]⟩:zb)
def zag:Nat->((List zd)->Int->(List UInt8)->Option zc)×((List zd)->za->(List UInt8)->(List ze)->Option (List zc))×((List zd)->za->(List UInt8)->(List ze)->Option zb) | 0=>(fun _ _ _=>none,fun _ _ _ _=>none,fun _ _ _ _=>none) | fuel+1=>(fun sv message b=>zgl (zag fuel).1 (zag fuel).2.1 (zag fuel).2.2 sv message b,fun sv f b l=>zhm (zag fuel).1 (zag fuel).2.1 (zag fuel).2.2 sv f b l,fun sv f b l=>zgu (zag fuel).1 (zag fuel).2.1 (zag fuel).2.2 sv f b l)
def zdY (fuel:Nat):(List zd)->Int->(List UInt8)->Option zc:=(zag fuel).1
def zoN (fuel:Nat):(List zd)->za->(List UInt8)->(List ze)->Option (List zc):=(zag fuel).2.1
def ziz (fuel:Nat):(List zd)->za->(List UInt8)->(List ze)->Option zb:=(zag fuel).2.2
theorem zjv (h:zcb b rv wC v f=some (.inl (known',v',f'))):zex b rv wC v f=zex b rv known' v' f':=zY (body:=fun s:((List (Int×(List ze)))×Int×(List Str))=>zcb b rv s.1 s.2.1 s.2.2) h
theorem zoV (h:zcb b rv wC v f=some (.inr wg)):zex b rv wC v f=some wg:=zZ (body:=fun s:((List (Int×(List ze)))×Int×(List Str))=>zcb b rv s.1 s.2.1 s.2.2) h
theorem zjw {f3:List zb} (h:zcc b q xh sv v5 x v6 f3=some (.inl (v6',f3'))):zey b q xh sv v5 x v6 f3=zey b q xh sv v5 x v6' f3':=zY (body:=fun s:(Int×(List zb))=>zcc b q xh sv v5 x s.1 s.2) h
theorem zoW {f3:List zb} (h:zcc b q xh sv v5 x v6 f3=some (.inr wg)):zey b q xh sv v5 x v6 f3=some wg:=zZ (body:=fun s:(Int×(List zb))=>zcc b q xh sv v5 x s.1 s.2) h
theorem zrX (h:zdZ b l pieces v2=some (.inl (pieces',v2'))):zgt b l pieces v2=zgt b l pieces' v2':=zY (body:=fun s:((List (List UInt8))×Int)=>zdZ b l s.1 s.2) h
theorem zrY (h:zdZ b l pieces v2=some (.inr wg)):zgt b l pieces v2=some wg:=zZ (body:=fun s:((List (List UInt8))×Int)=>zdZ b l s.1 s.2) h
theorem zrZ (h:zea f p xg sv all v6=some (.inl (all',v6'))):zeQ f p xg sv all v6=zeQ f p xg sv all' v6':=zY (body:=fun s:((List zc)×Int)=>zea f p xg sv s.1 s.2) h
theorem zsa (h:zea f p xg sv all v6=some (.inr wg)):zeQ f p xg sv all v6=some wg:=zZ (body:=fun s:((List zc)×Int)=>zea f p xg sv s.1 s.2) h
def zoM (fuel:Nat) (sv:List zd) (root:Int) (b:List UInt8) (d:Int):Option (zc×Int):=zjg fuel sv root b d>>=fun rv=>if (rv.2 !=0) then some ((⟨[],[]⟩:zc),rv.2) else zdY fuel sv root b>>=fun vY=>some (vY,0)
def zdr (wr:Int) (xa:zc->Int->Option Int) (x2:zb) (deep3:Int) (v3:Int):Option ((Int×Int)⊕(Int⊕Int)):=if (decide (v3<(x2.Subs.length:Int))) then (idx x2.Subs v3>>=fun x3=>if (decide (wr<=0)) then some (.inr (.inr 1)) else xa x3 (i64.wrap (wr - 1))>>=fun rv=>if (decide ((if deep3<(i64.wrap (1+rv)) then i64.wrap (1+rv) else deep3)>wr)) then some (.inr (.inr (if deep3<(i64.wrap (1+rv)) then i64.wrap (1+rv) else deep3))) else some (.inl ((if deep3<(i64.wrap (1+rv)) then i64.wrap (1+rv) else deep3),(i64.wrap (v3+1))))) else some (.inr (.inl deep3))
def zfQ (wr:Int) (xa:zc->Int->Option Int) (x2:zb) (deep3:Int) (v3:Int):Option (Int⊕Int):=zaE (fun s:(Int×Int)=>zdr wr xa x2 s.1 s.2) (deep3,v3)
def zdq (wr:Int) (xa:zc->Int->Option Int) (x:zc) (wj:Int) (v:Int):Option ((Int×Int)⊕(Int⊕Int)):=if (decide (v<(x.Values.length:Int))) then (idx x.Values v>>=fun x2=>zfQ wr xa x2 wj 0>>=fun q=>match q with | .inl u=>(some (.inl (u,(i64.wrap (v+1))))) | .inr u2=>(some (.inr (.inr u2)))) else some (.inr (.inl wj))
def zfP (wr:Int) (xa:zc->Int->Option Int) (x:zc) (wj:Int) (v:Int):Option (Int⊕Int):=zaE (fun s:(Int×Int)=>zdq wr xa x s.1 s.2) (wj,v)
def zhO (xa:zc->Int->Option Int) (x:zc) (wr:Int):Option Int:=zfP wr xa x 0 0>>=fun q2=>match q2 with | .inl u3=>(some u3) | .inr u4=>(some u4)
def zeW:Nat->zc->Int->Option Int | 0,_,_=>none | fuel+1,x,wr=>zhO (zeW fuel) x wr
theorem zqS (h:zdr wr xa x2 deep3 v3=some (.inl (deep3',v3'))):zfQ wr xa x2 deep3 v3=zfQ wr xa x2 deep3' v3':=zY (body:=fun s:(Int×Int)=>zdr wr xa x2 s.1 s.2) h
theorem zqT (h:zdr wr xa x2 deep3 v3=some (.inr wg)):zfQ wr xa x2 deep3 v3=some wg:=zZ (body:=fun s:(Int×Int)=>zdr wr xa x2 s.1 s.2) h
theorem zqQ (h:zdq wr xa x wj v=some (.inl (deep',v'))):zfP wr xa x wj v=zfP wr xa x deep' v':=zY (body:=fun s:(Int×Int)=>zdq wr xa x s.1 s.2) h
theorem zqR (h:zdq wr xa x wj v=some (.inr wg)):zfP wr xa x wj v=some wg:=zZ (body:=fun s:(Int×Int)=>zdq wr xa x s.1 s.2) h
def zgj (fuel:Nat) (x:zc):Option Int:=zeW fuel x 131072>>=fun rv=>some rv
def zjY (fuel:Nat) (x:zc):Option Bool:=zgj fuel x>>=fun rv=>some (decide (rv<=131072))
def zch (l:List Str) (v:Int):Option (Int⊕(Unit⊕Unit)):=if (decide (v<(l.length:Int))) then (idx l v>>=fun x=>lenO x>>=fun v2=>ziA v2>>=fun rv=>if (!rv) then some (.inr (.inr ())) else some (.inl (i64.wrap (v+1)))) else some (.inr (.inl ()))
def zeh (l:List Str) (v:Int):Option (Unit⊕Unit):=zaE (fun s:Int=>zch l s) v
def zgK (l:List Str):Option Bool:=zeh l 0>>=fun q=>match q with | .inl u=>(some true) | .inr u2=>(some false)
theorem zoa (h:zch l v=some (.inl v')):zeh l v=zeh l v':=zY (body:=fun s:Int=>zch l s) h
theorem zjc (h:zch l v=some (.inr wg)):zeh l v=some wg:=zZ (body:=fun s:Int=>zch l s) h
def zgk (m:zd) (text:Str):Option Bool:=lenO text>>=fun v=>zgg v 0>>=fun rv=>if ((rv.2 !=0)|| (rv.1.To !=(text.length:Int))) then some false else zdc m rv.1.Number>>=fun vY=>some (!vY.2)
def zbd (k:Int) (l:List Int) (v:Int):Option (Int⊕(Unit⊕Unit)):=if (decide (v<(l.length:Int))) then (idx l v>>=fun x=>zgc k x>>=fun rv=>if ((rv.2 !=0)|| (rv.1 !=x)) then some (.inr (.inr ())) else some (.inl (i64.wrap (v+1)))) else some (.inr (.inl ()))
def zcG (k:Int) (l:List Int) (v:Int):Option (Unit⊕Unit):=zaE (fun s:Int=>zbd k l s) v
def zeP (k:Int) (l:List Int):Option Bool:=zcG k l 0>>=fun q=>match q with | .inl u=>(some true) | .inr u2=>(some false)
theorem zlr (h:zbd k l v=some (.inl v')):zcG k l v=zcG k l v':=zY (body:=fun s:Int=>zbd k l s) h
theorem zeV (h:zbd k l v=some (.inr wg)):zcG k l v=some wg:=zZ (body:=fun s:Int=>zbd k l s) h
def zbz (l:List zc) (message:Int) (xi:(List zd)->Int->zc->Option Bool) (sv:List zd) (v2:Int):Option (Int⊕(Unit⊕Unit)):=if (decide (v2<(l.length:Int))) then (idx l v2>>=fun x=>xi sv message x>>=fun rv=>if (!rv) then some (.inr (.inr ())) else some (.inl (i64.wrap (v2+1)))) else some (.inr (.inl ()))
def zcZ (l:List zc) (message:Int) (xi:(List zd)->Int->zc->Option Bool) (sv:List zd) (v2:Int):Option (Unit⊕Unit):=zaE (fun s:Int=>zbz l message xi sv s) v2
def zep (xo:(List zd)->Int->(List zc)->Option Bool) (xd:za->(List zd)->zb->Option Bool) (xi:(List zd)->Int->zc->Option Bool) (sv:List zd) (message:Int) (l:List zc):Option Bool:=if ((decide (message<0))|| (decide (message>=(sv.length:Int)))) then some false else (zcZ l message xi sv 0>>=fun q=>match q with | .inl u=>(some true) | .inr u2=>(some false))
def zjd (xo:(List zd)->Int->(List zc)->Option Bool) (xd:za->(List zd)->zb->Option Bool) (xi:(List zd)->Int->zc->Option Bool) (f:za) (sv:List zd) (v:zb):Option Bool:=zdH v>>=fun rv=>if ((rv==0)|| ((decide (rv>1))&&(!f.Repeated))) then some false else if (f.Kind==15) then ((if ((v.Texts.length:Int)==rv) then (zgK v.Texts>>=fun vY=>some vY) else some false)>>=fun g=>some g) else if (f.Kind==16) then some ((v.Texts.length:Int)==rv) else if (f.Kind==17) then ((if ((v.Subs.length:Int)==rv) then (xo sv f.Of v.Subs>>=fun wd=>some wd) else some false)>>=fun g2=>some g2) else (if ((v.Words.length:Int)==rv) then (zeP f.Kind v.Words>>=fun rv4=>some rv4) else some false)>>=fun g3=>some g3
def zbE (xd:za->(List zd)->zb->Option Bool) (sv:List zd) (x:zc) (x2:zd) (last:Int) (v:Int):Option ((Int×Int)⊕(Unit⊕Unit)):=if (decide (v<(x.Values.length:Int))) then (idx x.Values v>>=fun x3=>zdc x2 x3.Number>>=fun rv=>(if (!rv.2) then some true else if (decide (x3.Number<=last)) then some true else idx x2.Fields rv.1>>=fun x4=>xd x4 sv x3>>=fun vY=>some (!vY))>>=fun g=>if g then some (.inr (.inr ())) else some (.inl (x3.Number,(i64.wrap (v+1))))) else some (.inr (.inl ()))
def zdI (xd:za->(List zd)->zb->Option Bool) (sv:List zd) (x:zc) (x2:zd) (last:Int) (v:Int):Option (Unit⊕Unit):=zaE (fun s:(Int×Int)=>zbE xd sv x x2 s.1 s.2) (last,v)
def zbS (x:zc) (x2:zd) (v3:Int):Option (Int⊕(Unit⊕Unit)):=if (decide (v3<(x.Unknown.length:Int))) then (idx x.Unknown v3>>=fun x5=>zgk x2 x5>>=fun wd=>if (!wd) then some (.inr (.inr ())) else some (.inl (i64.wrap (v3+1)))) else some (.inr (.inl ()))
def zdJ (x:zc) (x2:zd) (v3:Int):Option (Unit⊕Unit):=zaE (fun s:Int=>zbS x x2 s) v3
def zfm (xo:(List zd)->Int->(List zc)->Option Bool) (xd:za->(List zd)->zb->Option Bool) (xi:(List zd)->Int->zc->Option Bool) (sv:List zd) (message:Int) (x:zc):Option Bool:=idx sv message>>=fun x2=>zdI xd sv x x2 0 0>>=fun q=>match q with | .inl u=>(zdJ x x2 0>>=fun q2=>match q2 with | .inl u2=>(some true) | .inr u3=>(some false)) | .inr u4=>(some false)
def zab:Nat->((List zd)->Int->(List zc)->Option Bool)×(za->(List zd)->zb->Option Bool)×((List zd)->Int->zc->Option Bool) | 0=>(fun _ _ _=>none,fun _ _ _=>none,fun _ _ _=>none) | fuel+1=>(fun sv message l=>zep (zab fuel).1 (zab fuel).2.1 (zab fuel).2.2 sv message l,fun f sv v=>zjd (zab fuel).1 (zab fuel).2.1 (zab fuel).2.2 f sv v,fun sv message x=>zfm (zab fuel).1 (zab fuel).2.1 (zab fuel).2.2 sv message x)
def zfl (fuel:Nat):(List zd)->Int->(List zc)->Option Bool:=(zab fuel).1
def zhl (fuel:Nat):za->(List zd)->zb->Option Bool:=(zab fuel).2.1
def zcU (fuel:Nat):(List zd)->Int->zc->Option Bool:=(zab fuel).2.2
theorem zlZ (h:zbz l message xi sv v2=some (.inl v2')):zcZ l message xi sv v2=zcZ l message xi sv v2':=zY (body:=fun s:Int=>zbz l message xi sv s) h
theorem zhk (h:zbz l message xi sv v2=some (.inr wg)):zcZ l message xi sv v2=some wg:=zZ (body:=fun s:Int=>zbz l message xi sv s) h
theorem zmX (h:zbE xd sv x x2 last v=some (.inl (last',v'))):zdI xd sv x x2 last v=zdI xd sv x x2 last' v':=zY (body:=fun s:(Int×Int)=>zbE xd sv x x2 s.1 s.2) h
theorem zhX (h:zbE xd sv x x2 last v=some (.inr wg)):zdI xd sv x x2 last v=some wg:=zZ (body:=fun s:(Int×Int)=>zbE xd sv x x2 s.1 s.2) h
theorem zmY (h:zbS x x2 v3=some (.inl v3')):zdJ x x2 v3=zdJ x x2 v3':=zY (body:=fun s:Int=>zbS x x2 s) h
theorem zhY (h:zbS x x2 v3=some (.inr wg)):zdJ x x2 v3=some wg:=zZ (body:=fun s:Int=>zbS x x2 s) h
def zix (fuel:Nat) (sv:List zd) (root:Int) (x:zc):Option Bool:=(ziB sv root 0>>=fun rv=>if (rv==0) then (zjY fuel x>>=fun vY=>if vY then (zcU fuel sv root x>>=fun wd=>some wd) else some false) else some false)>>=fun g=>some g
def zjf (xb:zc->zc->Option Bool) (xc:zb->zb->Option Bool) (xm:(List zb)->(List zb)->Option Bool) (xn:(List zc)->(List zc)->Option Bool) (av:zc) (b:zc):Option Bool:=(xm av.Values b.Values>>=fun rv=>if rv then (zbm av.Unknown b.Unknown>>=fun vY=>some vY) else some false)>>=fun g=>some g
def zfo (xb:zc->zc->Option Bool) (xc:zb->zb->Option Bool) (xm:(List zb)->(List zb)->Option Bool) (xn:(List zc)->(List zc)->Option Bool) (v:zb) (wv:zb):Option Bool:=(if (v.Number==wv.Number) then (zbH v.Words wv.Words>>=fun rv=>if rv then (zbm v.Texts wv.Texts>>=fun vY=>if vY then (xn v.Subs wv.Subs>>=fun wd=>some wd) else some false) else some false) else some false)>>=fun g=>some g
def zp (xc:zb->zb->Option Bool) (s1:List zb) (s2:List zb) (v:Int):Option (Int⊕(Unit⊕Unit)):=if (decide (v<(s1.length:Int))) then (idx s1 v>>=fun x=>idx s2 v>>=fun x2=>xc x x2>>=fun rv=>if (!rv) then some (.inr (.inr ())) else some (.inl (i64.wrap (v+1)))) else some (.inr (.inl ()))
def zC (xc:zb->zb->Option Bool) (s1:List zb) (s2:List zb) (v:Int):Option (Unit⊕Unit):=zaE (fun s:Int=>zp xc s1 s2 s) v
def zK (xb:zc->zc->Option Bool) (xc:zb->zb->Option Bool) (xm:(List zb)->(List zb)->Option Bool) (xn:(List zc)->(List zc)->Option Bool) (s1:List zb) (s2:List zb):Option Bool:=if ((s1.length:Int) !=(s2.length:Int)) then some false else (zC xc s1 s2 0>>=fun q=>match q with | .inl u=>(some true) | .inr u2=>(some false))
def zv (xb:zc->zc->Option Bool) (s1:List zc) (s2:List zc) (v:Int):Option (Int⊕(Unit⊕Unit)):=if (decide (v<(s1.length:Int))) then (idx s1 v>>=fun x=>idx s2 v>>=fun x2=>xb x x2>>=fun rv=>if (!rv) then some (.inr (.inr ())) else some (.inl (i64.wrap (v+1)))) else some (.inr (.inl ()))
def zL (xb:zc->zc->Option Bool) (s1:List zc) (s2:List zc) (v:Int):Option (Unit⊕Unit):=zaE (fun s:Int=>zv xb s1 s2 s) v
def zS (xb:zc->zc->Option Bool) (xc:zb->zb->Option Bool) (xm:(List zb)->(List zb)->Option Bool) (xn:(List zc)->(List zc)->Option Bool) (s1:List zc) (s2:List zc):Option Bool:=if ((s1.length:Int) !=(s2.length:Int)) then some false else (zL xb s1 s2 0>>=fun q=>match q with | .inl u=>(some true) | .inr u2=>(some false))
def zF:Nat->(zc->zc->Option Bool)×(zb->zb->Option Bool)×((List zb)->(List zb)->Option Bool)×((List zc)->(List zc)->Option Bool) | 0=>(fun _ _=>none,fun _ _=>none,fun _ _=>none,fun _ _=>none) | fuel+1=>(fun av b=>zjf (zF fuel).1 (zF fuel).2.1 (zF fuel).2.2.1 (zF fuel).2.2.2 av b,fun v wv=>zfo (zF fuel).1 (zF fuel).2.1 (zF fuel).2.2.1 (zF fuel).2.2.2 v wv,fun s1 s2=>zK (zF fuel).1 (zF fuel).2.1 (zF fuel).2.2.1 (zF fuel).2.2.2 s1 s2,fun s1 s2=>zS (zF fuel).1 (zF fuel).2.1 (zF fuel).2.2.1 (zF fuel).2.2.2 s1 s2)
def zfn (fuel:Nat):zc->zc->Option Bool:=(zF fuel).1
def zcV (fuel:Nat):zb->zb->Option Bool:=(zF fuel).2.1
def zD (fuel:Nat):(List zb)->(List zb)->Option Bool:=(zF fuel).2.2.1
def zO (fuel:Nat):(List zc)->(List zc)->Option Bool:=(zF fuel).2.2.2
theorem zbw (h:zp xc s1 s2 v=some (.inl v')):zC xc s1 s2 v=zC xc s1 s2 v':=zY (body:=fun s:Int=>zp xc s1 s2 s) h
theorem zaz (h:zp xc s1 s2 v=some (.inr wg)):zC xc s1 s2 v=some wg:=zZ (body:=fun s:Int=>zp xc s1 s2 s) h
theorem zbW (h:zv xb s1 s2 v=some (.inl v')):zL xb s1 s2 v=zL xb s1 s2 v':=zY (body:=fun s:Int=>zv xb s1 s2 s) h
theorem zaO (h:zv xb s1 s2 v=some (.inr wg)):zL xb s1 s2 v=some wg:=zZ (body:=fun s:Int=>zv xb s1 s2 s) h
def ziy (fuel:Nat) (av:zc) (b:zc):Option Bool:=(zjY fuel av>>=fun rv=>if rv then (zfn fuel av b>>=fun vY=>some vY) else some false)>>=fun g=>some g
def zke (fuel:Nat) (sv:List zd) (root:Int) (x:zc):Option Int:=zix fuel sv root x>>=fun rv=>if rv then some 0 else (zgr sv>>=fun vY=>if (!vY) then some 9 else (if ((decide (root<0))|| (decide (root>=(sv.length:Int)))) then some 2 else some 12))
def zkg (k:Int):Option Int:=zhj k 0>>=fun rv=>if (rv==4) then some 5 else if (rv==8) then some 1 else some 0
def zkf (number:Int) (size:Int):Option (List UInt8):=zkt ([]:List UInt8) number ([]:List UInt8)>>=fun rv=>ziv 4 (u64.wrap size)>>=fun vY=>cut rv 0 (i64.wrap ((rv.length:Int) - 1))>>=fun v=>app 1 v vY.1>>=fun v2=>some v2
def zbK (wv:zk) (b:List UInt8):Option zk:=app 24 wv.pieces ([b]:List (List UInt8))>>=fun v=>some (⟨v,(i64.wrap (wv.size+(b.length:Int)))⟩:zk)
def zbP (wv:zk) (number:Int) (wire:Int) (value:List UInt8):Option zk:=zir ([]:List UInt8) number wire value>>=fun rv=>zbK wv rv.1>>=fun vY=>some vY
def zej (wv:zk) (f:za) (l:List Int):Option zk:=znP f.Kind l>>=fun rv=>if f.Repeated then (zbP wv f.Number 2 rv.1>>=fun vY=>some vY) else zkg f.Kind>>=fun wd=>zbP wv f.Number wd rv.1>>=fun rv4=>some rv4
def zaU (xf:zk->(List zd)->za->zb->Option zk) (sv:List zd) (x:zc) (x2:zd) (v:Int) (f:List (List UInt8)) (f2:Int):Option ((Int×(List (List UInt8))×Int)⊕((List (List UInt8))×Int)):=if (decide (v<(x.Values.length:Int))) then (idx x.Values v>>=fun x3=>zdc x2 x3.Number>>=fun rv=>idx x2.Fields rv.1>>=fun x4=>xf (⟨f,f2⟩:zk) sv x4 x3>>=fun vY=>some (.inl ((i64.wrap (v+1)),vY.pieces,vY.size))) else some (.inr (f,f2))
def zbT (xf:zk->(List zd)->za->zb->Option zk) (sv:List zd) (x:zc) (x2:zd) (v:Int) (f:List (List UInt8)) (f2:Int):Option ((List (List UInt8))×Int):=zaE (fun s:(Int×(List (List UInt8))×Int)=>zaU xf sv x x2 s.1 s.2.1 s.2.2) (v,f,f2)
def zaV (x:zc) (v2:Int) (f5:List (List UInt8)) (f6:Int):Option ((Int×(List (List UInt8))×Int)⊕((List (List UInt8))×Int)):=if (decide (v2<(x.Unknown.length:Int))) then (idx x.Unknown v2>>=fun x5=>lenO x5>>=fun v3=>zbK (⟨f5,f6⟩:zk) v3>>=fun wd=>some (.inl ((i64.wrap (v2+1)),wd.pieces,wd.size))) else some (.inr (f5,f6))
def zbU (x:zc) (v2:Int) (f5:List (List UInt8)) (f6:Int):Option ((List (List UInt8))×Int):=zaE (fun s:(Int×(List (List UInt8))×Int)=>zaV x s.1 s.2.1 s.2.2) (v2,f5,f6)
def zcM (xp:zk->(List zd)->Int->zc->Option zk) (xe:zk->(List zd)->za->zc->Option zk) (xf:zk->(List zd)->za->zb->Option zk) (wv:zk) (sv:List zd) (message:Int) (x:zc):Option zk:=idx sv message>>=fun x2=>zbT xf sv x x2 0 wv.pieces wv.size>>=fun q=>zbU x 0 q.1 q.2>>=fun q2=>some (⟨q2.1,q2.2⟩:zk)
def zei (xp:zk->(List zd)->Int->zc->Option zk) (xe:zk->(List zd)->za->zc->Option zk) (xf:zk->(List zd)->za->zb->Option zk) (wv:zk) (sv:List zd) (f:za) (x:zc):Option zk:=zbK wv ([]:List UInt8)>>=fun rv=>xp rv sv f.Of x>>=fun vY=>zkf f.Number (i64.wrap (vY.size - wv.size))>>=fun wd=>idx vY.pieces (wv.pieces.length:Int)>>=fun x2=>idx (vY.pieces.set (Int.toNat (wv.pieces.length:Int)) wd) (wv.pieces.length:Int)>>=fun x3=>some (⟨(vY.pieces.set (Int.toNat (wv.pieces.length:Int)) wd),(i64.wrap (vY.size+(x3.length:Int)))⟩:zk)
def zbh (f:za) (v:zb) (v2:Int) (f4:List (List UInt8)) (f5:Int):Option ((Int×(List (List UInt8))×Int)⊕((List (List UInt8))×Int)):=if (decide (v2<(v.Texts.length:Int))) then (idx v.Texts v2>>=fun x=>lenO x>>=fun v3=>zbP (⟨f4,f5⟩:zk) f.Number 2 v3>>=fun vY=>some (.inl ((i64.wrap (v2+1)),vY.pieces,vY.size))) else some (.inr (f4,f5))
def zco (f:za) (v:zb) (v2:Int) (f4:List (List UInt8)) (f5:Int):Option ((List (List UInt8))×Int):=zaE (fun s:(Int×(List (List UInt8))×Int)=>zbh f v s.1 s.2.1 s.2.2) (v2,f4,f5)
def zbi (f:za) (xe:zk->(List zd)->za->zc->Option zk) (sv:List zd) (v:zb) (v4:Int) (f8:List (List UInt8)) (f9:Int):Option ((Int×(List (List UInt8))×Int)⊕((List (List UInt8))×Int)):=if (decide (v4<(v.Subs.length:Int))) then (idx v.Subs v4>>=fun x2=>xe (⟨f8,f9⟩:zk) sv f x2>>=fun wd=>some (.inl ((i64.wrap (v4+1)),wd.pieces,wd.size))) else some (.inr (f8,f9))
def zcp (f:za) (xe:zk->(List zd)->za->zc->Option zk) (sv:List zd) (v:zb) (v4:Int) (f8:List (List UInt8)) (f9:Int):Option ((List (List UInt8))×Int):=zaE (fun s:(Int×(List (List UInt8))×Int)=>zbi f xe sv v s.1 s.2.1 s.2.2) (v4,f8,f9)
def zdw (xp:zk->(List zd)->Int->zc->Option zk) (xe:zk->(List zd)->za->zc->Option zk) (xf:zk->(List zd)->za->zb->Option zk) (wv:zk) (sv:List zd) (f:za) (v:zb):Option zk:=((if (decide ((v.Words.length:Int)>0)) then (zej wv f v.Words>>=fun rv=>some (rv.pieces,rv.size)) else (some (wv.pieces,wv.size)) :Option ((List (List UInt8))×Int)))>>=fun p=>zco f v 0 p.1 p.2>>=fun q=>zcp f xe sv v 0 q.1 q.2>>=fun q2=>some (⟨q2.1,q2.2⟩:zk)
def zI:Nat->(zk->(List zd)->Int->zc->Option zk)×(zk->(List zd)->za->zc->Option zk)×(zk->(List zd)->za->zb->Option zk) | 0=>(fun _ _ _ _=>none,fun _ _ _ _=>none,fun _ _ _ _=>none) | fuel+1=>(fun wv sv message x=>zcM (zI fuel).1 (zI fuel).2.1 (zI fuel).2.2 wv sv message x,fun wv sv f x=>zei (zI fuel).1 (zI fuel).2.1 (zI fuel).2.2 wv sv f x,fun wv sv f v=>zdw (zI fuel).1 (zI fuel).2.1 (zI fuel).2.2 wv sv f v)
def zbq (fuel:Nat):zk->(List zd)->Int->zc->Option zk:=(zI fuel).1
def zdl (fuel:Nat):zk->(List zd)->za->zc->Option zk:=(zI fuel).2.1
def zcv (fuel:Nat):zk->(List zd)->za->zb->Option zk:=(zI fuel).2.2
theorem zjx {xf:zk->(List zd)->za->zb->Option zk} {sv:List zd} {x:zc} {x2:zd} {v:Int} {f:List (List UInt8)} {f2:Int} {v':Int} {f':List (List UInt8)} {f2':Int} (h:zaU xf sv x x2 v f f2=some (.inl (v',f',f2'))):zbT xf sv x x2 v f f2=zbT xf sv x x2 v' f' f2':=zY (body:=fun s:(Int×(List (List UInt8))×Int)=>zaU xf sv x x2 s.1 s.2.1 s.2.2) h
theorem zjy {xf:zk->(List zd)->za->zb->Option zk} {sv:List zd} {x:zc} {x2:zd} {v:Int} {f:List (List UInt8)} {f2:Int} {wg:((List (List UInt8))×Int)} (h:zaU xf sv x x2 v f f2=some (.inr wg)):zbT xf sv x x2 v f f2=some wg:=zZ (body:=fun s:(Int×(List (List UInt8))×Int)=>zaU xf sv x x2 s.1 s.2.1 s.2.2) h
theorem zjz {x:zc} {v2:Int} {f5:List (List UInt8)} {f6:Int} {v2':Int} {f5':List (List UInt8)} {f6':Int} (h:zaV x v2 f5 f6=some (.inl (v2',f5',f6'))):zbU x v2 f5 f6=zbU x v2' f5' f6':=zY (body:=fun s:(Int×(List (List UInt8))×Int)=>zaV x s.1 s.2.1 s.2.2) h
theorem zjA {x:zc} {v2:Int} {f5:List (List UInt8)} {f6:Int} {wg:((List (List UInt8))×Int)} (h:zaV x v2 f5 f6=some (.inr wg)):zbU x v2 f5 f6=some wg:=zZ (body:=fun s:(Int×(List (List UInt8))×Int)=>zaV x s.1 s.2.1 s.2.2) h
theorem zkK {f:za} {v:zb} {v2:Int} {f4:List (List UInt8)} {f5:Int} {v2':Int} {f4':List (List UInt8)} {f5':Int} (h:zbh f v v2 f4 f5=some (.inl (v2',f4',f5'))):zco f v v2 f4 f5=zco f v v2' f4' f5':=zY (body:=fun s:(Int×(List (List UInt8))×Int)=>zbh f v s.1 s.2.1 s.2.2) h
theorem zkL {f:za} {v:zb} {v2:Int} {f4:List (List UInt8)} {f5:Int} {wg:((List (List UInt8))×Int)} (h:zbh f v v2 f4 f5=some (.inr wg)):zco f v v2 f4 f5=some wg:=zZ (body:=fun s:(Int×(List (List UInt8))×Int)=>zbh f v s.1 s.2.1 s.2.2) h
theorem zkM {f:za} {xe:zk->(List zd)->za->zc->Option zk} {sv:List zd} {v:zb} {v4:Int} {f8:List (List UInt8)} {f9:Int} {v4':Int} {f8':List (List UInt8)} {f9':Int} (h:zbi f xe sv v v4 f8 f9=some (.inl (v4',f8',f9'))):zcp f xe sv v v4 f8 f9=zcp f xe sv v v4' f8' f9':=zY (body:=fun s:(Int×(List (List UInt8))×Int)=>zbi f xe sv v s.1 s.2.1 s.2.2) h
theorem zkN {f:za} {xe:zk->(List zd)->za->zc->Option zk} {sv:List zd} {v:zb} {v4:Int} {f8:List (List UInt8)} {f9:Int} {wg:((List (List UInt8))×Int)} (h:zbi f xe sv v v4 f8 f9=some (.inr wg)):zcp f xe sv v v4 f8 f9=some wg:=zZ (body:=fun s:(Int×(List (List UInt8))×Int)=>zbi f xe sv v s.1 s.2.1 s.2.2) h
def zdk (wv:Option zk):Option (List UInt8):=wv>>=fun x=>zax x.pieces>>=fun rv=>some rv
def zft (fuel:Nat) (sv:List zd) (root:Int) (x:zc):Option ((List UInt8)×Int):=zke fuel sv root x>>=fun rv=>if (rv !=0) then some ([],rv) else zbq fuel (⟨[],0⟩:zk) sv root x>>=fun vY=>zdk (some vY)>>=fun wd=>some (wd,0)
def zng (fuel:Nat) (sv:List zd) (root:Int) (b:List UInt8):Option Bool:=zoM fuel sv root b 64>>=fun rv=>if (rv.2 !=0) then some false else zbq fuel (⟨[],0⟩:zk) sv root rv.1>>=fun vY=>zdk (some vY)>>=fun wd=>zkR wd b>>=fun rv4=>some rv4
def zek (fuel:Nat):Option Bool:=zft fuel ([(⟨[109],([(⟨[97],1,3,true,false,0⟩:za)]:List za)⟩:zd)]:List zd) 0 (⟨([(⟨1,([1,300]:List Int),[],[]⟩:zb)]:List zb),[]⟩:zc)>>=fun rv=>(if ((i64.wrap rv.2)==0) then (zeF rv.1 ([(10:UInt8),(3:UInt8),(1:UInt8),(172:UInt8),(2:UInt8)]:List UInt8)>>=fun vY=>some vY) else some false)>>=fun g=>some g
def zcA (fuel:Nat) (sv:List zd) (root:Int) (x:zc) (y:zc):Option Bool:=zek fuel>>=fun rv=>if (!rv) then some false else ((zfd sv>>=fun vY=>if (!vY) then some true else zbe fuel x 70>>=fun wd=>if (decide (wd>2000)) then some true else zbe fuel y 70>>=fun rv4=>if (decide (rv4>2000)) then some true else zgj fuel x>>=fun rv5=>some (decide (rv5>64)))>>=fun g=>if g then some true else (zft fuel sv root x>>=fun rv6=>zft fuel sv root y>>=fun rv7=>if (((i64.wrap rv6.2) !=0)|| ((i64.wrap rv7.2) !=0)) then some true else zgj fuel x>>=fun rv8=>zoM fuel sv root rv6.1 rv8>>=fun rv9=>(if ((i64.wrap rv9.2)==0) then (ziy fuel rv9.1 x>>=fun rv10=>if rv10 then (zng fuel sv root rv6.1>>=fun rv11=>if rv11 then (zeF rv6.1 rv7.1>>=fun rv12=>ziy fuel x y>>=fun rv13=>some (rv12==rv13)) else some false) else some false) else some false)>>=fun g2=>some g2))
end
end Go.Proofs.YtkgohoggipdokaaGreat
