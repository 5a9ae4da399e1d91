/-
  What the Go functions do, as plain functions. No condition.
-/
import Derived.Test.Ytnckiilakdkklaax1K2
set_option autoImplicit true
set_option relaxedAutoImplicit true
namespace Go.Proofs.Ytnckiilakdkklaa
open Go.IntKind (i32 i64 u32 u64)
open Go
set_option linter.unusedVariables false
abbrev Str:=List UInt8
structure zyD where
  a0:Str
  a1:Str
  a2:Str
  a3:Str
  a4:Str
  a5:Str
  a6:Str
  a7:Str
  a8:Str
  a9:Str
  a10:Str
  a11:Str
  a12:Str
  a13:Str
  a14:Str deriving DecidableEq
structure zi where
  Number:Int
  Wire:Int
  From:Int
  At:Int
  To:Int deriving DecidableEq
def zO:Rp zi:=⟨5,true,fun x=>[.int .i64 x.Number,.int .i64 x.Wire,.int .i64 x.From,.int .i64 x.At,.int .i64 x.To],fun _=>rfl,by decide⟩
structure za where
  Record:zi
  Field:Int
  Run:Bool deriving DecidableEq
def zc:Rp za:=⟨7,true,fun x=>[.int .i64 x.Record.Number,.int .i64 x.Record.Wire,.int .i64 x.Record.From,.int .i64 x.Record.At,.int .i64 x.Record.To,.int .i64 x.Field,.bool x.Run],fun _=>rfl,by decide⟩
structure zj where
  name:Str
  wire:Int deriving DecidableEq
def zM:Rp zj:=⟨2,true,fun x=>[.str x.name,.int .i64 x.wire],fun _=>rfl,by decide⟩
mutual
structure zfL where
  Values:(List zcN)
  Unknown:(List Str)
structure zcN where
  Number:Int
  Words:(List Int)
  Texts:(List Str)
  Subs:(List zfL)
end
structure zd where
  Name:Str
  Number:Int
  Kind:Int
  Repeated:Bool
  Packed:Bool
  Of:Int deriving DecidableEq
def zb:Rp zd:=⟨6,true,fun x=>[.str x.Name,.int .i64 x.Number,.int .i64 x.Kind,.bool x.Repeated,.bool x.Packed,.int .i64 x.Of],fun _=>rfl,by decide⟩
structure zh where
  Name:Str
  Fields:(List zd) deriving DecidableEq
def zg:Rp zh:=⟨2,true,fun x=>[.str x.Name,.sl x.Fields.length zb.size (x.Fields.flatMap zb.lv)],fun _=>rfl,by decide⟩
structure zad where
  Number:Int
  Wire:Int deriving DecidableEq
def zbK:Rp zad:=⟨2,true,fun x=>[.int .i64 x.Number,.int .i64 x.Wire],fun _=>rfl,by decide⟩
structure zk where
  message:Int
  name:Str deriving DecidableEq
def zp:Rp zk:=⟨2,true,fun x=>[.int .i64 x.message,.str x.name],fun _=>rfl,by decide⟩
structure zm where
  message:Int
  number:Int deriving DecidableEq
def zq:Rp zm:=⟨2,true,fun x=>[.int .i64 x.message,.int .i64 x.number],fun _=>rfl,by decide⟩
structure zQ where
  size:Int
  kinds:(List Int)
  names:(List (zk×Bool))
  numbers:(List (zm×Bool))
structure zP where
  Message:Int
  Field:Int
  What:Int deriving DecidableEq
def zba:Rp zP:=⟨3,true,fun x=>[.int .i64 x.Message,.int .i64 x.Field,.int .i64 x.What],fun _=>rfl,by decide⟩
structure zt where
  number:Int
  wire:Int deriving DecidableEq
def zA:Rp zt:=⟨2,true,fun x=>[.int .i64 x.number,.int .i64 x.wire],fun _=>rfl,by decide⟩
structure zv where
  field:Int
  run:Bool
  e:Int deriving DecidableEq
def zC:Rp zv:=⟨3,true,fun x=>[.int .i64 x.field,.bool x.run,.int .u8 x.e],fun _=>rfl,by decide⟩
structure zmZ where
  R:zi
  Field:Int
  Run:Bool deriving DecidableEq
structure ze where
  message:Int
  number:Int
  wire:Int deriving DecidableEq
def zf:Rp ze:=⟨3,true,fun x=>[.int .i64 x.message,.int .i64 x.number,.int .i64 x.wire],fun _=>rfl,by decide⟩
structure zI where
  s:(List zh)
  b:(List UInt8)
  met:(List (ze×za))
structure zn where
  depth:Int
  place:Int
  e:Int deriving DecidableEq
def zL:Rp zn:=⟨3,true,fun x=>[.int .i64 x.depth,.int .i64 x.place,.int .u8 x.e],fun _=>rfl,by decide⟩
structure zyE where
  a0:Int
  a1:Int deriving DecidableEq
structure zvy where
  pieces:(List (List UInt8))
  size:Int deriving DecidableEq
noncomputable section
def zay (n:Int):Option (List UInt8):=if (decide (n<0)) then none else if (decide ((i64.wrap (n - (i64.wrap (0 - 0))))>0)) then (mkO 1 (0:UInt8) (i64.wrap (n - (i64.wrap (0 - 0)))) (i64.wrap (n - (i64.wrap (0 - 0))))>>=fun v=>cut v 0 0>>=fun v2=>some v2) else some []
def zR (uH:List (List UInt8)) (size:Int) (v:Int):Option ((Int×Int)⊕Int):=if (decide (v<(uH.length:Int))) then (idx uH v>>=fun x=>if (decide ((i64.wrap (size+(x.length:Int)))<0)) then none else some (.inl ((i64.wrap (size+(x.length:Int))),(i64.wrap (v+1))))) else some (.inr size)
def zab (uH:List (List UInt8)) (size:Int) (v:Int):Option Int:=zar (fun s=>zR uH s.1 s.2) (size,v)
def zS (uH:List (List UInt8)) (uJ:List UInt8) (v2:Int):Option (((List UInt8)×Int)⊕(List UInt8)):=if (decide (v2<(uH.length:Int))) then (idx uH v2>>=fun x2=>app 1 uJ x2>>=fun v3=>some (.inl (v3,(i64.wrap (v2+1))))) else some (.inr uJ)
def zac (uH:List (List UInt8)) (uJ:List UInt8) (v2:Int):Option (List UInt8):=zar (fun s=>zS uH s.1 s.2) (uJ,v2)
def zah (uH:List (List UInt8)):Option (List UInt8):=zab uH 0 0>>=fun q=>zay q>>=fun rv=>zac uH rv 0>>=fun q2=>some q2
theorem zdn (h:zR uH size v=some (.inl (size',v'))):zab uH size v=zab uH size' v':=zak h
theorem zdo (h:zR uH size v=some (.inr oo_)):zab uH size v=some oo_:=zal h
theorem zdp (h:zS uH uJ v2=some (.inl (newslice',v2'))):zac uH uJ v2=zac uH newslice' v2':=zak h
theorem zdq (h:zS uH uJ v2=some (.inr oo_)):zac uH uJ v2=some oo_:=zal h
def zZ (sv:List Int) (v:Int) (v2:Int):Option (Int⊕(Unit⊕Int)):=if (decide (v2<(sv.length:Int))) then (idx sv v2>>=fun x=>if (v==x) then some (.inr (.inr v2)) else some (.inl (i64.wrap (v2+1)))) else some (.inr (.inl ()))
def zai (sv:List Int) (v:Int) (v2:Int):Option (Unit⊕Int):=zar (fun s=>zZ sv v s) v2
def zaD (sv:List Int) (v:Int):Option Int:=zai sv v 0>>=fun q=>match q with | .inl u=>(some (-1)) | .inr u2=>(some u2)
theorem zdV (h:zZ sv v v2=some (.inl v2')):zai sv v v2=zai sv v v2':=zak h
theorem zbR (h:zZ sv v v2=some (.inr oo_)):zai sv v v2=some oo_:=zal h
def zap (sv:List Int) (v:Int):Option Bool:=zaD sv v>>=fun rv=>some (decide (rv>=0))
def zcA (wv2:Int) (n:Int):Option ((Int×Int)⊕Int):=if (wv2 !=0) then some (.inl ((shrI .u64 wv2 7),(i64.wrap (n+1)))) else some (.inr n)
def zdb (wv2:Int) (n:Int):Option Int:=zar (fun s=>zcA s.1 s.2) (wv2,n)
def zhf (wv:Int):Option Int:=zdb (shrI .u64 wv 7) 1>>=fun q=>some q
theorem zkV (h:zcA wv2 n=some (.inl (wv2',n'))):zdb wv2 n=zdb wv2' n':=zak h
theorem zkW (h:zcA wv2 n=some (.inr oo_)):zdb wv2 n=some oo_:=zal h
def zdK (wv:Int):Option Int:=some (u32.wrap wv)
def zef (wv:Int):Option Int:=zdK wv>>=fun rv=>some (i32.wrap rv)
def zeg (n:Int):Option Int:=some (u64.wrap (i64.wrap n))
def zav (av:List UInt8) (b:List UInt8):Option Bool:=some (av==b)
def zbj (v:List UInt8) (wv:Int) (v2:Int):Option ((Int×Int)⊕(Unit⊕(Int×Int×Int))):=if (decide (v2<(v.length:Int))) then (idx v v2>>=fun x=>if ((v2==9)&&(decide ((x.toNat:Int)>1))) then some (.inr (.inr (0,0,4))) else shlO .u64 (u64.wrap (andI .u8 (x.toNat:Int) 127)) (i64.wrap (7*v2))>>=fun v4=>if (decide ((x.toNat:Int)<128)) then some (.inr (.inr ((orI .u64 wv v4),(i64.wrap (v2+1)),0))) else some (.inl ((orI .u64 wv v4),(i64.wrap (v2+1))))) else some (.inr (.inl ()))
def zbT (v:List UInt8) (wv:Int) (v2:Int):Option (Unit⊕(Int×Int×Int)):=zar (fun s=>zbj v s.1 s.2) (wv,v2)
def zcH (b:List UInt8):Option (Int×Int×Int):=cut b 0 (if (10:Int)<(b.length:Int) then 10 else (b.length:Int))>>=fun v=>zbT v 0 0>>=fun q=>match q with | .inl u=>(some (0,0,3)) | .inr u2=>(some (u2.1,u2.2.1,u2.2.2))
theorem zja (h:zbj v wv v2=some (.inl (wv',v2'))):zbT v wv v2=zbT v wv' v2':=zak h
theorem zda (h:zbj v wv v2=some (.inr oo_)):zbT v wv v2=some oo_:=zal h
def zdl (b:List UInt8):Option (Int×Int):=zcH b>>=fun rv=>some (rv.2.1,rv.2.2)
def zcT (wire:Int):Option Bool:=if (wire==0) then if (wire==0) then some true else (some false) else if (wire==1) then if (wire==1) then some true else (some false) else if (wire==2) then if (wire==2) then some true else (some false) else if (wire==5) then some true else some false
def zgh (t:zad):Option Bool:=(if (decide (t.Number>=1)) then (if (decide (t.Number<=536870911)) then (zcT t.Wire>>=fun rv=>some rv) else some false) else some false)>>=fun g=>some g
def zhK (b:List UInt8):Option (zad×Int×Int):=zcH b>>=fun rv=>if (rv.2.2 !=0) then some ((⟨0,0⟩:zad),0,rv.2.2) else (zgh (⟨(i64.wrap (if (536870912:Int)<(shrI .u64 rv.1 3) then 536870912 else shrI .u64 rv.1 3)),(i64.wrap (andI .u64 rv.1 7))⟩:zad)>>=fun uv=>if (!uv) then some ((⟨0,0⟩:zad),0,5) else (some ((⟨(i64.wrap (if (536870912:Int)<(shrI .u64 rv.1 3) then 536870912 else shrI .u64 rv.1 3)),(i64.wrap (andI .u64 rv.1 7))⟩:zad),rv.2.1,0)))
def zjS (c:Int):Option (Int×Int):=if ((shrI .u8 c 7)==0) then some (1,(u32.wrap c)) else if ((shrI .u8 c 5)==6) then some (2,(u32.wrap (andI .u8 c 31))) else if ((shrI .u8 c 4)==14) then some (3,(u32.wrap (andI .u8 c 15))) else if ((shrI .u8 c 3)==30) then some (4,(u32.wrap (andI .u8 c 7))) else some (0,0)
def zgm (wv:Int):Option Int:=if ((shrI .u32 wv 7)==0) then some 1 else if ((shrI .u32 wv 11)==0) then some 2 else if ((shrI .u32 wv 11)==27) then some 0 else if ((shrI .u32 wv 16)==0) then some 3 else if (decide (wv<=1114111)) then some 4 else some 0
def zbV (v2:List UInt8) (wv:Int) (v3:Int):Option ((Int×Int)⊕(Int⊕Unit)):=if (decide (v3<(v2.length:Int))) then (idx v2 v3>>=fun x2=>if ((shrI .u8 (x2.toNat:Int) 6) !=2) then some (.inr (.inr ())) else some (.inl ((orI .u32 (shlI .u32 wv 6) (u32.wrap (andI .u8 (x2.toNat:Int) 63))),(i64.wrap (v3+1))))) else some (.inr (.inl wv))
def zax (v2:List UInt8) (wv:Int) (v3:Int):Option (Int⊕Unit):=zar (fun s=>zbV v2 s.1 s.2) (wv,v3)
def zgl (b:List UInt8):Option Int:=if ((b.length:Int)==0) then some 0 else (idx b 0>>=fun x=>zjS (x.toNat:Int)>>=fun rv=>if ((rv.1==0)|| (decide (rv.1>(b.length:Int)))) then some 0 else (cut b 1 rv.1>>=fun v2=>zax v2 rv.2 0>>=fun q=>match q with | .inl u=>(zgm u>>=fun uv=>if (rv.1 !=uv) then some 0 else some rv.1) | .inr u2=>(some 0)))
theorem zlc (h:zbV v2 wv v3=some (.inl (wv',v3'))):zax v2 wv v3=zax v2 wv' v3':=zak h
theorem zgQ (h:zbV v2 wv v3=some (.inr oo_)):zax v2 wv v3=some oo_:=zal h
def zcF (b:List UInt8) (atv:Int) (points:Int) (size:Int):Option ((Int×Int×Int)⊕(Int×Int)):=if (decide (size>0)) then (cut b (i64.wrap (atv+size)) (b.length:Int)>>=fun v=>zgl v>>=fun uv=>some (.inl ((i64.wrap (atv+size)),(i64.wrap (points+1)),uv))) else some (.inr (atv,points))
def zcG (b:List UInt8) (atv:Int) (points:Int) (size:Int):Option (Int×Int):=zar (fun s=>zcF b s.1 s.2.1 s.2.2) (atv,points,size)
def zhN (b:List UInt8):Option (Int×Int):=zgl b>>=fun rv=>zcG b 0 0 rv>>=fun q=>some (q.1,q.2)
theorem zld (h:zcF b atv points size=some (.inl (atv',points',size'))):zcG b atv points size=zcG b atv' points' size':=zak h
theorem zle (h:zcF b atv points size=some (.inr oo_)):zcG b atv points size=some oo_:=zal h
def zgj (b:List UInt8):Option Int:=zhN b>>=fun rv=>some rv.1
def zgk (b:List UInt8):Option Bool:=zgj b>>=fun rv=>some (rv==(b.length:Int))
def zen (wire:Int) (b:List UInt8):Option (Int×Int×Int):=if (wire==0) then (zdl b>>=fun rv=>some (0,rv.1,rv.2)) else (((if (wire==1) then some (0,0,8) else (if (wire==5) then some (0,0,4) else if (wire==2) then (zcH b>>=fun uv=>some (uv.2.1,uv.2.2,uv.1)) else some (0,0,0)) :Option (Int×Int×Int)))>>=fun p=>if (p.2.1 !=0) then some (0,0,p.2.1) else if (decide (p.2.2>(u64.wrap (i64.wrap ((b.length:Int) - p.1))))) then some (0,0,3) else some (p.1,(i64.wrap (p.1+(i64.wrap p.2.2))),0))
def zdj (b:List UInt8) (uG:Int):Option (zi×Int):=if ((decide (uG<0))|| (decide (uG>=(b.length:Int)))) then some ((⟨0,0,0,0,0⟩:zi),2) else (cut b uG (b.length:Int)>>=fun v2=>zhK v2>>=fun rv=>if (rv.2.2 !=0) then some ((⟨0,0,0,0,0⟩:zi),rv.2.2) else (cut b (i64.wrap (uG+rv.2.1)) (b.length:Int)>>=fun v3=>zen rv.1.Wire v3>>=fun uv=>if (uv.2.2 !=0) then some ((⟨0,0,0,0,0⟩:zi),uv.2.2) else (some ((⟨rv.1.Number,rv.1.Wire,uG,(i64.wrap ((i64.wrap (uG+rv.2.1))+uv.1)),(i64.wrap ((i64.wrap (uG+rv.2.1))+uv.2.1))⟩:zi),0))))
def zgx (wv:Int):Option Int:=some (if (1:Int)<wv then 1 else wv)
def zeU (k:Int) (wv:Int):Option (Int×Int):=((if (k==1) then some (k==1) else (some (k==8)) :Option Bool))>>=fun p=>if p then (zef wv>>=fun rv=>zeg rv>>=fun uv=>some (uv,0)) else ((if (k==3) then some (k==3) else (if (k==5) then some (k==5) else if (k==9) then some (k==9) else if (k==10) then some (k==10) else some (k==11)) :Option Bool))>>=fun p2=>if p2 then (zdK wv>>=fun uC=>some ((u64.wrap uC),0)) else if (k==7) then (zgx wv>>=fun rv4=>some (rv4,0)) else ((if (k==2) then some (k==2) else (if (k==4) then some (k==4) else if (k==6) then some (k==6) else if (k==12) then some (k==12) else if (k==13) then some (k==13) else some (k==14)) :Option Bool))>>=fun p3=>if p3 then some (wv,0) else some (0,2)
def zeV:Option (List (Int×zj)):=some (mput (mput (mput (mput (mput (mput (mput (mput (mput (mput (mput (mput (mput (mput (mput (mput (mput ([]:List (Int×zj)) 1 (⟨[105,110,116,51,50],0⟩:zj)) 2 (⟨[105,110,116,54,52],0⟩:zj)) 3 (⟨[117,105,110,116,51,50],0⟩:zj)) 4 (⟨[117,105,110,116,54,52],0⟩:zj)) 5 (⟨[115,105,110,116,51,50],0⟩:zj)) 6 (⟨[115,105,110,116,54,52],0⟩:zj)) 7 (⟨[98,111,111,108],0⟩:zj)) 8 (⟨[101,110,117,109],0⟩:zj)) 9 (⟨[102,105,120,101,100,51,50],5⟩:zj)) 10 (⟨[115,102,105,120,101,100,51,50],5⟩:zj)) 11 (⟨[102,108,111,97,116],5⟩:zj)) 12 (⟨[102,105,120,101,100,54,52],1⟩:zj)) 13 (⟨[115,102,105,120,101,100,54,52],1⟩:zj)) 14 (⟨[100,111,117,98,108,101],1⟩:zj)) 15 (⟨[115,116,114,105,110,103],2⟩:zj)) 16 (⟨[98,121,116,101,115],2⟩:zj)) 17 (⟨[109,101,115,115,97,103,101],2⟩:zj))
def zhq:Option (List Int):=zeV>>=fun rv=>zpR rv>>=fun v=>some v
def zeI (k:Int):Option (Int×Int):=zeV>>=fun rv=>if (!(mget rv k).isSome) then some (0,2) else some (((mget rv k).getD (⟨[],0⟩:zj)).wire,0)
def zde (k:Int):Option Bool:=zeI k>>=fun rv=>some ((rv.2==0)&&(rv.1 !=2))
def zbQ (c:Int):Option Bool:=some ((decide (c>=48))&&(decide (c<=57)))
def zcl (c:Int):Option Bool:=some (if (decide (c>=97)) then (decide (c<=122))|| (if (decide (c>=65)) then (decide (c<=90))|| (c==95) else c==95) else (if (decide (c>=65)) then (decide (c<=90))|| (c==95) else c==95))
def zaY (name:Str) (v2:Int):Option (Int⊕(Unit⊕Unit)):=if (decide (v2<(name.length:Int))) then ((idx name v2>>=fun c2=>zcl (c2.toNat:Int)>>=fun uv=>if (!uv) then (idx name v2>>=fun c3=>zbQ (c3.toNat:Int)>>=fun uC=>some (!uC)) else some false)>>=fun g2=>if g2 then some (.inr (.inr ())) else some (.inl (i64.wrap (v2+1)))) else some (.inr (.inl ()))
def zbv (name:Str) (v2:Int):Option (Unit⊕Unit):=zar (fun s=>zaY name s) v2
def zcs (name:Str):Option Bool:=(if (name==[]) then some true else if (decide ((name.length:Int)>60)) then some true else idx name 0>>=fun c=>zbQ (c.toNat:Int)>>=fun rv=>some rv)>>=fun g=>if g then some false else (zbv name 0>>=fun q=>match q with | .inl u=>(some true) | .inr u2=>(some false))
theorem zhI (h:zaY name v2=some (.inl v2')):zbv name v2=zbv name v2':=zak h
theorem zep (h:zaY name v2=some (.inr oo_)):zbv name v2=some oo_:=zal h
def zcm (n:Int):Option Bool:=some ((decide (n>=1))&&((decide (n<=536870911))&&((decide (n<19000))|| (decide (n>19999)))))
def zcD (f:zd):Option Bool:=(if f.Repeated then (zde f.Kind>>=fun rv=>some rv) else some false)>>=fun g=>some g
def zbA (c:zQ) (f:zd):Option Bool:=if (f.Kind==17) then some ((decide (f.Of>=0))&&(decide (f.Of<c.size))) else some (f.Of==0)
def zbz (c:zQ) (message:Int) (f:zd):Option (Int×(List (zk×Bool))×(List (zm×Bool))):=zcs f.Name>>=fun rv=>if (!rv) then some (5,c.names,c.numbers) else if ((mget c.names (⟨message,f.Name⟩:zk)).getD false) then some (6,c.names,c.numbers) else zcm f.Number>>=fun uv=>if (!uv) then some (7,c.names,c.numbers) else if ((mget c.numbers (⟨message,f.Number⟩:zm)).getD false) then some (8,c.names,c.numbers) else zap c.kinds f.Kind>>=fun uC=>if (!uC) then some (9,c.names,c.numbers) else (if f.Packed then (zcD f>>=fun rv4=>some (!rv4)) else some false)>>=fun g=>if g then some (10,c.names,c.numbers) else zbA c f>>=fun rv5=>if (!rv5) then some (11,c.names,c.numbers) else some (0,(mput c.names (⟨message,f.Name⟩:zk) true),(mput c.numbers (⟨message,f.Number⟩:zm) true))
def zbg (c:zQ) (m:zh):Option (Int×(List (zk×Bool))×(List (zm×Bool))):=zcs m.Name>>=fun rv=>if (!rv) then some (2,c.names,c.numbers) else if ((mget c.names (⟨(-1),m.Name⟩:zk)).getD false) then some (3,c.names,c.numbers) else if (decide ((m.Fields.length:Int)>200)) then some (4,c.names,c.numbers) else some (0,(mput c.names (⟨(-1),m.Name⟩:zk) true),c.numbers)
def zat (i:Int) (sv:List zh) (n3:Int) (k:Int):Option ((Int×Int)⊕Int):=idx sv i>>=fun x3=>if (decide (k<(x3.Fields.length:Int))) then (idx sv i>>=fun x4=>idx x4.Fields k>>=fun x5=>some (.inl ((i64.wrap (n3+(i64.wrap (Int.tdiv (x5.Name.length:Int) 100)))),(i64.wrap (k+1))))) else some (.inr n3)
def zaQ (i:Int) (sv:List zh) (n3:Int) (k:Int):Option Int:=zar (fun s=>zat i sv s.1 s.2) (n3,k)
def zas (sv:List zh) (n:Int) (i:Int):Option ((Int×Int)⊕Int):=if (decide (i<(sv.length:Int))) then (idx sv i>>=fun x=>idx sv i>>=fun x2=>zaQ i sv (i64.wrap ((i64.wrap ((i64.wrap (n+1))+(i64.wrap (Int.tdiv (x.Name.length:Int) 100))))+(x2.Fields.length:Int))) 0>>=fun q=>some (.inl (q,(i64.wrap (i+1))))) else some (.inr n)
def zaP (sv:List zh) (n:Int) (i:Int):Option Int:=zar (fun s=>zas sv s.1 s.2) (n,i)
def zbM (sv:List zh):Option Bool:=zaP sv 0 0>>=fun q2=>some (decide (q2<=500))
theorem zfO (h:zat i sv n3 k=some (.inl (n3',k'))):zaQ i sv n3 k=zaQ i sv n3' k':=zak h
theorem zfP (h:zat i sv n3 k=some (.inr oo_)):zaQ i sv n3 k=some oo_:=zal h
theorem zfM (h:zas sv n i=some (.inl (n',i'))):zaP sv n i=zaP sv n' i':=zak h
theorem zfN (h:zas sv n i=some (.inr oo_)):zaP sv n i=some oo_:=zal h
def zaz (rv:List Int) (sv:List zh) (v2:Int) (x:zh) (v3:Int) (f6:List (zk×Bool)) (f7:List (zm×Bool)):Option ((Int×(List (zk×Bool))×(List (zm×Bool)))⊕(((List (zk×Bool))×(List (zm×Bool)))⊕(Int×Int))):=if (decide (v3<(x.Fields.length:Int))) then (idx x.Fields v3>>=fun x2=>zbz (⟨(sv.length:Int),rv,f6,f7⟩:zQ) v2 x2>>=fun rv5=>if (rv5.1 !=0) then some (.inr (.inr (v3,rv5.1))) else some (.inl ((i64.wrap (v3+1)),rv5.2.1,rv5.2.2))) else some (.inr (.inl (f6,f7)))
def zaT (rv:List Int) (sv:List zh) (v2:Int) (x:zh) (v3:Int) (f6:List (zk×Bool)) (f7:List (zm×Bool)):Option (((List (zk×Bool))×(List (zm×Bool)))⊕(Int×Int)):=zar (fun s=>zaz rv sv v2 x s.1 s.2.1 s.2.2) (v3,f6,f7)
def zag (rv:List Int) (sv:List zh) (v2:Int) (f:List (zk×Bool)) (f2:List (zm×Bool)):Option ((Int×(List (zk×Bool))×(List (zm×Bool)))⊕(Unit⊕(Int×Int×Int))):=if (decide (v2<(sv.length:Int))) then (idx sv v2>>=fun x=>zbg (⟨(sv.length:Int),rv,f,f2⟩:zQ) x>>=fun uC=>if (uC.1 !=0) then some (.inr (.inr (v2,(-1),uC.1))) else (zaT rv sv v2 x 0 uC.2.1 uC.2.2>>=fun q=>match q with | .inl u=>(some (.inl ((i64.wrap (v2+1)),u.1,u.2))) | .inr u2=>(some (.inr (.inr (v2,u2.1,u2.2)))))) else some (.inr (.inl ()))
def zbG (rv:List Int) (sv:List zh) (v2:Int) (f:List (zk×Bool)) (f2:List (zm×Bool)):Option (Unit⊕(Int×Int×Int)):=zar (fun s=>zag rv sv s.1 s.2.1 s.2.2) (v2,f,f2)
def zdx (sv:List zh):Option (zP×Int):=if ((decide ((sv.length:Int)<1))|| (decide ((sv.length:Int)>100))) then some ((⟨(-1),(-1),1⟩:zP),9) else (zhq>>=fun rv=>zbG rv sv 0 ([]:List (zk×Bool)) ([]:List (zm×Bool))>>=fun q2=>match q2 with | .inl u3=>(some ((⟨0,0,0⟩:zP),0)) | .inr u4=>(some ((⟨u4.1,u4.2.1,u4.2.2⟩:zP),9)))
theorem zim {f6:List (zk×Bool)} {f7:List (zm×Bool)} (h:zaz rv sv v2 x v3 f6 f7=some (.inl (v3',f6',f7'))):zaT rv sv v2 x v3 f6 f7=zaT rv sv v2 x v3' f6' f7':=zak h
theorem zez {f6:List (zk×Bool)} {f7:List (zm×Bool)} (h:zaz rv sv v2 x v3 f6 f7=some (.inr oo_)):zaT rv sv v2 x v3 f6 f7=some oo_:=zal h
theorem zil {f2:List (zm×Bool)} (h:zag rv sv v2 f f2=some (.inl (v2',f',f2'))):zbG rv sv v2 f f2=zbG rv sv v2' f' f2':=zak h
theorem zbo {f2:List (zm×Bool)} (h:zag rv sv v2 f f2=some (.inr oo_)):zbG rv sv v2 f f2=some oo_:=zal h
def zdy (sv:List zh):Option Bool:=zdx sv>>=fun rv=>some (rv.2==0)
def zdw (k:Int):Option (Int×Int):=((if (k==1) then some (k==1) else (if (k==2) then some (k==2) else if (k==3) then some (k==3) else if (k==4) then some (k==4) else if (k==5) then some (k==5) else if (k==6) then some (k==6) else if (k==7) then some (k==7) else some (k==8)) :Option Bool))>>=fun p=>if p then some (0,0) else ((if (k==9) then some (k==9) else (if (k==10) then some (k==10) else some (k==11)) :Option Bool))>>=fun p2=>if p2 then some (4,0) else if (k==12) then if (k==12) then some (8,0) else (some (0,2)) else if (k==13) then if (k==13) then some (8,0) else (some (0,2)) else if (k==14) then some (8,0) else some (0,2)
def zeo (k:Int) (wv:Int):Option Int:=zdw k>>=fun rv=>if ((rv.2 !=0)|| (rv.1 !=0)) then some rv.1 else zeU k wv>>=fun uv=>zhf uv.1>>=fun uC=>some uC
def zge (k:Int):Option Int:=zeo k 0>>=fun rv=>some rv
def zgd (wide:Int) (b:List UInt8):Option (Int×Int):=if (wide==1) then (zdl b>>=fun rv=>some (rv.1,rv.2)) else if (decide (wide>(b.length:Int))) then some (0,3) else some (wide,0)
def zaq {σ:Type} (kf:(Rnd σ ((List UInt8)×Int))) (rv:Int) (uu:List UInt8) (sg2:σ):Option (((List UInt8)×σ)⊕(σ⊕σ)):=if (decide ((uu.length:Int)>0)) then (zgd rv uu>>=fun uv=>cut uu 0 uv.1>>=fun v3=>kf sg2 (v3,uv.2)>>=fun y2=>if ((!y2.1)|| (uv.2 !=0)) then some (.inr (.inr y2.2)) else cut uu uv.1 (uu.length:Int)>>=fun v5=>some (.inl (v5,y2.2))) else some (.inr (.inl sg2))
def zbF {σ:Type} (kf:(Rnd σ ((List UInt8)×Int))) (rv:Int) (uu:List UInt8) (sg2:σ):Option (σ⊕σ):=zar (fun s=>zaq kf rv s.1 s.2) (uu,sg2)
def zcf {σ:Type} (v:Int) (v2:List UInt8) (kf:Rnd σ ((List UInt8)×Int)) (sg:σ):Option σ:=zge v>>=fun rv=>if (rv==0) then (kf sg (([]:List UInt8),2)>>=fun y=>some y.2) else (zbF kf rv v2 sg>>=fun q=>match q with | .inl u=>(some u) | .inr u2=>(some u2))
theorem zik {σ:Type} {kf:(Rnd σ ((List UInt8)×Int))} {rv:Int} {uu:List UInt8} {sg2:σ} {rest':List UInt8} {sg2':σ} (h:zaq kf rv uu sg2=some (.inl (rest',sg2'))):zbF kf rv uu sg2=zbF kf rv rest' sg2':=zak h
theorem zcQ {σ:Type} {kf:(Rnd σ ((List UInt8)×Int))} {rv:Int} {uu:List UInt8} {sg2:σ} {oo_:(σ⊕σ)} (h:zaq kf rv uu sg2=some (.inr oo_)):zbF kf rv uu sg2=some oo_:=zal h
def zgH (k:Int) (b:List UInt8):Option (Int×(List UInt8)):=some (k,b)
def zbJ (f:Int) (x:List UInt8) (x2:Int):Option (Int⊕(Int×Int)):=if (x2 !=0) then some (.inr (x2,f)) else some (.inl (i64.wrap (f+1)))
def zgc (k:Int) (b:List UInt8):Option (Int×Int):=zgH k b>>=fun rv=>zcf rv.1 rv.2 (rnd (fun (s:Int) (x:((List UInt8)×Int))=>zbJ s x.1 x.2)) (.inl 0)>>=fun q=>match q with | .inl u=>(some (u,0)) | .inr j=>(some (0,j.1))
def zdC (f:zd) (v:Int):Option Bool:=some (f.Number==v)
def zr (sv:List zd) (v:Int) (v2:Int):Option (Int⊕(Unit⊕Int)):=if (decide (v2<(sv.length:Int))) then (idx sv v2>>=fun x=>zdC x v>>=fun rv=>if rv then some (.inr (.inr v2)) else some (.inl (i64.wrap (v2+1)))) else some (.inr (.inl ()))
def zu (sv:List zd) (v:Int) (v2:Int):Option (Unit⊕Int):=zar (fun s=>zr sv v s) v2
def zK (sv:List zd) (v:Int):Option Int:=zu sv v 0>>=fun q=>match q with | .inl u=>(some (-1)) | .inr u2=>(some u2)
theorem zaU (h:zr sv v v2=some (.inl v2')):zu sv v v2=zu sv v v2':=zak h
theorem zaf (h:zr sv v v2=some (.inr oo_)):zu sv v v2=some oo_:=zal h
def zfi (m:zh) (number:Int):Option Int:=zK m.Fields number>>=fun rv=>some rv
def zfj (f:zd) (wire:Int):Option Bool:=(if f.Repeated then (if (wire==2) then (zde f.Kind>>=fun rv=>some rv) else some false) else some false)>>=fun g=>some g
def zgp (k:Int) (wire:Int):Option Bool:=zeI k>>=fun rv=>some ((rv.2==0)&&(rv.1==wire))
def zdm (m:zh) (hv:zt):Option zv:=zfi m hv.number>>=fun rv=>if (rv==(-1)) then some (⟨(-1),false,0⟩:zv) else idx m.Fields rv>>=fun x=>zfj x hv.wire>>=fun uv=>(if (!uv) then (zgp x.Kind hv.wire>>=fun uC=>some (!uC)) else some false)>>=fun g=>if g then some (⟨0,false,6⟩:zv) else some (⟨rv,uv,0⟩:zv)
def zeM (m:zh) (b:List UInt8) (uG:Int) (met:List (zt×zv)):Option (za×Int×(List (zt×zv))):=zdj b uG>>=fun rv=>if (rv.2 !=0) then some ((⟨(⟨0,0,0,0,0⟩:zi),0,false⟩:za),rv.2,met) else (((if (!(mget met (⟨rv.1.Number,rv.1.Wire⟩:zt)).isSome) then (zdm m (⟨rv.1.Number,rv.1.Wire⟩:zt)>>=fun uv=>some ((mput met (⟨rv.1.Number,rv.1.Wire⟩:zt) uv),uv.field,uv.run,uv.e)) else (some (met,((mget met (⟨rv.1.Number,rv.1.Wire⟩:zt)).getD (⟨0,false,0⟩:zv)).field,((mget met (⟨rv.1.Number,rv.1.Wire⟩:zt)).getD (⟨0,false,0⟩:zv)).run,((mget met (⟨rv.1.Number,rv.1.Wire⟩:zt)).getD (⟨0,false,0⟩:zv)).e)) :Option ((List (zt×zv))×Int×Bool×Int)))>>=fun p=>if (p.2.2.2 !=0) then some ((⟨(⟨0,0,0,0,0⟩:zi),0,false⟩:za),p.2.2.2,p.1) else some ((⟨rv.1,p.2.1,p.2.2.1⟩:za),0,p.1))
def zbt (b:List UInt8) (m:zh) (l:List za) (met:List (zt×zv)) (uG:Int):Option (((List za)×(List (zt×zv))×Int)⊕((List za)⊕(Int×Int))):=if (decide (uG<(b.length:Int))) then (zeM m b uG met>>=fun uv=>if (uv.2.1 !=0) then some (.inr (.inr (uG,uv.2.1))) else app 56 l ([uv.1]:List za)>>=fun v=>some (.inl (v,uv.2.2,uv.1.Record.To))) else some (.inr (.inl l))
def zcI (b:List UInt8) (m:zh) (l:List za) (met:List (zt×zv)) (uG:Int):Option ((List za)⊕(Int×Int)):=zar (fun s=>zbt b m s.1 s.2.1 s.2.2) (l,met,uG)
def zgn (m:zh) (b:List UInt8):Option ((List za)×Int×Int):=zcI b m [] ([]:List (zt×zv)) 0>>=fun q=>match q with | .inl u=>(some (u,0,0)) | .inr u2=>(some ([],u2.1,u2.2))
theorem zgR (h:zbt b m l met uG=some (.inl (l',uD,fromv'))):zcI b m l met uG=zcI b m l' uD fromv':=zak h
theorem zew (h:zbt b m l met uG=some (.inr oo_)):zcI b m l met uG=some oo_:=zal h
def zgo (m:zh) (b:List UInt8) (uG:Int):Option (za×Int):=zeM m b uG ([]:List (zt×zv))>>=fun uv=>some (uv.1,uv.2.1)
def zco (wv:zI) (message:Int) (uG:Int) (tov:Int):Option (za×Int×(List (ze×za))):=cut wv.b 0 tov>>=fun v=>zdj v uG>>=fun rv=>if (rv.2 !=0) then some ((⟨(⟨0,0,0,0,0⟩:zi),0,false⟩:za),rv.2,wv.met) else (if (!(mget wv.met (⟨message,rv.1.Number,rv.1.Wire⟩:ze)).isSome) then (idx wv.s message>>=fun x=>zgo x v uG>>=fun uv=>if (uv.2 !=0) then some ((⟨(⟨0,0,0,0,0⟩:zi),0,false⟩:za),uv.2,wv.met) else some ((⟨rv.1,uv.1.Field,uv.1.Run⟩:za),0,(mput wv.met (⟨message,rv.1.Number,rv.1.Wire⟩:ze) uv.1))) else (some ((⟨rv.1,(((mget wv.met (⟨message,rv.1.Number,rv.1.Wire⟩:ze)).getD (⟨(⟨0,0,0,0,0⟩:zi),0,false⟩:za)).Field),(((mget wv.met (⟨message,rv.1.Number,rv.1.Wire⟩:ze)).getD (⟨(⟨0,0,0,0,0⟩:zi),0,false⟩:za)).Run)⟩:za),0,wv.met)))
def zer (f:zd) (isRun:Bool) (value:List UInt8):Option Int:=if isRun then (zgc f.Kind value>>=fun rv=>some rv.2) else (if (f.Kind==15) then (zgk value>>=fun uv=>some (!uv)) else some false)>>=fun g=>if g then some 7 else if (f.Kind==17) then some 8 else some 0
def zV (d:Int) (message:Int) (xa:zI->Int->za->Int->Option (zn×(List (ze×za)))) (tov:Int) (wv:zI) (wv2:List (ze×za)) (uI:Int) (depth:Int):Option (((List (ze×za))×Int×Int)⊕(((List (ze×za))×Int)⊕((List (ze×za))×Int×Int×Int))):=if (decide (uI<tov)) then (zco (⟨wv.s,wv.b,wv2⟩:zI) message uI tov>>=fun uv=>if (uv.2.1 !=0) then some (.inr (.inr (uv.2.2,0,uI,uv.2.1))) else xa (⟨wv.s,wv.b,uv.2.2⟩:zI) message uv.1 d>>=fun rv4=>if (rv4.1.e !=0) then some (.inr (.inr (rv4.2,rv4.1.depth,rv4.1.place,rv4.1.e))) else some (.inl (rv4.2,uv.1.Record.To,(if depth<rv4.1.depth then rv4.1.depth else depth)))) else some (.inr (.inl (wv2,depth)))
def zao (d:Int) (message:Int) (xa:zI->Int->za->Int->Option (zn×(List (ze×za)))) (tov:Int) (wv:zI) (wv2:List (ze×za)) (uI:Int) (depth:Int):Option (((List (ze×za))×Int)⊕((List (ze×za))×Int×Int×Int)):=zar (fun s=>zV d message xa tov wv s.1 s.2.1 s.2.2) (wv2,uI,depth)
def zbi (xb:zI->Int->Int->Int->Int->Option (zn×(List (ze×za)))) (xa:zI->Int->za->Int->Option (zn×(List (ze×za)))) (wv:zI) (message:Int) (uG:Int) (tov:Int) (d:Int):Option (zn×(List (ze×za))):=zao d message xa tov wv wv.met uG 0>>=fun q=>match q with | .inl u=>(some ((⟨u.2,0,0⟩:zn),u.1)) | .inr u2=>(some ((⟨u2.2.1,u2.2.2.1,u2.2.2.2⟩:zn),u2.1))
def zbB (xb:zI->Int->Int->Int->Int->Option (zn×(List (ze×za)))) (xa:zI->Int->za->Int->Option (zn×(List (ze×za)))) (wv:zI) (message:Int) (v:za) (d:Int):Option (zn×(List (ze×za))):=if (v.Field==(-1)) then some ((⟨0,0,0⟩:zn),wv.met) else idx wv.s message>>=fun x=>idx x.Fields v.Field>>=fun x2=>if ((x2.Kind==17)&&(decide (d>0))) then (xb wv x2.Of v.Record.At v.Record.To (i64.wrap (d - 1))>>=fun uv=>some ((⟨(i64.wrap (uv.1.depth+1)),uv.1.place,uv.1.e⟩:zn),uv.2)) else cut wv.b v.Record.At v.Record.To>>=fun v3=>zer x2 v.Run v3>>=fun uC=>if (uC !=0) then some ((⟨0,v.Record.From,uC⟩:zn),wv.met) else some ((⟨0,0,0⟩:zn),wv.met)
def zJ:Nat->(zI->Int->Int->Int->Int->Option (zn×(List (ze×za))))×(zI->Int->za->Int->Option (zn×(List (ze×za)))) | 0=>(fun _ _ _ _ _=>none,fun _ _ _ _=>none) | uw+1=>(fun wv message uG tov d=>zbi (zJ uw).1 (zJ uw).2 wv message uG tov d,fun wv message v d=>zbB (zJ uw).1 (zJ uw).2 wv message v d)
def zaa (uw:Nat):zI->Int->Int->Int->Int->Option (zn×(List (ze×za))):=(zJ uw).1
def zaZ (uw:Nat):zI->Int->za->Int->Option (zn×(List (ze×za))):=(zJ uw).2
theorem zfl (h:zV d message xa tov wv wv2 uI depth=some (.inl (wv2',fromv2',depth'))):zao d message xa tov wv wv2 uI depth=zao d message xa tov wv wv2' fromv2' depth':=zak h
theorem zaV (h:zV d message xa tov wv wv2 uI depth=some (.inr oo_)):zao d message xa tov wv wv2 uI depth=some oo_:=zal h
def zdW (sv:List zh) (root:Int) (d:Int):Option Int:=zdy sv>>=fun rv=>if (!rv) then some 9 else (if ((decide (root<0))|| ((decide (root>=(sv.length:Int)))|| ((decide (d<0))|| (decide (d>64))))) then some 2 else some 0)
def zfg (uw:Nat) (sv:List zh) (root:Int) (b:List UInt8) (d:Int):Option zn:=zdW sv root d>>=fun rv=>if (rv !=0) then some (⟨0,0,rv⟩:zn) else (zaa uw (⟨sv,b,([]:List (ze×za))⟩:zI) root 0 (b.length:Int) d>>=fun uC=>some uC.1)
def zbW (uw:Nat) (sv:List zh) (root:Int) (b:List UInt8) (d:Int):Option (Int×Int):=zfg uw sv root b d>>=fun rv=>some (rv.place,rv.e)
def zdg (uw:Nat) (sv:List zh) (root:Int) (av:List UInt8) (b:List UInt8) (d:Int):Option Int:=zbW uw sv root av d>>=fun rv=>if (rv.2 !=0) then some rv.2 else zbW uw sv root b d>>=fun uv=>some uv.2
def zbE (uw:Nat) (sv:List zh) (root:Int) (av:List UInt8) (b:List UInt8) (d:Int):Option ((List UInt8)×Int):=zdg uw sv root av b d>>=fun rv=>if (rv !=0) then some ([],rv) else zah ([av,b]:List (List UInt8))>>=fun uv=>some (uv,0)
def zdh (m:zh) (b:List UInt8):Option (List za):=zgn m b>>=fun rv=>some rv.1
def zaw (m:zh) (rv:List za) (fields:List (Int×Bool)) (v:Int):Option (((List (Int×Bool))×Int)⊕(List (Int×Bool))):=if (decide (v<(rv.length:Int))) then (idx rv v>>=fun x=>(if (x.Field !=(-1)) then (idx m.Fields x.Field>>=fun x2=>if (!x2.Repeated) then (idx m.Fields x.Field>>=fun x3=>some (x3.Kind !=17)) else some false) else some false)>>=fun g=>if g then some (.inl ((mput fields x.Field true),(i64.wrap (v+1)))) else some (.inl (fields,(i64.wrap (v+1))))) else some (.inr fields)
def zaN (m:zh) (rv:List za) (fields:List (Int×Bool)) (v:Int):Option (List (Int×Bool)):=zar (fun s=>zaw m rv s.1 s.2) (fields,v)
def zcB (m:zh) (b:List UInt8):Option (List (Int×Bool)):=zdh m b>>=fun rv=>zaN m rv ([]:List (Int×Bool)) 0>>=fun q=>some q
theorem zdG {m:zh} {rv:List za} {fields:List (Int×Bool)} {v:Int} {fields':List (Int×Bool)} {v':Int} (h:zaw m rv fields v=some (.inl (fields',v'))):zaN m rv fields v=zaN m rv fields' v':=zak h
theorem zgV {m:zh} {rv:List za} {fields:List (Int×Bool)} {v:Int} {oo_:List (Int×Bool)} (h:zaw m rv fields v=some (.inr oo_)):zaN m rv fields v=some oo_:=zal h
def zbs (uv:List (Int×Bool)) (uC:List za) (gone:Int) (v:Int):Option ((Int×Int)⊕Int):=if (decide (v<(uC.length:Int))) then (idx uC v>>=fun x2=>if ((mget uv x2.Field).getD false) then some (.inl ((i64.wrap (gone+1)),(i64.wrap (v+1)))) else some (.inl (gone,(i64.wrap (v+1))))) else some (.inr gone)
def zcq (uv:List (Int×Bool)) (uC:List za) (gone:Int) (v:Int):Option Int:=zar (fun s=>zbs uv uC s.1 s.2) (gone,v)
def zdS (uw:Nat) (sv:List zh) (root:Int) (av:List UInt8) (b:List UInt8) (d:Int):Option (Int×Int):=zdg uw sv root av b d>>=fun rv=>if (rv !=0) then some (0,rv) else idx sv root>>=fun x=>zcB x b>>=fun uv=>zdh x av>>=fun uC=>zcq uv uC 0 0>>=fun q=>some (q,0)
theorem zfq {uv:List (Int×Bool)} {uC:List za} {gone:Int} {v:Int} {gone':Int} {v':Int} (h:zbs uv uC gone v=some (.inl (gone',v'))):zcq uv uC gone v=zcq uv uC gone' v':=zak h
theorem zjv {uv:List (Int×Bool)} {uC:List za} {gone:Int} {v:Int} {oo_:Int} (h:zbs uv uC gone v=some (.inr oo_)):zcq uv uC gone v=some oo_:=zal h
def zbw (uw:Nat):Option Bool:=zbE uw ([(⟨[109],([(⟨[97],1,3,false,false,0⟩:zd)]:List zd)⟩:zh)]:List zh) 0 ([(8:UInt8),(1:UInt8)]:List UInt8) ([(8:UInt8),(2:UInt8)]:List UInt8) 0>>=fun rv=>zdS uw ([(⟨[109],([(⟨[97],1,3,false,false,0⟩:zd)]:List zd)⟩:zh)]:List zh) 0 ([(8:UInt8),(1:UInt8)]:List UInt8) ([(8:UInt8),(2:UInt8)]:List UInt8) 0>>=fun uv=>(if ((i64.wrap ((i64.wrap rv.2)+(i64.wrap uv.2)))==0) then (if (uv.1==1) then (zav rv.1 ([(8:UInt8),(1:UInt8),(8:UInt8),(2:UInt8)]:List UInt8)>>=fun uC=>some uC) else some false) else some false)>>=fun g=>some g
def zbd (l:List (List UInt8)) (m:zh) (place:Int) (endv:Int) (v:Int):Option ((Int×Int)⊕(Unit⊕Int)):=if (decide (v<(l.length:Int))) then (idx l v>>=fun x=>zgn m x>>=fun rv=>if ((rv.2.2 !=0)|| (decide ((i64.wrap (endv+(x.length:Int)))>place))) then some (.inr (.inr v)) else some (.inl ((i64.wrap (endv+(x.length:Int))),(i64.wrap (v+1))))) else some (.inr (.inl ()))
def zbN (l:List (List UInt8)) (m:zh) (place:Int) (endv:Int) (v:Int):Option (Unit⊕Int):=zar (fun s=>zbd l m place s.1 s.2) (endv,v)
def zel (m:zh) (l:List (List UInt8)) (place:Int):Option Int:=zbN l m place 0 0>>=fun q=>match q with | .inl u=>(some (l.length:Int)) | .inr u2=>(some u2)
theorem ziL {l:List (List UInt8)} {m:zh} {place:Int} {endv:Int} {v:Int} {endv':Int} {v':Int} (h:zbd l m place endv v=some (.inl (endv',v'))):zbN l m place endv v=zbN l m place endv' v':=zak h
theorem zeY {l:List (List UInt8)} {m:zh} {place:Int} {endv:Int} {v:Int} {oo_:(Unit⊕Int)} (h:zbd l m place endv v=some (.inr oo_)):zbN l m place endv v=some oo_:=zal h
def zfV (uw:Nat) (sv:List zh) (root:Int) (l:List (List UInt8)) (d:Int):Option ((List UInt8)×Int×Int):=zah l>>=fun rv=>zbW uw sv root rv d>>=fun uv=>((if (uv.2==0) then some (.inl (rv.length:Int)) else (zdW sv root d>>=fun uC=>if (uC !=0) then some (.inr uC) else some (.inl uv.1)) :Option (Int⊕Int)))>>=fun p=>match p with | .inl u=>(idx sv root>>=fun x=>zel x l u>>=fun rv4=>if (decide (rv4<(l.length:Int))) then (idx l rv4>>=fun x2=>zbW uw sv root x2 d>>=fun rv5=>some ([],rv4,rv5.2)) else some (rv,0,0)) | .inr u2=>(some ([],0,u2))
def zaC (uw:Nat) (sv:List zh) (root:Int) (av:List UInt8) (b:List UInt8) (c:List UInt8) (d:Int):Option Bool:=zbw uw>>=fun rv=>if (!rv) then some false else (zbM sv>>=fun uv=>if ((!uv)|| (decide ((i64.wrap ((i64.wrap ((av.length:Int)+(b.length:Int)))+(c.length:Int)))>1500))) then some true else zfV uw sv root ([av,b,c]:List (List UInt8)) d>>=fun uC=>if ((i64.wrap uC.2.2) !=0) then some ((uC.1.length:Int)==0) else zbE uw sv root av b d>>=fun rv4=>zbE uw sv root b c d>>=fun rv5=>zbE uw sv root rv4.1 c d>>=fun rv6=>zbE uw sv root av rv5.1 d>>=fun rv7=>zbE uw sv root av ([]:List UInt8) d>>=fun rv8=>zbE uw sv root ([]:List UInt8) av d>>=fun rv9=>(if ((i64.wrap ((i64.wrap ((i64.wrap ((i64.wrap ((i64.wrap ((i64.wrap rv4.2)+(i64.wrap rv5.2)))+(i64.wrap rv6.2)))+(i64.wrap rv7.2)))+(i64.wrap rv8.2)))+(i64.wrap rv9.2)))==0) then (zav rv6.1 uC.1>>=fun rv10=>if rv10 then (zav rv7.1 uC.1>>=fun rv11=>if rv11 then (zav rv8.1 av>>=fun rv12=>if rv12 then (zav rv9.1 av>>=fun rv13=>some rv13) else some false) else some false) else some false) else some false)>>=fun g=>some g)
end
end Go.Proofs.Ytnckiilakdkklaa
