/-
  What the Go functions do, as plain functions. No condition.
-/
import Derived.Test.YtnckiilakdkklaaGreatx3K2
set_option autoImplicit true
set_option relaxedAutoImplicit true
namespace Go.Proofs.YtnckiilakdkklaaGreat
open Go.IntKind (i32 i64 u32 u64 u8)
open Go
set_option linter.unusedVariables false
abbrev Str:=List UInt8
structure zCd where
  a0:Str
  a1:Str
  a2:Str
  a3:Str
  a4:Str
  a5:Str
  a6:Str
  a7:Str
  a8:Str
  a9:Str
  a10:Str
  a11:Str
  a12:Str
  a13:Str
  a14:Str deriving DecidableEq
structure zh where
  Number:Int
  Wire:Int
  From:Int
  At:Int
  To:Int deriving DecidableEq
def zq:Rp zh:=⟨5,true,fun x=>[.int .i64 x.Number,.int .i64 x.Wire,.int .i64 x.From,.int .i64 x.At,.int .i64 x.To],fun _=>rfl,by decide⟩
structure za where
  Record:zh
  Field:Int
  Run:Bool deriving DecidableEq
def ze:Rp za:=⟨7,true,fun x=>[.int .i64 x.Record.Number,.int .i64 x.Record.Wire,.int .i64 x.Record.From,.int .i64 x.Record.At,.int .i64 x.Record.To,.int .i64 x.Field,.bool x.Run],fun _=>rfl,by decide⟩
structure zj where
  name:Str
  wire:Int deriving DecidableEq
def zQ:Rp zj:=⟨2,true,fun x=>[.str x.name,.int .i64 x.wire],fun _=>rfl,by decide⟩
mutual
structure zhW where
  Values:(List zem)
  Unknown:(List Str)
structure zem where
  Number:Int
  Words:(List Int)
  Texts:(List Str)
  Subs:(List zhW)
end
structure zd where
  Name:Str
  Number:Int
  Kind:Int
  Repeated:Bool
  Packed:Bool
  Of:Int deriving DecidableEq
def zb:Rp zd:=⟨6,true,fun x=>[.str x.Name,.int .i64 x.Number,.int .i64 x.Kind,.bool x.Repeated,.bool x.Packed,.int .i64 x.Of],fun _=>rfl,by decide⟩
structure zc where
  Name:Str
  Fields:(List zd) deriving DecidableEq
def zf:Rp zc:=⟨2,true,fun x=>[.str x.Name,.sl x.Fields.length zb.size (x.Fields.flatMap zb.lv)],fun _=>rfl,by decide⟩
structure zak where
  Number:Int
  Wire:Int deriving DecidableEq
def zdb:Rp zak:=⟨2,true,fun x=>[.int .i64 x.Number,.int .i64 x.Wire],fun _=>rfl,by decide⟩
structure zk where
  message:Int
  name:Str deriving DecidableEq
def zt:Rp zk:=⟨2,true,fun x=>[.int .i64 x.message,.str x.name],fun _=>rfl,by decide⟩
structure zm where
  message:Int
  number:Int deriving DecidableEq
def zu:Rp zm:=⟨2,true,fun x=>[.int .i64 x.message,.int .i64 x.number],fun _=>rfl,by decide⟩
structure zT where
  size:Int
  kinds:(List Int)
  names:(List (zk×Bool))
  numbers:(List (zm×Bool))
structure zS where
  Message:Int
  Field:Int
  What:Int deriving DecidableEq
def zbW:Rp zS:=⟨3,true,fun x=>[.int .i64 x.Message,.int .i64 x.Field,.int .i64 x.What],fun _=>rfl,by decide⟩
structure zx where
  number:Int
  wire:Int deriving DecidableEq
def zF:Rp zx:=⟨2,true,fun x=>[.int .i64 x.number,.int .i64 x.wire],fun _=>rfl,by decide⟩
structure zz where
  field:Int
  run:Bool
  e:Int deriving DecidableEq
def zG:Rp zz:=⟨3,true,fun x=>[.int .i64 x.field,.bool x.run,.int .u8 x.e],fun _=>rfl,by decide⟩
structure zaq where
  R:zh
  Field:Int
  Run:Bool deriving DecidableEq
def zdG:Rp zaq:=⟨7,true,fun x=>[.int .i64 x.R.Number,.int .i64 x.R.Wire,.int .i64 x.R.From,.int .i64 x.R.At,.int .i64 x.R.To,.int .i64 x.Field,.bool x.Run],fun _=>rfl,by decide⟩
structure zg where
  message:Int
  number:Int
  wire:Int deriving DecidableEq
def zi:Rp zg:=⟨3,true,fun x=>[.int .i64 x.message,.int .i64 x.number,.int .i64 x.wire],fun _=>rfl,by decide⟩
structure zL where
  s:(List zc)
  b:(List UInt8)
  met:(List (zg×za))
structure zn where
  depth:Int
  place:Int
  e:Int deriving DecidableEq
def zO:Rp zn:=⟨3,true,fun x=>[.int .i64 x.depth,.int .i64 x.place,.int .u8 x.e],fun _=>rfl,by decide⟩
structure zCe where
  a0:Int
  a1:Int deriving DecidableEq
structure zzc where
  pieces:(List (List UInt8))
  size:Int deriving DecidableEq
noncomputable section
def zbn (n:Int):Option (List UInt8):=if (decide (n<0)) then none else if (decide ((i64.wrap (n - (i64.wrap (0 - 0))))>0)) then (mkO 1 (0:UInt8) (i64.wrap (n - (i64.wrap (0 - 0)))) (i64.wrap (n - (i64.wrap (0 - 0))))>>=fun v=>cut v 0 0>>=fun v2=>some v2) else some []
def zV (vj:List (List UInt8)) (size:Int) (v:Int):Option ((Int×Int)⊕Int):=if (decide (v<(vj.length:Int))) then (idx vj v>>=fun x=>if (decide ((i64.wrap (size+(x.length:Int)))<0)) then none else some (.inl ((i64.wrap (size+(x.length:Int))),(i64.wrap (v+1))))) else some (.inr size)
def zai (vj:List (List UInt8)) (size:Int) (v:Int):Option Int:=zaa (fun s=>zV vj s.1 s.2) (size,v)
def zW (vj:List (List UInt8)) (vl:List UInt8) (v2:Int):Option (((List UInt8)×Int)⊕(List UInt8)):=if (decide (v2<(vj.length:Int))) then (idx vj v2>>=fun x2=>app 1 vl x2>>=fun v3=>some (.inl (v3,(i64.wrap (v2+1))))) else some (.inr vl)
def zaj (vj:List (List UInt8)) (vl:List UInt8) (v2:Int):Option (List UInt8):=zaa (fun s=>zW vj s.1 s.2) (vl,v2)
def zaW (vj:List (List UInt8)):Option (List UInt8):=zai vj 0 0>>=fun q=>zbn q>>=fun rv=>zaj vj rv 0>>=fun q2=>some q2
theorem zeR (h:zV vj size v=some (.inl (size',v'))):zai vj size v=zai vj size' v':=zH h
theorem zeS (h:zV vj size v=some (.inr vc)):zai vj size v=some vc:=zI h
theorem zeT (h:zW vj vl v2=some (.inl (newslice',v2'))):zaj vj vl v2=zaj vj newslice' v2':=zH h
theorem zeU (h:zW vj vl v2=some (.inr vc)):zaj vj vl v2=some vc:=zI h
def zag (sv:List Int) (v:Int) (v2:Int):Option (Int⊕(Unit⊕Int)):=if (decide (v2<(sv.length:Int))) then (idx sv v2>>=fun x=>if (v==x) then some (.inr (.inr v2)) else some (.inl (i64.wrap (v2+1)))) else some (.inr (.inl ()))
def zaB (sv:List Int) (v:Int) (v2:Int):Option (Unit⊕Int):=zaa (fun s=>zag sv v s) v2
def zbw (sv:List Int) (v:Int):Option Int:=zaB sv v 0>>=fun q=>match q with | .inl u=>(some (-1)) | .inr u2=>(some u2)
theorem zfK (h:zag sv v v2=some (.inl v2')):zaB sv v v2=zaB sv v v2':=zH h
theorem zdl (h:zag sv v v2=some (.inr vc)):zaB sv v v2=some vc:=zI h
def zaX (sv:List Int) (v:Int):Option Bool:=zbw sv v>>=fun rv=>some (decide (rv>=0))
def zdU (wv2:Int) (n:Int):Option ((Int×Int)⊕Int):=if (wv2 !=0) then some (.inl ((shrI .u64 wv2 7),(i64.wrap (n+1)))) else some (.inr n)
def zeE (wv2:Int) (n:Int):Option Int:=zaa (fun s=>zdU s.1 s.2) (wv2,n)
def zjw (wv:Int):Option Int:=zeE (shrI .u64 wv 7) 1>>=fun q=>some q
theorem znH (h:zdU wv2 n=some (.inl (wv2',n'))):zeE wv2 n=zeE wv2' n':=zH h
theorem znI (h:zdU wv2 n=some (.inr vc)):zeE wv2 n=some vc:=zI h
def zfv (wv:Int):Option Int:=some (u32.wrap wv)
def zfU (wv:Int):Option Int:=zfv wv>>=fun rv=>some (i32.wrap rv)
def zfV (n:Int):Option Int:=some (u64.wrap (i64.wrap n))
def zcP (av:List UInt8) (b:List UInt8):Option Bool:=some (av==b)
def zcc (v:List UInt8) (wv:Int) (v2:Int):Option ((Int×Int)⊕(Unit⊕(Int×Int×Int))):=if (decide (v2<(v.length:Int))) then (idx v v2>>=fun x=>if ((v2==9)&&(decide ((x.toNat:Int)>1))) then some (.inr (.inr (0,0,4))) else shlO .u64 (u64.wrap (andI .u8 (x.toNat:Int) 127)) (i64.wrap (7*v2))>>=fun v4=>if (decide ((x.toNat:Int)<128)) then some (.inr (.inr ((orI .u64 wv v4),(i64.wrap (v2+1)),0))) else some (.inl ((orI .u64 wv v4),(i64.wrap (v2+1))))) else some (.inr (.inl ()))
def zdm (v:List UInt8) (wv:Int) (v2:Int):Option (Unit⊕(Int×Int×Int)):=zaa (fun s=>zcc v s.1 s.2) (wv,v2)
def zef (b:List UInt8):Option (Int×Int×Int):=cut b 0 (if (10:Int)<(b.length:Int) then 10 else (b.length:Int))>>=fun v=>zdm v 0 0>>=fun q=>match q with | .inl u=>(some (0,0,3)) | .inr u2=>(some (u2.1,u2.2.1,u2.2.2))
theorem zlD (h:zcc v wv v2=some (.inl (wv',v2'))):zdm v wv v2=zdm v wv' v2':=zH h
theorem zeD (h:zcc v wv v2=some (.inr vc)):zdm v wv v2=some vc:=zI h
def zaC (u0:Int) (b:List UInt8) (n:Int):Option (Int⊕Int):=(if (decide ((i64.wrap (u0+n))<(b.length:Int))) then (if (decide (n<10)) then (idx b (i64.wrap (u0+n))>>=fun x=>some (decide ((x.toNat:Int)>=128))) else some false) else some false)>>=fun g=>if g then some (.inl (i64.wrap (n+1))) else some (.inr n)
def zbr (u0:Int) (b:List UInt8) (n:Int):Option Int:=zaa (fun s=>zaC u0 b s) n
def zaQ (u0:Int) (b:List UInt8) (wv:Int) (i:Int):Option ((Int×Int)⊕Int):=if (decide (i>=0)) then (idx b (i64.wrap (u0+i))>>=fun x3=>some (.inl ((u64.wrap ((u64.wrap (128*wv))+(u64.wrap (Int.tmod (x3.toNat:Int) 128)))),(i64.wrap (i - 1))))) else some (.inr wv)
def zbs (u0:Int) (b:List UInt8) (wv:Int) (i:Int):Option Int:=zaa (fun s=>zaQ u0 b s.1 s.2) (wv,i)
def zbd (b:List UInt8) (u0:Int):Option (Int×Int×Int):=zbr u0 b 0>>=fun q=>if (q==10) then some (0,0,4) else if ((i64.wrap (u0+q))==(b.length:Int)) then some (0,0,3) else (if (q==9) then (idx b (i64.wrap (u0+q))>>=fun x2=>some (decide ((x2.toNat:Int)>1))) else some false)>>=fun g2=>if g2 then some (0,0,4) else zbs u0 b 0 q>>=fun q2=>some (q2,(i64.wrap (q+1)),0)
theorem zhE (h:zaC u0 b n=some (.inl n')):zbr u0 b n=zbr u0 b n':=zH h
theorem zdc (h:zaC u0 b n=some (.inr vc)):zbr u0 b n=some vc:=zI h
theorem zhF (h:zaQ u0 b wv i=some (.inl (wv',i'))):zbs u0 b wv i=zbs u0 b wv' i':=zH h
theorem zhG (h:zaQ u0 b wv i=some (.inr vc)):zbs u0 b wv i=some vc:=zI h
def zeO (b:List UInt8):Option (Int×Int):=zef b>>=fun rv=>some (rv.2.1,rv.2.2)
def zez (wire:Int):Option Bool:=if (wire==0) then if (wire==0) then some true else (some false) else if (wire==1) then if (wire==1) then some true else (some false) else if (wire==2) then if (wire==2) then some true else (some false) else if (wire==5) then some true else some false
def ziq (t:zak):Option Bool:=(if (decide (t.Number>=1)) then (if (decide (t.Number<=536870911)) then (zez t.Wire>>=fun rv=>some rv) else some false) else some false)>>=fun g=>some g
def zkh (b:List UInt8):Option (zak×Int×Int):=zef b>>=fun rv=>if (rv.2.2 !=0) then some ((⟨0,0⟩:zak),0,rv.2.2) else (ziq (⟨(i64.wrap (if (536870912:Int)<(shrI .u64 rv.1 3) then 536870912 else shrI .u64 rv.1 3)),(i64.wrap (andI .u64 rv.1 7))⟩:zak)>>=fun uX=>if (!uX) then some ((⟨0,0⟩:zak),0,5) else (some ((⟨(i64.wrap (if (536870912:Int)<(shrI .u64 rv.1 3) then 536870912 else shrI .u64 rv.1 3)),(i64.wrap (andI .u64 rv.1 7))⟩:zak),rv.2.1,0)))
def zcw (number:Int) (wire:Int):Option Bool:=some ((decide (number>=1))&&((decide (number<=536870911))&&((wire==0)|| ((wire==1)|| ((wire==2)|| (wire==5))))))
def zcR (b:List UInt8) (u0:Int):Option (Int×Int×Int×Int):=zbd b u0>>=fun rv=>if (rv.2.2 !=0) then some (0,0,0,rv.2.2) else (if (decide (rv.1>4294967295)) then some true else zcw (i64.wrap (u64.wrap (Int.tdiv rv.1 8))) (i64.wrap (Int.tmod rv.1 8))>>=fun uX=>some (!uX))>>=fun g=>if g then some (0,0,0,5) else some ((i64.wrap (u64.wrap (Int.tdiv rv.1 8))),(i64.wrap (Int.tmod rv.1 8)),rv.2.1,0)
def zmC (c:Int):Option (Int×Int):=if ((shrI .u8 c 7)==0) then some (1,(u32.wrap c)) else if ((shrI .u8 c 5)==6) then some (2,(u32.wrap (andI .u8 c 31))) else if ((shrI .u8 c 4)==14) then some (3,(u32.wrap (andI .u8 c 15))) else if ((shrI .u8 c 3)==30) then some (4,(u32.wrap (andI .u8 c 7))) else some (0,0)
def ziv (wv:Int):Option Int:=if ((shrI .u32 wv 7)==0) then some 1 else if ((shrI .u32 wv 11)==0) then some 2 else if ((shrI .u32 wv 11)==27) then some 0 else if ((shrI .u32 wv 16)==0) then some 3 else if (decide (wv<=1114111)) then some 4 else some 0
def zdo (v2:List UInt8) (wv:Int) (v3:Int):Option ((Int×Int)⊕(Int⊕Unit)):=if (decide (v3<(v2.length:Int))) then (idx v2 v3>>=fun x2=>if ((shrI .u8 (x2.toNat:Int) 6) !=2) then some (.inr (.inr ())) else some (.inl ((orI .u32 (shlI .u32 wv 6) (u32.wrap (andI .u8 (x2.toNat:Int) 63))),(i64.wrap (v3+1))))) else some (.inr (.inl wv))
def zbf (v2:List UInt8) (wv:Int) (v3:Int):Option (Int⊕Unit):=zaa (fun s=>zdo v2 s.1 s.2) (wv,v3)
def ziu (b:List UInt8):Option Int:=if ((b.length:Int)==0) then some 0 else (idx b 0>>=fun x=>zmC (x.toNat:Int)>>=fun rv=>if ((rv.1==0)|| (decide (rv.1>(b.length:Int)))) then some 0 else (cut b 1 rv.1>>=fun v2=>zbf v2 rv.2 0>>=fun q=>match q with | .inl u=>(ziv u>>=fun uX=>if (rv.1 !=uX) then some 0 else some rv.1) | .inr u2=>(some 0)))
theorem znP (h:zdo v2 wv v3=some (.inl (wv',v3'))):zbf v2 wv v3=zbf v2 wv' v3':=zH h
theorem ziZ (h:zdo v2 wv v3=some (.inr vc)):zbf v2 wv v3=some vc:=zI h
def zec (b:List UInt8) (u0:Int) (points:Int) (size:Int):Option ((Int×Int×Int)⊕(Int×Int)):=if (decide (size>0)) then (cut b (i64.wrap (u0+size)) (b.length:Int)>>=fun v=>ziu v>>=fun uX=>some (.inl ((i64.wrap (u0+size)),(i64.wrap (points+1)),uX))) else some (.inr (u0,points))
def zed (b:List UInt8) (u0:Int) (points:Int) (size:Int):Option (Int×Int):=zaa (fun s=>zec b s.1 s.2.1 s.2.2) (u0,points,size)
def zkj (b:List UInt8):Option (Int×Int):=ziu b>>=fun rv=>zed b 0 0 rv>>=fun q=>some (q.1,q.2)
theorem znQ (h:zec b u0 points size=some (.inl (atv',points',size'))):zed b u0 points size=zed b atv' points' size':=zH h
theorem znR (h:zec b u0 points size=some (.inr vc)):zed b u0 points size=some vc:=zI h
def zis (b:List UInt8):Option Int:=zkj b>>=fun rv=>some rv.1
def zit (b:List UInt8):Option Bool:=zis b>>=fun rv=>some (rv==(b.length:Int))
def zdh (rv:Int):Option (List UInt8):=if ((decide (rv<0))|| ((decide (rv>1114111))|| ((decide (rv>=55296))&&(decide (rv<=57343))))) then some [] else if (decide (rv<128)) then (zgq (u8.wrap rv)>>=fun y=>some ([y]:List UInt8)) else if (decide (rv<2048)) then (zgq (u8.wrap (i64.wrap (192+(i64.wrap (Int.tdiv rv 64)))))>>=fun y2=>zgq (u8.wrap (i64.wrap (128+(Int.tmod rv 64))))>>=fun y3=>some ([y2,y3]:List UInt8)) else if (decide (rv<65536)) then (zgq (u8.wrap (i64.wrap (224+(i64.wrap (Int.tdiv rv 4096)))))>>=fun y4=>zgq (u8.wrap (i64.wrap (128+(Int.tmod (i64.wrap (Int.tdiv rv 64)) 64))))>>=fun y5=>zgq (u8.wrap (i64.wrap (128+(Int.tmod rv 64))))>>=fun y6=>some ([y4,y5,y6]:List UInt8)) else zgq (u8.wrap (i64.wrap (240+(i64.wrap (Int.tdiv rv 262144)))))>>=fun y7=>zgq (u8.wrap (i64.wrap (128+(Int.tmod (i64.wrap (Int.tdiv rv 4096)) 64))))>>=fun y8=>zgq (u8.wrap (i64.wrap (128+(Int.tmod (i64.wrap (Int.tdiv rv 64)) 64))))>>=fun y9=>zgq (u8.wrap (i64.wrap (128+(Int.tmod rv 64))))>>=fun y10=>some ([y7,y8,y9,y10]:List UInt8)
def zaR (u0:Int) (b:List UInt8) (n:Int) (uX:Int) (i:Int):Option ((Int×Int)⊕Int):=if (decide (i<n)) then (idx b (i64.wrap (u0+i))>>=fun x3=>some (.inl ((i64.wrap ((i64.wrap (64*uX))+(Int.tmod (i64.wrap (x3.toNat:Int)) 64))),(i64.wrap (i+1))))) else some (.inr uX)
def zan (u0:Int) (b:List UInt8) (n:Int) (uX:Int) (i:Int):Option Int:=zaa (fun s=>zaR u0 b n s.1 s.2) (uX,i)
def zbt (u0:Int) (b:List UInt8) (n:Int):Option (Int⊕(Unit⊕Int)):=if ((decide (n<=4))&&(decide ((i64.wrap (u0+n))<=(b.length:Int)))) then (idx b u0>>=fun x=>((if (decide (n>1)) then (idx ([0,0,32,16,8]:List Int) n>>=fun x2=>remI (i64.wrap (x.toNat:Int)) x2>>=fun v3=>some v3) else (some (i64.wrap (x.toNat:Int))) :Option Int))>>=fun p=>zan u0 b n p 1>>=fun q=>zdh q>>=fun rv4=>cut b u0 (i64.wrap (u0+n))>>=fun v4=>if (rv4==v4) then some (.inr (.inr n)) else some (.inl (i64.wrap (n+1)))) else some (.inr (.inl ()))
def zbu (u0:Int) (b:List UInt8) (n:Int):Option (Unit⊕Int):=zaa (fun s=>zbt u0 b s) n
def zcS (b:List UInt8) (u0:Int):Option Int:=zbu u0 b 1>>=fun q2=>match q2 with | .inl u=>(some 0) | .inr u2=>(some u2)
theorem zhI (h:zaR u0 b n uX i=some (.inl (rv2',i'))):zan u0 b n uX i=zan u0 b n rv2' i':=zH h
theorem zhJ (h:zaR u0 b n uX i=some (.inr vc)):zan u0 b n uX i=some vc:=zI h
theorem zhH (h:zbt u0 b n=some (.inl n')):zbu u0 b n=zbu u0 b n':=zH h
theorem zdd (h:zbt u0 b n=some (.inr vc)):zbu u0 b n=some vc:=zI h
def zaG (b:List UInt8) (most:Int) (u0:Int) (count:Int):Option ((Int×Int)⊕(Int×Int)):=zcS b u0>>=fun rv=>if ((rv==0)|| (decide ((i64.wrap (u0+rv))>most))) then some (.inr (u0,count)) else some (.inl ((i64.wrap (u0+rv)),(i64.wrap (count+1))))
def zaH (b:List UInt8) (most:Int) (u0:Int) (count:Int):Option (Int×Int):=zaa (fun s=>zaG b most s.1 s.2) (u0,count)
def zcx (b:List UInt8) (most:Int):Option (Int×Int):=zaH b most 0 0>>=fun q=>some (q.1,q.2)
theorem zhg (h:zaG b most u0 count=some (.inl (atv',count'))):zaH b most u0 count=zaH b most atv' count':=zH h
theorem zhh (h:zaG b most u0 count=some (.inr vc)):zaH b most u0 count=some vc:=zI h
def zbp (b:List UInt8):Option Bool:=zcx b (b.length:Int)>>=fun rv=>some (rv.1==(b.length:Int))
def zgd (wire:Int) (b:List UInt8):Option (Int×Int×Int):=if (wire==0) then (zeO b>>=fun rv=>some (0,rv.1,rv.2)) else (((if (wire==1) then some (0,0,8) else (if (wire==5) then some (0,0,4) else if (wire==2) then (zef b>>=fun uX=>some (uX.2.1,uX.2.2,uX.1)) else some (0,0,0)) :Option (Int×Int×Int)))>>=fun p=>if (p.2.1 !=0) then some (0,0,p.2.1) else if (decide (p.2.2>(u64.wrap (i64.wrap ((b.length:Int) - p.1))))) then some (0,0,3) else some (p.1,(i64.wrap (p.1+(i64.wrap p.2.2))),0))
def zeM (b:List UInt8) (vh:Int):Option (zh×Int):=if ((decide (vh<0))|| (decide (vh>=(b.length:Int)))) then some ((⟨0,0,0,0,0⟩:zh),2) else (cut b vh (b.length:Int)>>=fun v2=>zkh v2>>=fun rv=>if (rv.2.2 !=0) then some ((⟨0,0,0,0,0⟩:zh),rv.2.2) else (cut b (i64.wrap (vh+rv.2.1)) (b.length:Int)>>=fun v3=>zgd rv.1.Wire v3>>=fun uX=>if (uX.2.2 !=0) then some ((⟨0,0,0,0,0⟩:zh),uX.2.2) else (some ((⟨rv.1.Number,rv.1.Wire,vh,(i64.wrap ((i64.wrap (vh+rv.2.1))+uX.1)),(i64.wrap ((i64.wrap (vh+rv.2.1))+uX.2.1))⟩:zh),0))))
def zce (b:List UInt8) (vh:Int):Option (zh×Int):=if ((decide (vh<0))|| (decide (vh>=(b.length:Int)))) then some ((⟨0,0,0,0,0⟩:zh),2) else (zcR b vh>>=fun rv=>if (rv.2.2.2 !=0) then some ((⟨0,0,0,0,0⟩:zh),rv.2.2.2) else (((if (rv.2.1==5) then some 4 else (some 8) :Option Int))>>=fun p=>((if (rv.2.1==0) then (zbd b (i64.wrap (vh+rv.2.2.1))>>=fun uX=>if (uX.2.2 !=0) then some (.inr uX.2.2) else some (.inl uX.2.1)) else (some (.inl p)) :Option (Int⊕Int)))>>=fun p2=>match p2 with | .inl u=>(((if (rv.2.1==2) then (zbd b (i64.wrap (vh+rv.2.2.1))>>=fun u9=>if (u9.2.2 !=0) then some (.inr u9.2.2) else if (decide (u9.1>(u64.wrap (i64.wrap ((i64.wrap ((b.length:Int) - (i64.wrap (vh+rv.2.2.1)))) - u9.2.1))))) then some (.inr 3) else some (.inl ((i64.wrap ((i64.wrap ((b.length:Int) - (i64.wrap (vh+rv.2.2.1)))) - u9.2.1)),(i64.wrap u9.1),(i64.wrap ((i64.wrap (vh+rv.2.2.1))+u9.2.1))))) else (some (.inl ((i64.wrap ((b.length:Int) - (i64.wrap (vh+rv.2.2.1)))),u,(i64.wrap (vh+rv.2.2.1))))) :Option ((Int×Int×Int)⊕Int)))>>=fun p3=>match p3 with | .inl u2=>(if (decide (u2.2.1>u2.1)) then some ((⟨0,0,0,0,0⟩:zh),3) else some ((⟨rv.1,rv.2.1,vh,u2.2.2,(i64.wrap (u2.2.2+u2.2.1))⟩:zh),0)) | .inr u3=>(some ((⟨0,0,0,0,0⟩:zh),u3))) | .inr u4=>(some ((⟨0,0,0,0,0⟩:zh),u4))))
def ziG (wv:Int):Option Int:=some (if (1:Int)<wv then 1 else wv)
def zgO (k:Int) (wv:Int):Option (Int×Int):=((if (k==1) then some (k==1) else (some (k==8)) :Option Bool))>>=fun p=>if p then (zfU wv>>=fun rv=>zfV rv>>=fun uX=>some (uX,0)) else ((if (k==3) then some (k==3) else (if (k==5) then some (k==5) else if (k==9) then some (k==9) else if (k==10) then some (k==10) else some (k==11)) :Option Bool))>>=fun p2=>if p2 then (zfv wv>>=fun u9=>some ((u64.wrap u9),0)) else if (k==7) then (ziG wv>>=fun rv4=>some (rv4,0)) else ((if (k==2) then some (k==2) else (if (k==4) then some (k==4) else if (k==6) then some (k==6) else if (k==12) then some (k==12) else if (k==13) then some (k==13) else some (k==14)) :Option Bool))>>=fun p3=>if p3 then some (wv,0) else some (0,2)
def zgP:Option (List (Int×zj)):=some (mput (mput (mput (mput (mput (mput (mput (mput (mput (mput (mput (mput (mput (mput (mput (mput (mput ([]:List (Int×zj)) 1 (⟨[105,110,116,51,50],0⟩:zj)) 2 (⟨[105,110,116,54,52],0⟩:zj)) 3 (⟨[117,105,110,116,51,50],0⟩:zj)) 4 (⟨[117,105,110,116,54,52],0⟩:zj)) 5 (⟨[115,105,110,116,51,50],0⟩:zj)) 6 (⟨[115,105,110,116,54,52],0⟩:zj)) 7 (⟨[98,111,111,108],0⟩:zj)) 8 (⟨[101,110,117,109],0⟩:zj)) 9 (⟨[102,105,120,101,100,51,50],5⟩:zj)) 10 (⟨[115,102,105,120,101,100,51,50],5⟩:zj)) 11 (⟨[102,108,111,97,116],5⟩:zj)) 12 (⟨[102,105,120,101,100,54,52],1⟩:zj)) 13 (⟨[115,102,105,120,101,100,54,52],1⟩:zj)) 14 (⟨[100,111,117,98,108,101],1⟩:zj)) 15 (⟨[115,116,114,105,110,103],2⟩:zj)) 16 (⟨[98,121,116,101,115],2⟩:zj)) 17 (⟨[109,101,115,115,97,103,101],2⟩:zj))
def zjO:Option (List Int):=zgP>>=fun rv=>ztf rv>>=fun v=>some v
def zgA (k:Int):Option (Int×Int):=zgP>>=fun rv=>if (!(mget rv k).isSome) then some (0,2) else some (((mget rv k).getD (⟨[],0⟩:zj)).wire,0)
def zbQ (k:Int):Option Bool:=some ((decide (k>=1))&&(decide (k<=17)))
def zeI (k:Int):Option Bool:=zgA k>>=fun rv=>some ((rv.2==0)&&(rv.1 !=2))
def zcT (k:Int):Option Int:=if (decide (k>=15)) then some 2 else if (decide (k>=12)) then some 1 else if (decide (k>=9)) then some 5 else some 0
def zbc (k:Int):Option Bool:=some ((decide (k>=1))&&(decide (k<=14)))
def zdk (c:Int):Option Bool:=some ((decide (c>=48))&&(decide (c<=57)))
def zdC (c:Int):Option Bool:=some (if (decide (c>=97)) then (decide (c<=122))|| (if (decide (c>=65)) then (decide (c<=90))|| (c==95) else c==95) else (if (decide (c>=65)) then (decide (c<=90))|| (c==95) else c==95))
def zbU (name:Str) (v2:Int):Option (Int⊕(Unit⊕Unit)):=if (decide (v2<(name.length:Int))) then ((idx name v2>>=fun c2=>zdC (c2.toNat:Int)>>=fun uX=>if (!uX) then (idx name v2>>=fun c3=>zdk (c3.toNat:Int)>>=fun u9=>some (!u9)) else some false)>>=fun g2=>if g2 then some (.inr (.inr ())) else some (.inl (i64.wrap (v2+1)))) else some (.inr (.inl ()))
def zcu (name:Str) (v2:Int):Option (Unit⊕Unit):=zaa (fun s=>zbU name s) v2
def zdL (name:Str):Option Bool:=(if (name==[]) then some true else if (decide ((name.length:Int)>60)) then some true else idx name 0>>=fun c=>zdk (c.toNat:Int)>>=fun rv=>some rv)>>=fun g=>if g then some false else (zcu name 0>>=fun q=>match q with | .inl u=>(some true) | .inr u2=>(some false))
theorem zkg (h:zbU name v2=some (.inl v2')):zcu name v2=zcu name v2':=zH h
theorem zgf (h:zbU name v2=some (.inr vc)):zcu name v2=some vc:=zI h
def zdD (n:Int):Option Bool:=some ((decide (n>=1))&&((decide (n<=536870911))&&((decide (n<19000))|| (decide (n>19999)))))
def zea (f:zd):Option Bool:=(if f.Repeated then (zeI f.Kind>>=fun rv=>some rv) else some false)>>=fun g=>some g
def zcF (c:zT) (f:zd):Option Bool:=if (f.Kind==17) then some ((decide (f.Of>=0))&&(decide (f.Of<c.size))) else some (f.Of==0)
def zcE (c:zT) (message:Int) (f:zd):Option (Int×(List (zk×Bool))×(List (zm×Bool))):=zdL f.Name>>=fun rv=>if (!rv) then some (5,c.names,c.numbers) else if ((mget c.names (⟨message,f.Name⟩:zk)).getD false) then some (6,c.names,c.numbers) else zdD f.Number>>=fun uX=>if (!uX) then some (7,c.names,c.numbers) else if ((mget c.numbers (⟨message,f.Number⟩:zm)).getD false) then some (8,c.names,c.numbers) else zaX c.kinds f.Kind>>=fun u9=>if (!u9) then some (9,c.names,c.numbers) else (if f.Packed then (zea f>>=fun rv4=>some (!rv4)) else some false)>>=fun g=>if g then some (10,c.names,c.numbers) else zcF c f>>=fun rv5=>if (!rv5) then some (11,c.names,c.numbers) else some (0,(mput c.names (⟨message,f.Name⟩:zk) true),(mput c.numbers (⟨message,f.Number⟩:zm) true))
def zbZ (c:zT) (m:zc):Option (Int×(List (zk×Bool))×(List (zm×Bool))):=zdL m.Name>>=fun rv=>if (!rv) then some (2,c.names,c.numbers) else if ((mget c.names (⟨(-1),m.Name⟩:zk)).getD false) then some (3,c.names,c.numbers) else if (decide ((m.Fields.length:Int)>200)) then some (4,c.names,c.numbers) else some (0,(mput c.names (⟨(-1),m.Name⟩:zk) true),c.numbers)
def zbb (i:Int) (sv:List zc) (n3:Int) (k:Int):Option ((Int×Int)⊕Int):=idx sv i>>=fun x3=>if (decide (k<(x3.Fields.length:Int))) then (idx sv i>>=fun x4=>idx x4.Fields k>>=fun x5=>some (.inl ((i64.wrap (n3+(i64.wrap (Int.tdiv (x5.Name.length:Int) 100)))),(i64.wrap (k+1))))) else some (.inr n3)
def zbH (i:Int) (sv:List zc) (n3:Int) (k:Int):Option Int:=zaa (fun s=>zbb i sv s.1 s.2) (n3,k)
def zba (sv:List zc) (n:Int) (i:Int):Option ((Int×Int)⊕Int):=if (decide (i<(sv.length:Int))) then (idx sv i>>=fun x=>idx sv i>>=fun x2=>zbH i sv (i64.wrap ((i64.wrap ((i64.wrap (n+1))+(i64.wrap (Int.tdiv (x.Name.length:Int) 100))))+(x2.Fields.length:Int))) 0>>=fun q=>some (.inl (q,(i64.wrap (i+1))))) else some (.inr n)
def zbG (sv:List zc) (n:Int) (i:Int):Option Int:=zaa (fun s=>zba sv s.1 s.2) (n,i)
def zdf (sv:List zc):Option Bool:=zbG sv 0 0>>=fun q2=>some (decide (q2<=500))
theorem zhZ (h:zbb i sv n3 k=some (.inl (n3',k'))):zbH i sv n3 k=zbH i sv n3' k':=zH h
theorem zia (h:zbb i sv n3 k=some (.inr vc)):zbH i sv n3 k=some vc:=zI h
theorem zhX (h:zba sv n i=some (.inl (n',i'))):zbG sv n i=zbG sv n' i':=zH h
theorem zhY (h:zba sv n i=some (.inr vc)):zbG sv n i=some vc:=zI h
def zbo (rv:List Int) (sv:List zc) (v2:Int) (x:zc) (v3:Int) (f6:List (zk×Bool)) (f7:List (zm×Bool)):Option ((Int×(List (zk×Bool))×(List (zm×Bool)))⊕(((List (zk×Bool))×(List (zm×Bool)))⊕(Int×Int))):=if (decide (v3<(x.Fields.length:Int))) then (idx x.Fields v3>>=fun x2=>zcE (⟨(sv.length:Int),rv,f6,f7⟩:zT) v2 x2>>=fun rv5=>if (rv5.1 !=0) then some (.inr (.inr (v3,rv5.1))) else some (.inl ((i64.wrap (v3+1)),rv5.2.1,rv5.2.2))) else some (.inr (.inl (f6,f7)))
def zbK (rv:List Int) (sv:List zc) (v2:Int) (x:zc) (v3:Int) (f6:List (zk×Bool)) (f7:List (zm×Bool)):Option (((List (zk×Bool))×(List (zm×Bool)))⊕(Int×Int)):=zaa (fun s=>zbo rv sv v2 x s.1 s.2.1 s.2.2) (v3,f6,f7)
def zaA (rv:List Int) (sv:List zc) (v2:Int) (f:List (zk×Bool)) (f2:List (zm×Bool)):Option ((Int×(List (zk×Bool))×(List (zm×Bool)))⊕(Unit⊕(Int×Int×Int))):=if (decide (v2<(sv.length:Int))) then (idx sv v2>>=fun x=>zbZ (⟨(sv.length:Int),rv,f,f2⟩:zT) x>>=fun u9=>if (u9.1 !=0) then some (.inr (.inr (v2,(-1),u9.1))) else (zbK rv sv v2 x 0 u9.2.1 u9.2.2>>=fun q=>match q with | .inl u=>(some (.inl ((i64.wrap (v2+1)),u.1,u.2))) | .inr u2=>(some (.inr (.inr (v2,u2.1,u2.2)))))) else some (.inr (.inl ()))
def zcO (rv:List Int) (sv:List zc) (v2:Int) (f:List (zk×Bool)) (f2:List (zm×Bool)):Option (Unit⊕(Int×Int×Int)):=zaa (fun s=>zaA rv sv s.1 s.2.1 s.2.2) (v2,f,f2)
def zfd (sv:List zc):Option (zS×Int):=if ((decide ((sv.length:Int)<1))|| (decide ((sv.length:Int)>100))) then some ((⟨(-1),(-1),1⟩:zS),9) else (zjO>>=fun rv=>zcO rv sv 0 ([]:List (zk×Bool)) ([]:List (zm×Bool))>>=fun q2=>match q2 with | .inl u3=>(some ((⟨0,0,0⟩:zS),0)) | .inr u4=>(some ((⟨u4.1,u4.2.1,u4.2.2⟩:zS),9)))
theorem zkO {f6:List (zk×Bool)} {f7:List (zm×Bool)} (h:zbo rv sv v2 x v3 f6 f7=some (.inl (v3',f6',f7'))):zbK rv sv v2 x v3 f6 f7=zbK rv sv v2 x v3' f6' f7':=zH h
theorem zgs {f6:List (zk×Bool)} {f7:List (zm×Bool)} (h:zbo rv sv v2 x v3 f6 f7=some (.inr vc)):zbK rv sv v2 x v3 f6 f7=some vc:=zI h
theorem zkN {f2:List (zm×Bool)} (h:zaA rv sv v2 f f2=some (.inl (v2',f',f2'))):zcO rv sv v2 f f2=zcO rv sv v2' f' f2':=zH h
theorem zco {f2:List (zm×Bool)} (h:zaA rv sv v2 f f2=some (.inr vc)):zcO rv sv v2 f f2=some vc:=zI h
def zfe (sv:List zc):Option Bool:=zfd sv>>=fun rv=>some (rv.2==0)
def zaS (sv:Str) (i:Int):Option (Int⊕(Unit⊕Unit)):=if (decide (i<(sv.length:Int))) then (idx sv i>>=fun c=>if (!(if (decide ((c.toNat:Int)>=65)) then (decide ((c.toNat:Int)<=90))|| (if (decide ((c.toNat:Int)>=97)) then (decide ((c.toNat:Int)<=122))|| (((c.toNat:Int)==95)|| ((decide (i>0))&&((decide ((c.toNat:Int)>=48))&&(decide ((c.toNat:Int)<=57))))) else (((c.toNat:Int)==95)|| ((decide (i>0))&&((decide ((c.toNat:Int)>=48))&&(decide ((c.toNat:Int)<=57)))))) else (if (decide ((c.toNat:Int)>=97)) then (decide ((c.toNat:Int)<=122))|| (((c.toNat:Int)==95)|| ((decide (i>0))&&((decide ((c.toNat:Int)>=48))&&(decide ((c.toNat:Int)<=57))))) else (((c.toNat:Int)==95)|| ((decide (i>0))&&((decide ((c.toNat:Int)>=48))&&(decide ((c.toNat:Int)<=57)))))))) then some (.inr (.inr ())) else some (.inl (i64.wrap (i+1)))) else some (.inr (.inl ()))
def zbv (sv:Str) (i:Int):Option (Unit⊕Unit):=zaa (fun s=>zaS sv s) i
def zcf (sv:Str):Option Bool:=zbv sv 0>>=fun q=>match q with | .inl u=>(some ((decide ((sv.length:Int)>=1))&&(decide ((sv.length:Int)<=60)))) | .inr u2=>(some false)
theorem zhK (h:zaS sv i=some (.inl i')):zbv sv i=zbv sv i':=zH h
theorem zev (h:zaS sv i=some (.inr vc)):zbv sv i=some vc:=zI h
def zaL (i:Int) (k:Int) (sv:List zc) (x2:zd) (name:Bool) (number:Bool) (j:Int):Option ((Bool×Bool×Int)⊕(Bool×Bool)):=if (decide (j<k)) then ((if name then some true else idx sv i>>=fun x3=>idx x3.Fields j>>=fun x4=>some (x4.Name==x2.Name))>>=fun g=>(if number then some true else idx sv i>>=fun x5=>idx x5.Fields j>>=fun x6=>some (x6.Number==x2.Number))>>=fun g2=>some (.inl (g,g2,(i64.wrap (j+1))))) else some (.inr (name,number))
def zbi (i:Int) (k:Int) (sv:List zc) (x2:zd) (name:Bool) (number:Bool) (j:Int):Option (Bool×Bool):=zaa (fun s=>zaL i k sv x2 s.1 s.2.1 s.2.2) (name,number,j)
def zcz (sv:List zc) (i:Int) (k:Int):Option Int:=idx sv i>>=fun x=>idx x.Fields k>>=fun x2=>zbi i k sv x2 false false 0>>=fun q=>zcf x2.Name>>=fun rv=>if (!rv) then some 5 else (if q.1 then some 6 else (if ((decide (x2.Number<1))|| ((decide (x2.Number>536870911))|| ((decide (x2.Number>=19000))&&(decide (x2.Number<20000))))) then some 7 else (if q.2 then some 8 else (zbQ x2.Kind>>=fun uX=>if (!uX) then some 9 else ((if x2.Packed then (if x2.Repeated then (zbc x2.Kind>>=fun u9=>some (!u9)) else some (!false)) else some false)>>=fun g3=>if g3 then some 10 else (if (if (x2.Kind==17) then (decide (x2.Of<0))|| ((decide (x2.Of>=(sv.length:Int)))|| ((x2.Kind !=17)&&(x2.Of !=0))) else (x2.Kind !=17)&&(x2.Of !=0)) then some 11 else some 0))))))
theorem zhm (h:zaL i k sv x2 name number j=some (.inl (name',number',j'))):zbi i k sv x2 name number j=zbi i k sv x2 name' number' j':=zH h
theorem zhn (h:zaL i k sv x2 name number j=some (.inr vc)):zbi i k sv x2 name number j=some vc:=zI h
def zaJ (i:Int) (sv:List zc) (twice:Bool) (k:Int):Option ((Bool×Int)⊕Bool):=if (decide (k<i)) then ((if twice then some true else idx sv k>>=fun x=>idx sv i>>=fun x2=>some (x.Name==x2.Name))>>=fun g=>some (.inl (g,(i64.wrap (k+1))))) else some (.inr twice)
def zbg (i:Int) (sv:List zc) (twice:Bool) (k:Int):Option Bool:=zaa (fun s=>zaJ i sv s.1 s.2) (twice,k)
def zaK (i:Int) (sv:List zc) (k2:Int):Option (Int⊕(Unit⊕(Int×Int))):=idx sv i>>=fun x5=>if (decide (k2<(x5.Fields.length:Int))) then (zcz sv i k2>>=fun uX=>if (decide (uX>0)) then some (.inr (.inr (k2,uX))) else some (.inl (i64.wrap (k2+1)))) else some (.inr (.inl ()))
def zbh (i:Int) (sv:List zc) (k2:Int):Option (Unit⊕(Int×Int)):=zaa (fun s=>zaK i sv s) k2
def zaI (sv:List zc) (i:Int):Option (Int⊕(Unit⊕(Int×Int×Int))):=if (decide (i<(sv.length:Int))) then (zbg i sv false 0>>=fun q=>idx sv i>>=fun x3=>zcf x3.Name>>=fun rv=>if (!rv) then some (.inr (.inr (i,(-1),2))) else (if q then some (.inr (.inr (i,(-1),3))) else (idx sv i>>=fun x4=>if (decide ((x4.Fields.length:Int)>200)) then some (.inr (.inr (i,(-1),4))) else (zbh i sv 0>>=fun q2=>match q2 with | .inl u=>(some (.inl (i64.wrap (i+1)))) | .inr u2=>(some (.inr (.inr (i,u2.1,u2.2)))))))) else some (.inr (.inl ()))
def zbN (sv:List zc) (i:Int):Option (Unit⊕(Int×Int×Int)):=zaa (fun s=>zaI sv s) i
def zcy (sv:List zc):Option (Int×Int×Int):=if (((sv.length:Int)==0)|| (decide ((sv.length:Int)>100))) then some ((-1),(-1),1) else (zbN sv 0>>=fun q3=>match q3 with | .inl u3=>(some (0,0,0)) | .inr u4=>(some (u4.1,u4.2.1,u4.2.2)))
theorem zhj (h:zaJ i sv twice k=some (.inl (twice',k'))):zbg i sv twice k=zbg i sv twice' k':=zH h
theorem zhk (h:zaJ i sv twice k=some (.inr vc)):zbg i sv twice k=some vc:=zI h
theorem zhl (h:zaK i sv k2=some (.inl k2')):zbh i sv k2=zbh i sv k2':=zH h
theorem zeo (h:zaK i sv k2=some (.inr vc)):zbh i sv k2=some vc:=zI h
theorem zhi (h:zaI sv i=some (.inl i')):zbN sv i=zbN sv i':=zH h
theorem zaZ (h:zaI sv i=some (.inr vc)):zbN sv i=some vc:=zI h
def zaM (m:zc) (number:Int) (i:Int):Option (Int⊕(Unit⊕Int)):=if (decide (i<(m.Fields.length:Int))) then (idx m.Fields i>>=fun x=>if (x.Number==number) then some (.inr (.inr i)) else some (.inl (i64.wrap (i+1)))) else some (.inr (.inl ()))
def zbO (m:zc) (number:Int) (i:Int):Option (Unit⊕Int):=zaa (fun s=>zaM m number s) i
def zcA (m:zc) (number:Int):Option Int:=zbO m number 0>>=fun q=>match q with | .inl u=>(some (-1)) | .inr u2=>(some u2)
theorem zho (h:zaM m number i=some (.inl i')):zbO m number i=zbO m number i':=zH h
theorem zep (h:zaM m number i=some (.inr vc)):zbO m number i=some vc:=zI h
def zar (av:List Int) (b:List Int) (i:Int):Option (Int⊕(Unit⊕Unit)):=if (decide (i<(av.length:Int))) then (idx av i>>=fun x=>idx b i>>=fun x2=>if (x !=x2) then some (.inr (.inr ())) else some (.inl (i64.wrap (i+1)))) else some (.inr (.inl ()))
def zbl (av:List Int) (b:List Int) (i:Int):Option (Unit⊕Unit):=zaa (fun s=>zar av b s) i
def zbj (av:List Int) (b:List Int):Option Bool:=if ((av.length:Int) !=(b.length:Int)) then some false else (zbl av b 0>>=fun q=>match q with | .inl u=>(some true) | .inr u2=>(some false))
theorem zgk {av:List Int} {b:List Int} {i:Int} {i':Int} (h:zar av b i=some (.inl i')):zbl av b i=zbl av b i':=zH h
theorem zdx {av:List Int} {b:List Int} {i:Int} {vc:(Unit⊕Unit)} (h:zar av b i=some (.inr vc)):zbl av b i=some vc:=zI h
def zcB (sv:List zc):Option Bool:=zcy sv>>=fun rv=>some (rv.2.2==0)
def zfc (k:Int):Option (Int×Int):=((if (k==1) then some (k==1) else (if (k==2) then some (k==2) else if (k==3) then some (k==3) else if (k==4) then some (k==4) else if (k==5) then some (k==5) else if (k==6) then some (k==6) else if (k==7) then some (k==7) else some (k==8)) :Option Bool))>>=fun p=>if p then some (0,0) else ((if (k==9) then some (k==9) else (if (k==10) then some (k==10) else some (k==11)) :Option Bool))>>=fun p2=>if p2 then some (4,0) else if (k==12) then if (k==12) then some (8,0) else (some (0,2)) else if (k==13) then if (k==13) then some (8,0) else (some (0,2)) else if (k==14) then some (8,0) else some (0,2)
def zge (k:Int) (wv:Int):Option Int:=zfc k>>=fun rv=>if ((rv.2 !=0)|| (rv.1 !=0)) then some rv.1 else zgO k wv>>=fun uX=>zjw uX.1>>=fun u9=>some u9
def zim (k:Int):Option Int:=zge k 0>>=fun rv=>some rv
def zil (wide:Int) (b:List UInt8):Option (Int×Int):=if (wide==1) then (zeO b>>=fun rv=>some (rv.1,rv.2)) else if (decide (wide>(b.length:Int))) then some (0,3) else some (wide,0)
def zaY {σ:Type} (kf:(Rnd σ ((List UInt8)×Int))) (rv:Int) (uY:List UInt8) (sg2:σ):Option (((List UInt8)×σ)⊕(σ⊕σ)):=if (decide ((uY.length:Int)>0)) then (zil rv uY>>=fun uX=>cut uY 0 uX.1>>=fun v3=>kf sg2 (v3,uX.2)>>=fun y2=>if ((!y2.1)|| (uX.2 !=0)) then some (.inr (.inr y2.2)) else cut uY uX.1 (uY.length:Int)>>=fun v5=>some (.inl (v5,y2.2))) else some (.inr (.inl sg2))
def zcN {σ:Type} (kf:(Rnd σ ((List UInt8)×Int))) (rv:Int) (uY:List UInt8) (sg2:σ):Option (σ⊕σ):=zaa (fun s=>zaY kf rv s.1 s.2) (uY,sg2)
def zdu {σ:Type} (v:Int) (v2:List UInt8) (kf:Rnd σ ((List UInt8)×Int)) (sg:σ):Option σ:=zim v>>=fun rv=>if (rv==0) then (kf sg (([]:List UInt8),2)>>=fun y=>some y.2) else (zcN kf rv v2 sg>>=fun q=>match q with | .inl u=>(some u) | .inr u2=>(some u2))
theorem zkM {σ:Type} {kf:(Rnd σ ((List UInt8)×Int))} {rv:Int} {uY:List UInt8} {sg2:σ} {rest':List UInt8} {sg2':σ} (h:zaY kf rv uY sg2=some (.inl (rest',sg2'))):zcN kf rv uY sg2=zcN kf rv rest' sg2':=zH h
theorem zet {σ:Type} {kf:(Rnd σ ((List UInt8)×Int))} {rv:Int} {uY:List UInt8} {sg2:σ} {vc:(σ⊕σ)} (h:zaY kf rv uY sg2=some (.inr vc)):zcN kf rv uY sg2=some vc:=zI h
def ziP (k:Int) (b:List UInt8):Option (Int×(List UInt8)):=some (k,b)
def zao (b:List UInt8) (k:Int) (out:List Int) (u0:Int):Option (((List Int)×Int)⊕((List Int)⊕Int)):=if (decide (u0<(b.length:Int))) then (((if (decide (k<12)) then some 4 else (some 8) :Option Int))>>=fun p=>((if (decide (k<9)) then (zbd b u0>>=fun uX=>if (uX.2.2 !=0) then some (.inr uX.2.2) else some (.inl uX.2.1)) else (some (.inl p)) :Option (Int⊕Int)))>>=fun p2=>match p2 with | .inl u=>(if (decide ((i64.wrap (u0+u))>(b.length:Int))) then some (.inr (.inr 3)) else app 8 out ([(i64.wrap (u0+u))]:List Int)>>=fun v3=>some (.inl (v3,(i64.wrap (u0+u))))) | .inr u2=>(some (.inr (.inr u2)))) else some (.inr (.inl out))
def zaT (b:List UInt8) (k:Int) (out:List Int) (u0:Int):Option ((List Int)⊕Int):=zaa (fun s=>zao b k s.1 s.2) (out,u0)
def zcU (k:Int) (b:List UInt8):Option ((List Int)×Int):=zbc k>>=fun rv=>if (!rv) then some ([],2) else (zaT b k [] 0>>=fun q=>match q with | .inl u3=>(some (u3,0)) | .inr u4=>(some ([],u4)))
theorem zhM {b:List UInt8} {k:Int} {out:List Int} {u0:Int} {out':List Int} {atv':Int} (h:zao b k out u0=some (.inl (out',atv'))):zaT b k out u0=zaT b k out' atv':=zH h
theorem zew {b:List UInt8} {k:Int} {out:List Int} {u0:Int} {vc:((List Int)⊕Int)} (h:zao b k out u0=some (.inr vc)):zaT b k out u0=some vc:=zI h
def zcZ (f:Int) (x:List UInt8) (x2:Int):Option (Int⊕(Int×Int)):=if (x2 !=0) then some (.inr (x2,f)) else some (.inl (i64.wrap (f+1)))
def zik (k:Int) (b:List UInt8):Option (Int×Int):=ziP k b>>=fun rv=>zdu rv.1 rv.2 (rnd (fun (s:Int) (x:((List UInt8)×Int))=>zcZ s x.1 x.2)) (.inl 0)>>=fun q=>match q with | .inl u=>(some (u,0)) | .inr j=>(some (0,j.1))
def zfh (f:zd) (v:Int):Option Bool:=some (f.Number==v)
def zv (sv:List zd) (v:Int) (v2:Int):Option (Int⊕(Unit⊕Int)):=if (decide (v2<(sv.length:Int))) then (idx sv v2>>=fun x=>zfh x v>>=fun rv=>if rv then some (.inr (.inr v2)) else some (.inl (i64.wrap (v2+1)))) else some (.inr (.inl ()))
def zy (sv:List zd) (v:Int) (v2:Int):Option (Unit⊕Int):=zaa (fun s=>zv sv v s) v2
def zN (sv:List zd) (v:Int):Option Int:=zy sv v 0>>=fun q=>match q with | .inl u=>(some (-1)) | .inr u2=>(some u2)
theorem zbL (h:zv sv v v2=some (.inl v2')):zy sv v v2=zy sv v v2':=zH h
theorem zax (h:zv sv v v2=some (.inr vc)):zy sv v v2=some vc:=zI h
def zhd (m:zc) (number:Int):Option Int:=zN m.Fields number>>=fun rv=>some rv
def zhe (f:zd) (wire:Int):Option Bool:=(if f.Repeated then (if (wire==2) then (zeI f.Kind>>=fun rv=>some rv) else some false) else some false)>>=fun g=>some g
def zix (k:Int) (wire:Int):Option Bool:=zgA k>>=fun rv=>some ((rv.2==0)&&(rv.1==wire))
def zeP (m:zc) (hv:zx):Option zz:=zhd m hv.number>>=fun rv=>if (rv==(-1)) then some (⟨(-1),false,0⟩:zz) else idx m.Fields rv>>=fun x=>zhe x hv.wire>>=fun uX=>(if (!uX) then (zix x.Kind hv.wire>>=fun u9=>some (!u9)) else some false)>>=fun g=>if g then some (⟨0,false,6⟩:zz) else some (⟨rv,uX,0⟩:zz)
def zgF (m:zc) (b:List UInt8) (vh:Int) (met:List (zx×zz)):Option (za×Int×(List (zx×zz))):=zeM b vh>>=fun rv=>if (rv.2 !=0) then some ((⟨(⟨0,0,0,0,0⟩:zh),0,false⟩:za),rv.2,met) else (((if (!(mget met (⟨rv.1.Number,rv.1.Wire⟩:zx)).isSome) then (zeP m (⟨rv.1.Number,rv.1.Wire⟩:zx)>>=fun uX=>some ((mput met (⟨rv.1.Number,rv.1.Wire⟩:zx) uX),uX.field,uX.run,uX.e)) else (some (met,((mget met (⟨rv.1.Number,rv.1.Wire⟩:zx)).getD (⟨0,false,0⟩:zz)).field,((mget met (⟨rv.1.Number,rv.1.Wire⟩:zx)).getD (⟨0,false,0⟩:zz)).run,((mget met (⟨rv.1.Number,rv.1.Wire⟩:zx)).getD (⟨0,false,0⟩:zz)).e)) :Option ((List (zx×zz))×Int×Bool×Int)))>>=fun p=>if (p.2.2.2 !=0) then some ((⟨(⟨0,0,0,0,0⟩:zh),0,false⟩:za),p.2.2.2,p.1) else some ((⟨rv.1,p.2.1,p.2.2.1⟩:za),0,p.1))
def zcs (b:List UInt8) (m:zc) (l:List za) (met:List (zx×zz)) (vh:Int):Option (((List za)×(List (zx×zz))×Int)⊕((List za)⊕(Int×Int))):=if (decide (vh<(b.length:Int))) then (zgF m b vh met>>=fun uX=>if (uX.2.1 !=0) then some (.inr (.inr (vh,uX.2.1))) else app 56 l ([uX.1]:List za)>>=fun v=>some (.inl (v,uX.2.2,uX.1.Record.To))) else some (.inr (.inl l))
def zeg (b:List UInt8) (m:zc) (l:List za) (met:List (zx×zz)) (vh:Int):Option ((List za)⊕(Int×Int)):=zaa (fun s=>zcs b m s.1 s.2.1 s.2.2) (l,met,vh)
def zko (m:zc) (b:List UInt8):Option ((List za)×Int×Int):=zeg b m [] ([]:List (zx×zz)) 0>>=fun q=>match q with | .inl u=>(some (u,0,0)) | .inr u2=>(some ([],u2.1,u2.2))
theorem zja (h:zcs b m l met vh=some (.inl (l',vf,fromv'))):zeg b m l met vh=zeg b m l' vf fromv':=zH h
theorem zgo (h:zcs b m l met vh=some (.inr vc)):zeg b m l met vh=some vc:=zI h
def ziw (m:zc) (b:List UInt8) (vh:Int):Option (za×Int):=zgF m b vh ([]:List (zx×zz))>>=fun uX=>some (uX.1,uX.2.1)
def zcV (m:zc) (b:List UInt8) (vh:Int):Option (zaq×Int):=zce b vh>>=fun rv=>if (rv.2 !=0) then some ((⟨(⟨0,0,0,0,0⟩:zh),0,false⟩:zaq),rv.2) else zcA m rv.1.Number>>=fun uX=>if (decide (uX<0)) then some ((⟨rv.1,(-1),false⟩:zaq),0) else idx m.Fields uX>>=fun x=>(if x.Repeated then (zbc x.Kind>>=fun u9=>if u9 then some (rv.1.Wire==2) else some false) else some false)>>=fun g=>if g then some ((⟨rv.1,uX,true⟩:zaq),0) else (zbQ x.Kind>>=fun rv4=>if (!rv4) then some true else zcT x.Kind>>=fun rv5=>some (rv5 !=rv.1.Wire))>>=fun g2=>if g2 then some ((⟨(⟨0,0,0,0,0⟩:zh),0,false⟩:zaq),6) else some ((⟨rv.1,uX,false⟩:zaq),0)
def zdF (wv:zL) (message:Int) (vh:Int) (tov:Int):Option (za×Int×(List (zg×za))):=cut wv.b 0 tov>>=fun v=>zeM v vh>>=fun rv=>if (rv.2 !=0) then some ((⟨(⟨0,0,0,0,0⟩:zh),0,false⟩:za),rv.2,wv.met) else (if (!(mget wv.met (⟨message,rv.1.Number,rv.1.Wire⟩:zg)).isSome) then (idx wv.s message>>=fun x=>ziw x v vh>>=fun uX=>if (uX.2 !=0) then some ((⟨(⟨0,0,0,0,0⟩:zh),0,false⟩:za),uX.2,wv.met) else some ((⟨rv.1,uX.1.Field,uX.1.Run⟩:za),0,(mput wv.met (⟨message,rv.1.Number,rv.1.Wire⟩:zg) uX.1))) else (some ((⟨rv.1,(((mget wv.met (⟨message,rv.1.Number,rv.1.Wire⟩:zg)).getD (⟨(⟨0,0,0,0,0⟩:zh),0,false⟩:za)).Field),(((mget wv.met (⟨message,rv.1.Number,rv.1.Wire⟩:zg)).getD (⟨(⟨0,0,0,0,0⟩:zh),0,false⟩:za)).Run)⟩:za),0,wv.met)))
def zgi (f:zd) (isRun:Bool) (value:List UInt8):Option Int:=if isRun then (zik f.Kind value>>=fun rv=>some rv.2) else (if (f.Kind==15) then (zit value>>=fun uX=>some (!uX)) else some false)>>=fun g=>if g then some 7 else if (f.Kind==17) then some 8 else some 0
def zZ (d:Int) (message:Int) (xa:zL->Int->za->Int->Option (zn×(List (zg×za)))) (tov:Int) (wv:zL) (wv2:List (zg×za)) (vk:Int) (depth:Int):Option (((List (zg×za))×Int×Int)⊕(((List (zg×za))×Int)⊕((List (zg×za))×Int×Int×Int))):=if (decide (vk<tov)) then (zdF (⟨wv.s,wv.b,wv2⟩:zL) message vk tov>>=fun uX=>if (uX.2.1 !=0) then some (.inr (.inr (uX.2.2,0,vk,uX.2.1))) else xa (⟨wv.s,wv.b,uX.2.2⟩:zL) message uX.1 d>>=fun rv4=>if (rv4.1.e !=0) then some (.inr (.inr (rv4.2,rv4.1.depth,rv4.1.place,rv4.1.e))) else some (.inl (rv4.2,uX.1.Record.To,(if depth<rv4.1.depth then rv4.1.depth else depth)))) else some (.inr (.inl (wv2,depth)))
def zaO (d:Int) (message:Int) (xa:zL->Int->za->Int->Option (zn×(List (zg×za)))) (tov:Int) (wv:zL) (wv2:List (zg×za)) (vk:Int) (depth:Int):Option (((List (zg×za))×Int)⊕((List (zg×za))×Int×Int×Int)):=zaa (fun s=>zZ d message xa tov wv s.1 s.2.1 s.2.2) (wv2,vk,depth)
def zcb (xc:zL->Int->Int->Int->Int->Option (zn×(List (zg×za)))) (xa:zL->Int->za->Int->Option (zn×(List (zg×za)))) (wv:zL) (message:Int) (vh:Int) (tov:Int) (d:Int):Option (zn×(List (zg×za))):=zaO d message xa tov wv wv.met vh 0>>=fun q=>match q with | .inl u=>(some ((⟨u.2,0,0⟩:zn),u.1)) | .inr u2=>(some ((⟨u2.2.1,u2.2.2.1,u2.2.2.2⟩:zn),u2.1))
def zcG (xc:zL->Int->Int->Int->Int->Option (zn×(List (zg×za)))) (xa:zL->Int->za->Int->Option (zn×(List (zg×za)))) (wv:zL) (message:Int) (v:za) (d:Int):Option (zn×(List (zg×za))):=if (v.Field==(-1)) then some ((⟨0,0,0⟩:zn),wv.met) else idx wv.s message>>=fun x=>idx x.Fields v.Field>>=fun x2=>if ((x2.Kind==17)&&(decide (d>0))) then (xc wv x2.Of v.Record.At v.Record.To (i64.wrap (d - 1))>>=fun uX=>some ((⟨(i64.wrap (uX.1.depth+1)),uX.1.place,uX.1.e⟩:zn),uX.2)) else cut wv.b v.Record.At v.Record.To>>=fun v3=>zgi x2 v.Run v3>>=fun u9=>if (u9 !=0) then some ((⟨0,v.Record.From,u9⟩:zn),wv.met) else some ((⟨0,0,0⟩:zn),wv.met)
def zM:Nat->(zL->Int->Int->Int->Int->Option (zn×(List (zg×za))))×(zL->Int->za->Int->Option (zn×(List (zg×za)))) | 0=>(fun _ _ _ _ _=>none,fun _ _ _ _=>none) | uZ+1=>(fun wv message vh tov d=>zcb (zM uZ).1 (zM uZ).2 wv message vh tov d,fun wv message v d=>zcG (zM uZ).1 (zM uZ).2 wv message v d)
def zah (uZ:Nat):zL->Int->Int->Int->Int->Option (zn×(List (zg×za))):=(zM uZ).1
def zbV (uZ:Nat):zL->Int->za->Int->Option (zn×(List (zg×za))):=(zM uZ).2
theorem zhq (h:zZ d message xa tov wv wv2 vk depth=some (.inl (wv2',fromv2',depth'))):zaO d message xa tov wv wv2 vk depth=zaO d message xa tov wv wv2' fromv2' depth':=zH h
theorem zbM (h:zZ d message xa tov wv wv2 vk depth=some (.inr vc)):zaO d message xa tov wv wv2 vk depth=some vc:=zI h
def zgZ (sv:List zc) (root:Int) (d:Int):Option Int:=zfe sv>>=fun rv=>if (!rv) then some 9 else (if ((decide (root<0))|| ((decide (root>=(sv.length:Int)))|| ((decide (d<0))|| (decide (d>64))))) then some 2 else some 0)
def zhb (uZ:Nat) (sv:List zc) (root:Int) (b:List UInt8) (d:Int):Option zn:=zgZ sv root d>>=fun rv=>if (rv !=0) then some (⟨0,0,rv⟩:zn) else (zah uZ (⟨sv,b,([]:List (zg×za))⟩:zL) root 0 (b.length:Int) d>>=fun u9=>some u9.1)
def zee (uZ:Nat) (sv:List zc) (root:Int) (b:List UInt8) (d:Int):Option (Int×Int):=zhb uZ sv root b d>>=fun rv=>some (rv.place,rv.e)
def zcW (sv:List zc) (root:Int) (d:Int):Option Int:=zcB sv>>=fun rv=>if (!rv) then some 9 else (if ((decide (root<0))|| ((decide (root>=(sv.length:Int)))|| ((decide (d<0))|| (decide (d>64))))) then some 2 else some 0)
def zay (b:List UInt8) (d:Int) (m:Int) (xb:(List zc)->Int->(List UInt8)->Int->Option (Int×Int)) (sv:List zc) (u0:Int):Option (Int⊕(Unit⊕(Int×Int))):=if (decide (u0<(b.length:Int))) then (idx sv m>>=fun x=>zcV x b u0>>=fun rv=>if (rv.2 !=0) then some (.inr (.inr (u0,rv.2))) else cut b rv.1.R.At rv.1.R.To>>=fun v3=>if (decide (rv.1.Field>=0)) then (idx sv m>>=fun x2=>idx x2.Fields rv.1.Field>>=fun x3=>if rv.1.Run then (zcU x3.Kind v3>>=fun uX=>if (uX.2 !=0) then some (.inr (.inr (u0,uX.2))) else some (.inl rv.1.R.To)) else (if (x3.Kind==15) then (zbp v3>>=fun u9=>some (!u9)) else some false)>>=fun g=>if g then some (.inr (.inr (u0,7))) else if (x3.Kind==17) then (if (d==0) then some (.inr (.inr (u0,8))) else xb sv x3.Of v3 (i64.wrap (d - 1))>>=fun rv4=>if (rv4.2 !=0) then some (.inr (.inr ((i64.wrap (rv.1.R.At+rv4.1)),rv4.2))) else some (.inl rv.1.R.To)) else some (.inl rv.1.R.To)) else some (.inl rv.1.R.To)) else some (.inr (.inl ()))
def zaz (b:List UInt8) (d:Int) (m:Int) (xb:(List zc)->Int->(List UInt8)->Int->Option (Int×Int)) (sv:List zc) (u0:Int):Option (Unit⊕(Int×Int)):=zaa (fun s=>zay b d m xb sv s) u0
def zaU (xb:(List zc)->Int->(List UInt8)->Int->Option (Int×Int)) (sv:List zc) (m:Int) (b:List UInt8) (d:Int):Option (Int×Int):=zaz b d m xb sv 0>>=fun q=>match q with | .inl u=>(some (0,0)) | .inr u2=>(some (u2.1,u2.2))
def zas:Nat->(List zc)->Int->(List UInt8)->Int->Option (Int×Int) | 0,_,_,_,_=>none | uZ+1,sv,m,b,d=>zaU (zas uZ) sv m b d
theorem zhp {b:List UInt8} {d:Int} {m:Int} {xb:(List zc)->Int->(List UInt8)->Int->Option (Int×Int)} {sv:List zc} {u0:Int} {atv':Int} (h:zay b d m xb sv u0=some (.inl atv')):zaz b d m xb sv u0=zaz b d m xb sv atv':=zH h
theorem zcK {b:List UInt8} {d:Int} {m:Int} {xb:(List zc)->Int->(List UInt8)->Int->Option (Int×Int)} {sv:List zc} {u0:Int} {vc:(Unit⊕(Int×Int))} (h:zay b d m xb sv u0=some (.inr vc)):zaz b d m xb sv u0=some vc:=zI h
def zbR (uZ:Nat) (sv:List zc) (root:Int) (b:List UInt8) (d:Int):Option (Int×Int):=zcW sv root d>>=fun rv=>if (rv !=0) then some (0,rv) else zas uZ sv root b d>>=fun uX=>some (uX.1,uX.2)
def zdy (uZ:Nat) (sv:List zc) (root:Int) (b:List UInt8) (d:Int):Option Bool:=zbR uZ sv root b d>>=fun rv=>some (rv.2==0)
def zeK (uZ:Nat) (sv:List zc) (root:Int) (av:List UInt8) (b:List UInt8) (d:Int):Option Int:=zee uZ sv root av d>>=fun rv=>if (rv.2 !=0) then some rv.2 else zee uZ sv root b d>>=fun uX=>some uX.2
def zgC (uZ:Nat) (sv:List zc) (root:Int) (av:List UInt8) (b:List UInt8) (d:Int):Option ((List UInt8)×Int):=zeK uZ sv root av b d>>=fun rv=>if (rv !=0) then some ([],rv) else zaW ([av,b]:List (List UInt8))>>=fun uX=>some (uX,0)
def zdn (m:zc) (b:List UInt8):Option (List za):=zko m b>>=fun rv=>some rv.1
def zbe (m:zc) (rv:List za) (fields:List (Int×Bool)) (v:Int):Option (((List (Int×Bool))×Int)⊕(List (Int×Bool))):=if (decide (v<(rv.length:Int))) then (idx rv v>>=fun x=>(if (x.Field !=(-1)) then (idx m.Fields x.Field>>=fun x2=>if (!x2.Repeated) then (idx m.Fields x.Field>>=fun x3=>some (x3.Kind !=17)) else some false) else some false)>>=fun g=>if g then some (.inl ((mput fields x.Field true),(i64.wrap (v+1)))) else some (.inl (fields,(i64.wrap (v+1))))) else some (.inr fields)
def zbD (m:zc) (rv:List za) (fields:List (Int×Bool)) (v:Int):Option (List (Int×Bool)):=zaa (fun s=>zbe m rv s.1 s.2) (fields,v)
def zdY (m:zc) (b:List UInt8):Option (List (Int×Bool)):=zdn m b>>=fun rv=>zbD m rv ([]:List (Int×Bool)) 0>>=fun q=>some q
theorem zfr {m:zc} {rv:List za} {fields:List (Int×Bool)} {v:Int} {fields':List (Int×Bool)} {v':Int} (h:zbe m rv fields v=some (.inl (fields',v'))):zbD m rv fields v=zbD m rv fields' v':=zH h
theorem zjm {m:zc} {rv:List za} {fields:List (Int×Bool)} {v:Int} {vc:List (Int×Bool)} (h:zbe m rv fields v=some (.inr vc)):zbD m rv fields v=some vc:=zI h
def zcr (uX:List (Int×Bool)) (u9:List za) (gone:Int) (v:Int):Option ((Int×Int)⊕Int):=if (decide (v<(u9.length:Int))) then (idx u9 v>>=fun x2=>if ((mget uX x2.Field).getD false) then some (.inl ((i64.wrap (gone+1)),(i64.wrap (v+1)))) else some (.inl (gone,(i64.wrap (v+1))))) else some (.inr gone)
def zdJ (uX:List (Int×Bool)) (u9:List za) (gone:Int) (v:Int):Option Int:=zaa (fun s=>zcr uX u9 s.1 s.2) (gone,v)
def zfD (uZ:Nat) (sv:List zc) (root:Int) (av:List UInt8) (b:List UInt8) (d:Int):Option (Int×Int):=zeK uZ sv root av b d>>=fun rv=>if (rv !=0) then some (0,rv) else idx sv root>>=fun x=>zdY x b>>=fun uX=>zdn x av>>=fun u9=>zdJ uX u9 0 0>>=fun q=>some (q,0)
theorem zhv {uX:List (Int×Bool)} {u9:List za} {gone:Int} {v:Int} {gone':Int} {v':Int} (h:zcr uX u9 gone v=some (.inl (gone',v'))):zdJ uX u9 gone v=zdJ uX u9 gone' v':=zH h
theorem zma {uX:List (Int×Bool)} {u9:List za} {gone:Int} {v:Int} {vc:Int} (h:zcr uX u9 gone v=some (.inr vc)):zdJ uX u9 gone v=some vc:=zI h
def zcv (uZ:Nat):Option Bool:=zgC uZ ([(⟨[109],([(⟨[97],1,3,false,false,0⟩:zd)]:List zd)⟩:zc)]:List zc) 0 ([(8:UInt8),(1:UInt8)]:List UInt8) ([(8:UInt8),(2:UInt8)]:List UInt8) 0>>=fun rv=>zfD uZ ([(⟨[109],([(⟨[97],1,3,false,false,0⟩:zd)]:List zd)⟩:zc)]:List zc) 0 ([(8:UInt8),(1:UInt8)]:List UInt8) ([(8:UInt8),(2:UInt8)]:List UInt8) 0>>=fun uX=>(if ((i64.wrap ((i64.wrap rv.2)+(i64.wrap uX.2)))==0) then (if (uX.1==1) then (zcP rv.1 ([(8:UInt8),(1:UInt8),(8:UInt8),(2:UInt8)]:List UInt8)>>=fun u9=>some u9) else some false) else some false)>>=fun g=>some g
def zck (uX:List za) (l:List Int) (v:Int):Option (((List Int)×Int)⊕(List Int)):=if (decide (v<(uX.length:Int))) then (idx uX v>>=fun x2=>app 8 l ([x2.Record.To]:List Int)>>=fun v2=>some (.inl (v2,(i64.wrap (v+1))))) else some (.inr l)
def zcM (uX:List za) (l:List Int) (v:Int):Option (List Int):=zaa (fun s=>zck uX s.1 s.2) (l,v)
def zfa (uZ:Nat) (sv:List zc) (root:Int) (b:List UInt8) (d:Int):Option ((List Int)×Int):=zee uZ sv root b d>>=fun rv=>if (rv.2 !=0) then some ([],rv.2) else idx sv root>>=fun x=>zdn x b>>=fun uX=>zcM uX ([0]:List Int) 0>>=fun q=>some (q,0)
theorem zkJ {uX:List za} {l:List Int} {v:Int} {l':List Int} {v':Int} (h:zck uX l v=some (.inl (l',v'))):zcM uX l v=zcM uX l' v':=zH h
theorem zkK {uX:List za} {l:List Int} {v:Int} {vc:List Int} (h:zck uX l v=some (.inr vc)):zcM uX l v=some vc:=zI h
def zdg (uZ:Nat) (sv:List zc) (root:Int) (b:List UInt8) (d:Int):Option Bool:=zdy uZ sv root b d>>=fun rv=>some rv
def zac (uZ:Nat) (b:List UInt8) (d:Int) (root:Int) (sv:List zc) (atv2:Int) (tov:Int):Option ((Int×Int)⊕Int):=cut b atv2 tov>>=fun v3=>zdg uZ sv root v3 d>>=fun rv5=>if rv5 then some (.inr tov) else some (.inl (atv2,(i64.wrap (tov+1))))
def zav (uZ:Nat) (b:List UInt8) (d:Int) (root:Int) (sv:List zc) (atv2:Int) (tov:Int):Option Int:=zaa (fun s=>zac uZ b d root sv s.1 s.2) (atv2,tov)
def zab (uZ:Nat) (b:List UInt8) (d:Int) (root:Int) (sv:List zc) (want:List Int) (u0:Int):Option (((List Int)×Int)⊕(List Int)):=if (decide (u0<(b.length:Int))) then (zav uZ b d root sv u0 (i64.wrap (u0+1))>>=fun q=>app 8 want ([q]:List Int)>>=fun v4=>some (.inl (v4,q))) else some (.inr want)
def zau (uZ:Nat) (b:List UInt8) (d:Int) (root:Int) (sv:List zc) (want:List Int) (u0:Int):Option (List Int):=zaa (fun s=>zab uZ b d root sv s.1 s.2) (want,u0)
def zat (uZ:Nat) (b:List UInt8) (d:Int) (root:Int) (u9:((List Int)×Int)) (sv:List zc) (i:Int):Option (Int⊕(Unit⊕Unit)):=if (decide (i<(u9.1.length:Int))) then (idx u9.1 i>>=fun x=>cut b 0 x>>=fun v6=>idx u9.1 i>>=fun x2=>cut b x2 (b.length:Int)>>=fun v7=>zgC uZ sv root v6 v7 d>>=fun rv7=>(if ((i64.wrap rv7.2) !=0) then some true else zcP rv7.1 b>>=fun rv8=>some (!rv8))>>=fun g2=>if g2 then some (.inr (.inr ())) else some (.inl (i64.wrap (i+1)))) else some (.inr (.inl ()))
def zaw (uZ:Nat) (b:List UInt8) (d:Int) (root:Int) (u9:((List Int)×Int)) (sv:List zc) (i:Int):Option (Unit⊕Unit):=zaa (fun s=>zat uZ b d root u9 sv s) i
def zbk (uZ:Nat) (sv:List zc) (root:Int) (b:List UInt8) (d:Int):Option Bool:=zcv uZ>>=fun rv=>if (!rv) then some false else (zdf sv>>=fun uX=>if ((!uX)|| (decide ((b.length:Int)>300))) then some true else (zfa uZ sv root b d>>=fun u9=>zbR uZ sv root b d>>=fun rv4=>if (rv4.2 !=0) then some (((i64.wrap u9.2)==rv4.2)&&((u9.1.length:Int)==0)) else (zau uZ b d root sv ([0]:List Int) 0>>=fun q2=>(if ((i64.wrap u9.2) !=0) then some true else zbj u9.1 q2>>=fun rv6=>some (!rv6))>>=fun g=>if g then some false else (zaw uZ b d root u9 sv 0>>=fun q3=>match q3 with | .inl u=>(some true) | .inr u2=>(some false)))))
theorem zfk {uZ:Nat} {b:List UInt8} {d:Int} {root:Int} {sv:List zc} {atv2:Int} {tov:Int} {atv2':Int} {tov':Int} (h:zac uZ b d root sv atv2 tov=some (.inl (atv2',tov'))):zav uZ b d root sv atv2 tov=zav uZ b d root sv atv2' tov':=zH h
theorem zfl {uZ:Nat} {b:List UInt8} {d:Int} {root:Int} {sv:List zc} {atv2:Int} {tov:Int} {vc:Int} (h:zac uZ b d root sv atv2 tov=some (.inr vc)):zav uZ b d root sv atv2 tov=some vc:=zI h
theorem zfi {uZ:Nat} {b:List UInt8} {d:Int} {root:Int} {sv:List zc} {want:List Int} {u0:Int} {want':List Int} {atv':Int} (h:zab uZ b d root sv want u0=some (.inl (want',atv'))):zau uZ b d root sv want u0=zau uZ b d root sv want' atv':=zH h
theorem zfj {uZ:Nat} {b:List UInt8} {d:Int} {root:Int} {sv:List zc} {want:List Int} {u0:Int} {vc:List Int} (h:zab uZ b d root sv want u0=some (.inr vc)):zau uZ b d root sv want u0=some vc:=zI h
theorem zfm {uZ:Nat} {b:List UInt8} {d:Int} {root:Int} {u9:((List Int)×Int)} {sv:List zc} {i:Int} {i':Int} (h:zat uZ b d root u9 sv i=some (.inl i')):zaw uZ b d root u9 sv i=zaw uZ b d root u9 sv i':=zH h
theorem zfn {uZ:Nat} {b:List UInt8} {d:Int} {root:Int} {u9:((List Int)×Int)} {sv:List zc} {i:Int} {vc:(Unit⊕Unit)} (h:zat uZ b d root u9 sv i=some (.inr vc)):zaw uZ b d root u9 sv i=some vc:=zI h
end
end Go.Proofs.YtnckiilakdkklaaGreat
