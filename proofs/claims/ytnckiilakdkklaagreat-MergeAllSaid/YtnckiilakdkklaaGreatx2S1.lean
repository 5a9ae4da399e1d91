/-
  What the Go functions do, as plain functions. No condition.
-/
import Derived.Test.YtnckiilakdkklaaGreatx2K2
set_option autoImplicit true
set_option relaxedAutoImplicit true
namespace Go.Proofs.YtnckiilakdkklaaGreat
open Go.IntKind (i32 i64 u32 u64 u8)
open Go
set_option linter.unusedVariables false
abbrev Str:=List UInt8
structure zCs where
  a0:Str
  a1:Str
  a2:Str
  a3:Str
  a4:Str
  a5:Str
  a6:Str
  a7:Str
  a8:Str
  a9:Str
  a10:Str
  a11:Str
  a12:Str
  a13:Str
  a14:Str deriving DecidableEq
structure zg where
  Number:Int
  Wire:Int
  From:Int
  At:Int
  To:Int deriving DecidableEq
def zq:Rp zg:=⟨5,true,fun x=>[.int .i64 x.Number,.int .i64 x.Wire,.int .i64 x.From,.int .i64 x.At,.int .i64 x.To],fun _=>rfl,by decide⟩
structure zb where
  Record:zg
  Field:Int
  Run:Bool deriving DecidableEq
def ze:Rp zb:=⟨7,true,fun x=>[.int .i64 x.Record.Number,.int .i64 x.Record.Wire,.int .i64 x.Record.From,.int .i64 x.Record.At,.int .i64 x.Record.To,.int .i64 x.Field,.bool x.Run],fun _=>rfl,by decide⟩
structure zj where
  name:Str
  wire:Int deriving DecidableEq
def zU:Rp zj:=⟨2,true,fun x=>[.str x.name,.int .i64 x.wire],fun _=>rfl,by decide⟩
mutual
structure zih where
  Values:(List zeu)
  Unknown:(List Str)
structure zeu where
  Number:Int
  Words:(List Int)
  Texts:(List Str)
  Subs:(List zih)
end
structure zd where
  Name:Str
  Number:Int
  Kind:Int
  Repeated:Bool
  Packed:Bool
  Of:Int deriving DecidableEq
def za:Rp zd:=⟨6,true,fun x=>[.str x.Name,.int .i64 x.Number,.int .i64 x.Kind,.bool x.Repeated,.bool x.Packed,.int .i64 x.Of],fun _=>rfl,by decide⟩
structure zc where
  Name:Str
  Fields:(List zd) deriving DecidableEq
def zf:Rp zc:=⟨2,true,fun x=>[.str x.Name,.sl x.Fields.length za.size (x.Fields.flatMap za.lv)],fun _=>rfl,by decide⟩
structure zal where
  Number:Int
  Wire:Int deriving DecidableEq
def zde:Rp zal:=⟨2,true,fun x=>[.int .i64 x.Number,.int .i64 x.Wire],fun _=>rfl,by decide⟩
structure zk where
  message:Int
  name:Str deriving DecidableEq
def zu:Rp zk:=⟨2,true,fun x=>[.int .i64 x.message,.str x.name],fun _=>rfl,by decide⟩
structure zn where
  message:Int
  number:Int deriving DecidableEq
def zv:Rp zn:=⟨2,true,fun x=>[.int .i64 x.message,.int .i64 x.number],fun _=>rfl,by decide⟩
structure zZ where
  size:Int
  kinds:(List Int)
  names:(List (zk×Bool))
  numbers:(List (zn×Bool))
structure zY where
  Message:Int
  Field:Int
  What:Int deriving DecidableEq
def zbZ:Rp zY:=⟨3,true,fun x=>[.int .i64 x.Message,.int .i64 x.Field,.int .i64 x.What],fun _=>rfl,by decide⟩
structure zz where
  number:Int
  wire:Int deriving DecidableEq
def zG:Rp zz:=⟨2,true,fun x=>[.int .i64 x.number,.int .i64 x.wire],fun _=>rfl,by decide⟩
structure zB where
  field:Int
  run:Bool
  e:Int deriving DecidableEq
def zK:Rp zB:=⟨3,true,fun x=>[.int .i64 x.field,.bool x.run,.int .u8 x.e],fun _=>rfl,by decide⟩
structure zt where
  R:zg
  Field:Int
  Run:Bool deriving DecidableEq
def zP:Rp zt:=⟨7,true,fun x=>[.int .i64 x.R.Number,.int .i64 x.R.Wire,.int .i64 x.R.From,.int .i64 x.R.At,.int .i64 x.R.To,.int .i64 x.Field,.bool x.Run],fun _=>rfl,by decide⟩
structure zh where
  message:Int
  number:Int
  wire:Int deriving DecidableEq
def zi:Rp zh:=⟨3,true,fun x=>[.int .i64 x.message,.int .i64 x.number,.int .i64 x.wire],fun _=>rfl,by decide⟩
structure zM where
  s:(List zc)
  b:(List UInt8)
  met:(List (zh×zb))
structure zo where
  depth:Int
  place:Int
  e:Int deriving DecidableEq
def zR:Rp zo:=⟨3,true,fun x=>[.int .i64 x.depth,.int .i64 x.place,.int .u8 x.e],fun _=>rfl,by decide⟩
structure zCt where
  a0:Int
  a1:Int deriving DecidableEq
structure zzm where
  pieces:(List (List UInt8))
  size:Int deriving DecidableEq
noncomputable section
def zbo (n:Int):Option (List UInt8):=if (decide (n<0)) then none else if (decide ((i64.wrap (n - (i64.wrap (0 - 0))))>0)) then (mkO 1 (0:UInt8) (i64.wrap (n - (i64.wrap (0 - 0)))) (i64.wrap (n - (i64.wrap (0 - 0))))>>=fun v=>cut v 0 0>>=fun v2=>some v2) else some []
def zaa (vq:List (List UInt8)) (size:Int) (v:Int):Option ((Int×Int)⊕Int):=if (decide (v<(vq.length:Int))) then (idx vq v>>=fun x=>if (decide ((i64.wrap (size+(x.length:Int)))<0)) then none else some (.inl ((i64.wrap (size+(x.length:Int))),(i64.wrap (v+1))))) else some (.inr size)
def zaj (vq:List (List UInt8)) (size:Int) (v:Int):Option Int:=zac (fun s=>zaa vq s.1 s.2) (size,v)
def zab (vq:List (List UInt8)) (vt:List UInt8) (v2:Int):Option (((List UInt8)×Int)⊕(List UInt8)):=if (decide (v2<(vq.length:Int))) then (idx vq v2>>=fun x2=>app 1 vt x2>>=fun v3=>some (.inl (v3,(i64.wrap (v2+1))))) else some (.inr vt)
def zak (vq:List (List UInt8)) (vt:List UInt8) (v2:Int):Option (List UInt8):=zac (fun s=>zab vq s.1 s.2) (vt,v2)
def zay (vq:List (List UInt8)):Option (List UInt8):=zaj vq 0 0>>=fun q=>zbo q>>=fun rv=>zak vq rv 0>>=fun q2=>some q2
theorem zfb (h:zaa vq size v=some (.inl (size',v'))):zaj vq size v=zaj vq size' v':=zH h
theorem zfc (h:zaa vq size v=some (.inr vj)):zaj vq size v=some vj:=zI h
theorem zfd (h:zab vq vt v2=some (.inl (newslice',v2'))):zak vq vt v2=zak vq newslice' v2':=zH h
theorem zfe (h:zab vq vt v2=some (.inr vj)):zak vq vt v2=some vj:=zI h
def zah (sv:List Int) (v:Int) (v2:Int):Option (Int⊕(Unit⊕Int)):=if (decide (v2<(sv.length:Int))) then (idx sv v2>>=fun x=>if (v==x) then some (.inr (.inr v2)) else some (.inl (i64.wrap (v2+1)))) else some (.inr (.inl ()))
def zaz (sv:List Int) (v:Int) (v2:Int):Option (Unit⊕Int):=zac (fun s=>zah sv v s) v2
def zbz (sv:List Int) (v:Int):Option Int:=zaz sv v 0>>=fun q=>match q with | .inl u=>(some (-1)) | .inr u2=>(some u2)
theorem zfO (h:zah sv v v2=some (.inl v2')):zaz sv v v2=zaz sv v v2':=zH h
theorem zdt (h:zah sv v v2=some (.inr vj)):zaz sv v v2=some vj:=zI h
def zaY (sv:List Int) (v:Int):Option Bool:=zbz sv v>>=fun rv=>some (decide (rv>=0))
def zeg (wv2:Int) (n:Int):Option ((Int×Int)⊕Int):=if (wv2 !=0) then some (.inl ((shrI .u64 wv2 7),(i64.wrap (n+1)))) else some (.inr n)
def zeM (wv2:Int) (n:Int):Option Int:=zac (fun s=>zeg s.1 s.2) (wv2,n)
def zjO (wv:Int):Option Int:=zeM (shrI .u64 wv 7) 1>>=fun q=>some q
theorem znS (h:zeg wv2 n=some (.inl (wv2',n'))):zeM wv2 n=zeM wv2' n':=zH h
theorem znT (h:zeg wv2 n=some (.inr vj)):zeM wv2 n=some vj:=zI h
def zfz (wv:Int):Option Int:=some (u32.wrap wv)
def zfY (wv:Int):Option Int:=zfz wv>>=fun rv=>some (i32.wrap rv)
def zfZ (n:Int):Option Int:=some (u64.wrap (i64.wrap n))
def zcS (av:List UInt8) (b:List UInt8):Option Bool:=some (av==b)
def zcg (v:List UInt8) (wv:Int) (v2:Int):Option ((Int×Int)⊕(Unit⊕(Int×Int×Int))):=if (decide (v2<(v.length:Int))) then (idx v v2>>=fun x=>if ((v2==9)&&(decide ((x.toNat:Int)>1))) then some (.inr (.inr (0,0,4))) else shlO .u64 (u64.wrap (andI .u8 (x.toNat:Int) 127)) (i64.wrap (7*v2))>>=fun v4=>if (decide ((x.toNat:Int)<128)) then some (.inr (.inr ((orI .u64 wv v4),(i64.wrap (v2+1)),0))) else some (.inl ((orI .u64 wv v4),(i64.wrap (v2+1))))) else some (.inr (.inl ()))
def zdu (v:List UInt8) (wv:Int) (v2:Int):Option (Unit⊕(Int×Int×Int)):=zac (fun s=>zcg v s.1 s.2) (wv,v2)
def zep (b:List UInt8):Option (Int×Int×Int):=cut b 0 (if (10:Int)<(b.length:Int) then 10 else (b.length:Int))>>=fun v=>zdu v 0 0>>=fun q=>match q with | .inl u=>(some (0,0,3)) | .inr u2=>(some (u2.1,u2.2.1,u2.2.2))
theorem zlO (h:zcg v wv v2=some (.inl (wv',v2'))):zdu v wv v2=zdu v wv' v2':=zH h
theorem zeL (h:zcg v wv v2=some (.inr vj)):zdu v wv v2=some vj:=zI h
def zaA (vf:Int) (b:List UInt8) (n:Int):Option (Int⊕Int):=(if (decide ((i64.wrap (vf+n))<(b.length:Int))) then (if (decide (n<10)) then (idx b (i64.wrap (vf+n))>>=fun x=>some (decide ((x.toNat:Int)>=128))) else some false) else some false)>>=fun g=>if g then some (.inl (i64.wrap (n+1))) else some (.inr n)
def zbs (vf:Int) (b:List UInt8) (n:Int):Option Int:=zac (fun s=>zaA vf b s) n
def zaS (vf:Int) (b:List UInt8) (wv:Int) (i:Int):Option ((Int×Int)⊕Int):=if (decide (i>=0)) then (idx b (i64.wrap (vf+i))>>=fun x3=>some (.inl ((u64.wrap ((u64.wrap (128*wv))+(u64.wrap (Int.tmod (x3.toNat:Int) 128)))),(i64.wrap (i - 1))))) else some (.inr wv)
def zbt (vf:Int) (b:List UInt8) (wv:Int) (i:Int):Option Int:=zac (fun s=>zaS vf b s.1 s.2) (wv,i)
def zbh (b:List UInt8) (vf:Int):Option (Int×Int×Int):=zbs vf b 0>>=fun q=>if (q==10) then some (0,0,4) else if ((i64.wrap (vf+q))==(b.length:Int)) then some (0,0,3) else (if (q==9) then (idx b (i64.wrap (vf+q))>>=fun x2=>some (decide ((x2.toNat:Int)>1))) else some false)>>=fun g2=>if g2 then some (0,0,4) else zbt vf b 0 q>>=fun q2=>some (q2,(i64.wrap (q+1)),0)
theorem zhN (h:zaA vf b n=some (.inl n')):zbs vf b n=zbs vf b n':=zH h
theorem zdf (h:zaA vf b n=some (.inr vj)):zbs vf b n=some vj:=zI h
theorem zhO (h:zaS vf b wv i=some (.inl (wv',i'))):zbt vf b wv i=zbt vf b wv' i':=zH h
theorem zhP (h:zaS vf b wv i=some (.inr vj)):zbt vf b wv i=some vj:=zI h
def zeZ (b:List UInt8):Option (Int×Int):=zep b>>=fun rv=>some (rv.2.1,rv.2.2)
def zeG (wire:Int):Option Bool:=if (wire==0) then if (wire==0) then some true else (some false) else if (wire==1) then if (wire==1) then some true else (some false) else if (wire==2) then if (wire==2) then some true else (some false) else if (wire==5) then some true else some false
def ziF (t:zal):Option Bool:=(if (decide (t.Number>=1)) then (if (decide (t.Number<=536870911)) then (zeG t.Wire>>=fun rv=>some rv) else some false) else some false)>>=fun g=>some g
def zku (b:List UInt8):Option (zal×Int×Int):=zep b>>=fun rv=>if (rv.2.2 !=0) then some ((⟨0,0⟩:zal),0,rv.2.2) else (ziF (⟨(i64.wrap (if (536870912:Int)<(shrI .u64 rv.1 3) then 536870912 else shrI .u64 rv.1 3)),(i64.wrap (andI .u64 rv.1 7))⟩:zal)>>=fun vc=>if (!vc) then some ((⟨0,0⟩:zal),0,5) else (some ((⟨(i64.wrap (if (536870912:Int)<(shrI .u64 rv.1 3) then 536870912 else shrI .u64 rv.1 3)),(i64.wrap (andI .u64 rv.1 7))⟩:zal),rv.2.1,0)))
def zcA (number:Int) (wire:Int):Option Bool:=some ((decide (number>=1))&&((decide (number<=536870911))&&((wire==0)|| ((wire==1)|| ((wire==2)|| (wire==5))))))
def zcU (b:List UInt8) (vf:Int):Option (Int×Int×Int×Int):=zbh b vf>>=fun rv=>if (rv.2.2 !=0) then some (0,0,0,rv.2.2) else (if (decide (rv.1>4294967295)) then some true else zcA (i64.wrap (u64.wrap (Int.tdiv rv.1 8))) (i64.wrap (Int.tmod rv.1 8))>>=fun vc=>some (!vc))>>=fun g=>if g then some (0,0,0,5) else some ((i64.wrap (u64.wrap (Int.tdiv rv.1 8))),(i64.wrap (Int.tmod rv.1 8)),rv.2.1,0)
def zmN (c:Int):Option (Int×Int):=if ((shrI .u8 c 7)==0) then some (1,(u32.wrap c)) else if ((shrI .u8 c 5)==6) then some (2,(u32.wrap (andI .u8 c 31))) else if ((shrI .u8 c 4)==14) then some (3,(u32.wrap (andI .u8 c 15))) else if ((shrI .u8 c 3)==30) then some (4,(u32.wrap (andI .u8 c 7))) else some (0,0)
def ziK (wv:Int):Option Int:=if ((shrI .u32 wv 7)==0) then some 1 else if ((shrI .u32 wv 11)==0) then some 2 else if ((shrI .u32 wv 11)==27) then some 0 else if ((shrI .u32 wv 16)==0) then some 3 else if (decide (wv<=1114111)) then some 4 else some 0
def zdy (v2:List UInt8) (wv:Int) (v3:Int):Option ((Int×Int)⊕(Int⊕Unit)):=if (decide (v3<(v2.length:Int))) then (idx v2 v3>>=fun x2=>if ((shrI .u8 (x2.toNat:Int) 6) !=2) then some (.inr (.inr ())) else some (.inl ((orI .u32 (shlI .u32 wv 6) (u32.wrap (andI .u8 (x2.toNat:Int) 63))),(i64.wrap (v3+1))))) else some (.inr (.inl wv))
def zbj (v2:List UInt8) (wv:Int) (v3:Int):Option (Int⊕Unit):=zac (fun s=>zdy v2 s.1 s.2) (wv,v3)
def ziJ (b:List UInt8):Option Int:=if ((b.length:Int)==0) then some 0 else (idx b 0>>=fun x=>zmN (x.toNat:Int)>>=fun rv=>if ((rv.1==0)|| (decide (rv.1>(b.length:Int)))) then some 0 else (cut b 1 rv.1>>=fun v2=>zbj v2 rv.2 0>>=fun q=>match q with | .inl u=>(ziK u>>=fun vc=>if (rv.1 !=vc) then some 0 else some rv.1) | .inr u2=>(some 0)))
theorem znZ (h:zdy v2 wv v3=some (.inl (wv',v3'))):zbj v2 wv v3=zbj v2 wv' v3':=zH h
theorem zjq (h:zdy v2 wv v3=some (.inr vj)):zbj v2 wv v3=some vj:=zI h
def zen (b:List UInt8) (vf:Int) (points:Int) (size:Int):Option ((Int×Int×Int)⊕(Int×Int)):=if (decide (size>0)) then (cut b (i64.wrap (vf+size)) (b.length:Int)>>=fun v=>ziJ v>>=fun vc=>some (.inl ((i64.wrap (vf+size)),(i64.wrap (points+1)),vc))) else some (.inr (vf,points))
def zeo (b:List UInt8) (vf:Int) (points:Int) (size:Int):Option (Int×Int):=zac (fun s=>zen b s.1 s.2.1 s.2.2) (vf,points,size)
def zkw (b:List UInt8):Option (Int×Int):=ziJ b>>=fun rv=>zeo b 0 0 rv>>=fun q=>some (q.1,q.2)
theorem zoa (h:zen b vf points size=some (.inl (atv',points',size'))):zeo b vf points size=zeo b atv' points' size':=zH h
theorem zob (h:zen b vf points size=some (.inr vj)):zeo b vf points size=some vj:=zI h
def ziH (b:List UInt8):Option Int:=zkw b>>=fun rv=>some rv.1
def ziI (b:List UInt8):Option Bool:=ziH b>>=fun rv=>some (rv==(b.length:Int))
def zdl (rv:Int):Option (List UInt8):=if ((decide (rv<0))|| ((decide (rv>1114111))|| ((decide (rv>=55296))&&(decide (rv<=57343))))) then some [] else if (decide (rv<128)) then (zgx (u8.wrap rv)>>=fun y=>some ([y]:List UInt8)) else if (decide (rv<2048)) then (zgx (u8.wrap (i64.wrap (192+(i64.wrap (Int.tdiv rv 64)))))>>=fun y2=>zgx (u8.wrap (i64.wrap (128+(Int.tmod rv 64))))>>=fun y3=>some ([y2,y3]:List UInt8)) else if (decide (rv<65536)) then (zgx (u8.wrap (i64.wrap (224+(i64.wrap (Int.tdiv rv 4096)))))>>=fun y4=>zgx (u8.wrap (i64.wrap (128+(Int.tmod (i64.wrap (Int.tdiv rv 64)) 64))))>>=fun y5=>zgx (u8.wrap (i64.wrap (128+(Int.tmod rv 64))))>>=fun y6=>some ([y4,y5,y6]:List UInt8)) else zgx (u8.wrap (i64.wrap (240+(i64.wrap (Int.tdiv rv 262144)))))>>=fun y7=>zgx (u8.wrap (i64.wrap (128+(Int.tmod (i64.wrap (Int.tdiv rv 4096)) 64))))>>=fun y8=>zgx (u8.wrap (i64.wrap (128+(Int.tmod (i64.wrap (Int.tdiv rv 64)) 64))))>>=fun y9=>zgx (u8.wrap (i64.wrap (128+(Int.tmod rv 64))))>>=fun y10=>some ([y7,y8,y9,y10]:List UInt8)
def zaT (vf:Int) (b:List UInt8) (n:Int) (vc:Int) (i:Int):Option ((Int×Int)⊕Int):=if (decide (i<n)) then (idx b (i64.wrap (vf+i))>>=fun x3=>some (.inl ((i64.wrap ((i64.wrap (64*vc))+(Int.tmod (i64.wrap (x3.toNat:Int)) 64))),(i64.wrap (i+1))))) else some (.inr vc)
def zap (vf:Int) (b:List UInt8) (n:Int) (vc:Int) (i:Int):Option Int:=zac (fun s=>zaT vf b n s.1 s.2) (vc,i)
def zbu (vf:Int) (b:List UInt8) (n:Int):Option (Int⊕(Unit⊕Int)):=if ((decide (n<=4))&&(decide ((i64.wrap (vf+n))<=(b.length:Int)))) then (idx b vf>>=fun x=>((if (decide (n>1)) then (idx ([0,0,32,16,8]:List Int) n>>=fun x2=>remI (i64.wrap (x.toNat:Int)) x2>>=fun v3=>some v3) else (some (i64.wrap (x.toNat:Int))) :Option Int))>>=fun p=>zap vf b n p 1>>=fun q=>zdl q>>=fun rv4=>cut b vf (i64.wrap (vf+n))>>=fun v4=>if (rv4==v4) then some (.inr (.inr n)) else some (.inl (i64.wrap (n+1)))) else some (.inr (.inl ()))
def zbv (vf:Int) (b:List UInt8) (n:Int):Option (Unit⊕Int):=zac (fun s=>zbu vf b s) n
def zcV (b:List UInt8) (vf:Int):Option Int:=zbv vf b 1>>=fun q2=>match q2 with | .inl u=>(some 0) | .inr u2=>(some u2)
theorem zhR (h:zaT vf b n vc i=some (.inl (rv2',i'))):zap vf b n vc i=zap vf b n rv2' i':=zH h
theorem zhS (h:zaT vf b n vc i=some (.inr vj)):zap vf b n vc i=some vj:=zI h
theorem zhQ (h:zbu vf b n=some (.inl n')):zbv vf b n=zbv vf b n':=zH h
theorem zdg (h:zbu vf b n=some (.inr vj)):zbv vf b n=some vj:=zI h
def zaG (b:List UInt8) (most:Int) (vf:Int) (count:Int):Option ((Int×Int)⊕(Int×Int)):=zcV b vf>>=fun rv=>if ((rv==0)|| (decide ((i64.wrap (vf+rv))>most))) then some (.inr (vf,count)) else some (.inl ((i64.wrap (vf+rv)),(i64.wrap (count+1))))
def zaH (b:List UInt8) (most:Int) (vf:Int) (count:Int):Option (Int×Int):=zac (fun s=>zaG b most s.1 s.2) (vf,count)
def zcB (b:List UInt8) (most:Int):Option (Int×Int):=zaH b most 0 0>>=fun q=>some (q.1,q.2)
theorem zhk (h:zaG b most vf count=some (.inl (atv',count'))):zaH b most vf count=zaH b most atv' count':=zH h
theorem zhl (h:zaG b most vf count=some (.inr vj)):zaH b most vf count=some vj:=zI h
def zbq (b:List UInt8):Option Bool:=zcB b (b.length:Int)>>=fun rv=>some (rv.1==(b.length:Int))
def zgk (wire:Int) (b:List UInt8):Option (Int×Int×Int):=if (wire==0) then (zeZ b>>=fun rv=>some (0,rv.1,rv.2)) else (((if (wire==1) then some (0,0,8) else (if (wire==5) then some (0,0,4) else if (wire==2) then (zep b>>=fun vc=>some (vc.2.1,vc.2.2,vc.1)) else some (0,0,0)) :Option (Int×Int×Int)))>>=fun p=>if (p.2.1 !=0) then some (0,0,p.2.1) else if (decide (p.2.2>(u64.wrap (i64.wrap ((b.length:Int) - p.1))))) then some (0,0,3) else some (p.1,(i64.wrap (p.1+(i64.wrap p.2.2))),0))
def zeX (b:List UInt8) (vo:Int):Option (zg×Int):=if ((decide (vo<0))|| (decide (vo>=(b.length:Int)))) then some ((⟨0,0,0,0,0⟩:zg),2) else (cut b vo (b.length:Int)>>=fun v2=>zku v2>>=fun rv=>if (rv.2.2 !=0) then some ((⟨0,0,0,0,0⟩:zg),rv.2.2) else (cut b (i64.wrap (vo+rv.2.1)) (b.length:Int)>>=fun v3=>zgk rv.1.Wire v3>>=fun vc=>if (vc.2.2 !=0) then some ((⟨0,0,0,0,0⟩:zg),vc.2.2) else (some ((⟨rv.1.Number,rv.1.Wire,vo,(i64.wrap ((i64.wrap (vo+rv.2.1))+vc.1)),(i64.wrap ((i64.wrap (vo+rv.2.1))+vc.2.1))⟩:zg),0))))
def zch (b:List UInt8) (vo:Int):Option (zg×Int):=if ((decide (vo<0))|| (decide (vo>=(b.length:Int)))) then some ((⟨0,0,0,0,0⟩:zg),2) else (zcU b vo>>=fun rv=>if (rv.2.2.2 !=0) then some ((⟨0,0,0,0,0⟩:zg),rv.2.2.2) else (((if (rv.2.1==5) then some 4 else (some 8) :Option Int))>>=fun p=>((if (rv.2.1==0) then (zbh b (i64.wrap (vo+rv.2.2.1))>>=fun vc=>if (vc.2.2 !=0) then some (.inr vc.2.2) else some (.inl vc.2.1)) else (some (.inl p)) :Option (Int⊕Int)))>>=fun p2=>match p2 with | .inl u=>(((if (rv.2.1==2) then (zbh b (i64.wrap (vo+rv.2.2.1))>>=fun vh=>if (vh.2.2 !=0) then some (.inr vh.2.2) else if (decide (vh.1>(u64.wrap (i64.wrap ((i64.wrap ((b.length:Int) - (i64.wrap (vo+rv.2.2.1)))) - vh.2.1))))) then some (.inr 3) else some (.inl ((i64.wrap ((i64.wrap ((b.length:Int) - (i64.wrap (vo+rv.2.2.1)))) - vh.2.1)),(i64.wrap vh.1),(i64.wrap ((i64.wrap (vo+rv.2.2.1))+vh.2.1))))) else (some (.inl ((i64.wrap ((b.length:Int) - (i64.wrap (vo+rv.2.2.1)))),u,(i64.wrap (vo+rv.2.2.1))))) :Option ((Int×Int×Int)⊕Int)))>>=fun p3=>match p3 with | .inl u2=>(if (decide (u2.2.1>u2.1)) then some ((⟨0,0,0,0,0⟩:zg),3) else some ((⟨rv.1,rv.2.1,vo,u2.2.2,(i64.wrap (u2.2.2+u2.2.1))⟩:zg),0)) | .inr u3=>(some ((⟨0,0,0,0,0⟩:zg),u3))) | .inr u4=>(some ((⟨0,0,0,0,0⟩:zg),u4))))
def ziU (wv:Int):Option Int:=some (if (1:Int)<wv then 1 else wv)
def zgU (k:Int) (wv:Int):Option (Int×Int):=((if (k==1) then some (k==1) else (some (k==8)) :Option Bool))>>=fun p=>if p then (zfY wv>>=fun rv=>zfZ rv>>=fun vc=>some (vc,0)) else ((if (k==3) then some (k==3) else (if (k==5) then some (k==5) else if (k==9) then some (k==9) else if (k==10) then some (k==10) else some (k==11)) :Option Bool))>>=fun p2=>if p2 then (zfz wv>>=fun vh=>some ((u64.wrap vh),0)) else if (k==7) then (ziU wv>>=fun rv4=>some (rv4,0)) else ((if (k==2) then some (k==2) else (if (k==4) then some (k==4) else if (k==6) then some (k==6) else if (k==12) then some (k==12) else if (k==13) then some (k==13) else some (k==14)) :Option Bool))>>=fun p3=>if p3 then some (wv,0) else some (0,2)
def zgV:Option (List (Int×zj)):=some (mput (mput (mput (mput (mput (mput (mput (mput (mput (mput (mput (mput (mput (mput (mput (mput (mput ([]:List (Int×zj)) 1 (⟨[105,110,116,51,50],0⟩:zj)) 2 (⟨[105,110,116,54,52],0⟩:zj)) 3 (⟨[117,105,110,116,51,50],0⟩:zj)) 4 (⟨[117,105,110,116,54,52],0⟩:zj)) 5 (⟨[115,105,110,116,51,50],0⟩:zj)) 6 (⟨[115,105,110,116,54,52],0⟩:zj)) 7 (⟨[98,111,111,108],0⟩:zj)) 8 (⟨[101,110,117,109],0⟩:zj)) 9 (⟨[102,105,120,101,100,51,50],5⟩:zj)) 10 (⟨[115,102,105,120,101,100,51,50],5⟩:zj)) 11 (⟨[102,108,111,97,116],5⟩:zj)) 12 (⟨[102,105,120,101,100,54,52],1⟩:zj)) 13 (⟨[115,102,105,120,101,100,54,52],1⟩:zj)) 14 (⟨[100,111,117,98,108,101],1⟩:zj)) 15 (⟨[115,116,114,105,110,103],2⟩:zj)) 16 (⟨[98,121,116,101,115],2⟩:zj)) 17 (⟨[109,101,115,115,97,103,101],2⟩:zj))
def zkd:Option (List Int):=zgV>>=fun rv=>ztu rv>>=fun v=>some v
def zgJ (k:Int):Option (Int×Int):=zgV>>=fun rv=>if (!(mget rv k).isSome) then some (0,2) else some (((mget rv k).getD (⟨[],0⟩:zj)).wire,0)
def zbT (k:Int):Option Bool:=some ((decide (k>=1))&&(decide (k<=17)))
def zeS (k:Int):Option Bool:=zgJ k>>=fun rv=>some ((rv.2==0)&&(rv.1 !=2))
def zcW (k:Int):Option Int:=if (decide (k>=15)) then some 2 else if (decide (k>=12)) then some 1 else if (decide (k>=9)) then some 5 else some 0
def zbf (k:Int):Option Bool:=some ((decide (k>=1))&&(decide (k<=14)))
def zds (c:Int):Option Bool:=some ((decide (c>=48))&&(decide (c<=57)))
def zdO (c:Int):Option Bool:=some (if (decide (c>=97)) then (decide (c<=122))|| (if (decide (c>=65)) then (decide (c<=90))|| (c==95) else c==95) else (if (decide (c>=65)) then (decide (c<=90))|| (c==95) else c==95))
def zbX (name:Str) (v2:Int):Option (Int⊕(Unit⊕Unit)):=if (decide (v2<(name.length:Int))) then ((idx name v2>>=fun c2=>zdO (c2.toNat:Int)>>=fun vc=>if (!vc) then (idx name v2>>=fun c3=>zds (c3.toNat:Int)>>=fun vh=>some (!vh)) else some false)>>=fun g2=>if g2 then some (.inr (.inr ())) else some (.inl (i64.wrap (v2+1)))) else some (.inr (.inl ()))
def zcy (name:Str) (v2:Int):Option (Unit⊕Unit):=zac (fun s=>zbX name s) v2
def zdX (name:Str):Option Bool:=(if (name==[]) then some true else if (decide ((name.length:Int)>60)) then some true else idx name 0>>=fun c=>zds (c.toNat:Int)>>=fun rv=>some rv)>>=fun g=>if g then some false else (zcy name 0>>=fun q=>match q with | .inl u=>(some true) | .inr u2=>(some false))
theorem zks (h:zbX name v2=some (.inl v2')):zcy name v2=zcy name v2':=zH h
theorem zgm (h:zbX name v2=some (.inr vj)):zcy name v2=some vj:=zI h
def zdP (n:Int):Option Bool:=some ((decide (n>=1))&&((decide (n<=536870911))&&((decide (n<19000))|| (decide (n>19999)))))
def zel (f:zd):Option Bool:=(if f.Repeated then (zeS f.Kind>>=fun rv=>some rv) else some false)>>=fun g=>some g
def zcK (c:zZ) (f:zd):Option Bool:=if (f.Kind==17) then some ((decide (f.Of>=0))&&(decide (f.Of<c.size))) else some (f.Of==0)
def zcJ (c:zZ) (message:Int) (f:zd):Option (Int×(List (zk×Bool))×(List (zn×Bool))):=zdX f.Name>>=fun rv=>if (!rv) then some (5,c.names,c.numbers) else if ((mget c.names (⟨message,f.Name⟩:zk)).getD false) then some (6,c.names,c.numbers) else zdP f.Number>>=fun vc=>if (!vc) then some (7,c.names,c.numbers) else if ((mget c.numbers (⟨message,f.Number⟩:zn)).getD false) then some (8,c.names,c.numbers) else zaY c.kinds f.Kind>>=fun vh=>if (!vh) then some (9,c.names,c.numbers) else (if f.Packed then (zel f>>=fun rv4=>some (!rv4)) else some false)>>=fun g=>if g then some (10,c.names,c.numbers) else zcK c f>>=fun rv5=>if (!rv5) then some (11,c.names,c.numbers) else some (0,(mput c.names (⟨message,f.Name⟩:zk) true),(mput c.numbers (⟨message,f.Number⟩:zn) true))
def zcd (c:zZ) (m:zc):Option (Int×(List (zk×Bool))×(List (zn×Bool))):=zdX m.Name>>=fun rv=>if (!rv) then some (2,c.names,c.numbers) else if ((mget c.names (⟨(-1),m.Name⟩:zk)).getD false) then some (3,c.names,c.numbers) else if (decide ((m.Fields.length:Int)>200)) then some (4,c.names,c.numbers) else some (0,(mput c.names (⟨(-1),m.Name⟩:zk) true),c.numbers)
def zbe (i:Int) (sv:List zc) (n3:Int) (k:Int):Option ((Int×Int)⊕Int):=idx sv i>>=fun x3=>if (decide (k<(x3.Fields.length:Int))) then (idx sv i>>=fun x4=>idx x4.Fields k>>=fun x5=>some (.inl ((i64.wrap (n3+(i64.wrap (Int.tdiv (x5.Name.length:Int) 100)))),(i64.wrap (k+1))))) else some (.inr n3)
def zbH (i:Int) (sv:List zc) (n3:Int) (k:Int):Option Int:=zac (fun s=>zbe i sv s.1 s.2) (n3,k)
def zbd (sv:List zc) (n:Int) (i:Int):Option ((Int×Int)⊕Int):=if (decide (i<(sv.length:Int))) then (idx sv i>>=fun x=>idx sv i>>=fun x2=>zbH i sv (i64.wrap ((i64.wrap ((i64.wrap (n+1))+(i64.wrap (Int.tdiv (x.Name.length:Int) 100))))+(x2.Fields.length:Int))) 0>>=fun q=>some (.inl (q,(i64.wrap (i+1))))) else some (.inr n)
def zbG (sv:List zc) (n:Int) (i:Int):Option Int:=zac (fun s=>zbd sv s.1 s.2) (n,i)
def zdk (sv:List zc):Option Bool:=zbG sv 0 0>>=fun q2=>some (decide (q2<=500))
theorem zil (h:zbe i sv n3 k=some (.inl (n3',k'))):zbH i sv n3 k=zbH i sv n3' k':=zH h
theorem zim (h:zbe i sv n3 k=some (.inr vj)):zbH i sv n3 k=some vj:=zI h
theorem zij (h:zbd sv n i=some (.inl (n',i'))):zbG sv n i=zbG sv n' i':=zH h
theorem zik (h:zbd sv n i=some (.inr vj)):zbG sv n i=some vj:=zI h
def zbp (rv:List Int) (sv:List zc) (v2:Int) (x:zc) (v3:Int) (f6:List (zk×Bool)) (f7:List (zn×Bool)):Option ((Int×(List (zk×Bool))×(List (zn×Bool)))⊕(((List (zk×Bool))×(List (zn×Bool)))⊕(Int×Int))):=if (decide (v3<(x.Fields.length:Int))) then (idx x.Fields v3>>=fun x2=>zcJ (⟨(sv.length:Int),rv,f6,f7⟩:zZ) v2 x2>>=fun rv5=>if (rv5.1 !=0) then some (.inr (.inr (v3,rv5.1))) else some (.inl ((i64.wrap (v3+1)),rv5.2.1,rv5.2.2))) else some (.inr (.inl (f6,f7)))
def zbM (rv:List Int) (sv:List zc) (v2:Int) (x:zc) (v3:Int) (f6:List (zk×Bool)) (f7:List (zn×Bool)):Option (((List (zk×Bool))×(List (zn×Bool)))⊕(Int×Int)):=zac (fun s=>zbp rv sv v2 x s.1 s.2.1 s.2.2) (v3,f6,f7)
def zax (rv:List Int) (sv:List zc) (v2:Int) (f:List (zk×Bool)) (f2:List (zn×Bool)):Option ((Int×(List (zk×Bool))×(List (zn×Bool)))⊕(Unit⊕(Int×Int×Int))):=if (decide (v2<(sv.length:Int))) then (idx sv v2>>=fun x=>zcd (⟨(sv.length:Int),rv,f,f2⟩:zZ) x>>=fun vh=>if (vh.1 !=0) then some (.inr (.inr (v2,(-1),vh.1))) else (zbM rv sv v2 x 0 vh.2.1 vh.2.2>>=fun q=>match q with | .inl u=>(some (.inl ((i64.wrap (v2+1)),u.1,u.2))) | .inr u2=>(some (.inr (.inr (v2,u2.1,u2.2)))))) else some (.inr (.inl ()))
def zcR (rv:List Int) (sv:List zc) (v2:Int) (f:List (zk×Bool)) (f2:List (zn×Bool)):Option (Unit⊕(Int×Int×Int)):=zac (fun s=>zax rv sv s.1 s.2.1 s.2.2) (v2,f,f2)
def zfm (sv:List zc):Option (zY×Int):=if ((decide ((sv.length:Int)<1))|| (decide ((sv.length:Int)>100))) then some ((⟨(-1),(-1),1⟩:zY),9) else (zkd>>=fun rv=>zcR rv sv 0 ([]:List (zk×Bool)) ([]:List (zn×Bool))>>=fun q2=>match q2 with | .inl u3=>(some ((⟨0,0,0⟩:zY),0)) | .inr u4=>(some ((⟨u4.1,u4.2.1,u4.2.2⟩:zY),9)))
theorem zkY {f6:List (zk×Bool)} {f7:List (zn×Bool)} (h:zbp rv sv v2 x v3 f6 f7=some (.inl (v3',f6',f7'))):zbM rv sv v2 x v3 f6 f7=zbM rv sv v2 x v3' f6' f7':=zH h
theorem zgB {f6:List (zk×Bool)} {f7:List (zn×Bool)} (h:zbp rv sv v2 x v3 f6 f7=some (.inr vj)):zbM rv sv v2 x v3 f6 f7=some vj:=zI h
theorem zkX {f2:List (zn×Bool)} (h:zax rv sv v2 f f2=some (.inl (v2',f',f2'))):zcR rv sv v2 f f2=zcR rv sv v2' f' f2':=zH h
theorem zco {f2:List (zn×Bool)} (h:zax rv sv v2 f f2=some (.inr vj)):zcR rv sv v2 f f2=some vj:=zI h
def zfn (sv:List zc):Option Bool:=zfm sv>>=fun rv=>some (rv.2==0)
def zaU (sv:Str) (i:Int):Option (Int⊕(Unit⊕Unit)):=if (decide (i<(sv.length:Int))) then (idx sv i>>=fun c=>if (!(if (decide ((c.toNat:Int)>=65)) then (decide ((c.toNat:Int)<=90))|| (if (decide ((c.toNat:Int)>=97)) then (decide ((c.toNat:Int)<=122))|| (((c.toNat:Int)==95)|| ((decide (i>0))&&((decide ((c.toNat:Int)>=48))&&(decide ((c.toNat:Int)<=57))))) else (((c.toNat:Int)==95)|| ((decide (i>0))&&((decide ((c.toNat:Int)>=48))&&(decide ((c.toNat:Int)<=57)))))) else (if (decide ((c.toNat:Int)>=97)) then (decide ((c.toNat:Int)<=122))|| (((c.toNat:Int)==95)|| ((decide (i>0))&&((decide ((c.toNat:Int)>=48))&&(decide ((c.toNat:Int)<=57))))) else (((c.toNat:Int)==95)|| ((decide (i>0))&&((decide ((c.toNat:Int)>=48))&&(decide ((c.toNat:Int)<=57)))))))) then some (.inr (.inr ())) else some (.inl (i64.wrap (i+1)))) else some (.inr (.inl ()))
def zbw (sv:Str) (i:Int):Option (Unit⊕Unit):=zac (fun s=>zaU sv s) i
def zci (sv:Str):Option Bool:=zbw sv 0>>=fun q=>match q with | .inl u=>(some ((decide ((sv.length:Int)>=1))&&(decide ((sv.length:Int)<=60)))) | .inr u2=>(some false)
theorem zhT (h:zaU sv i=some (.inl i')):zbw sv i=zbw sv i':=zH h
theorem zeC (h:zaU sv i=some (.inr vj)):zbw sv i=some vj:=zI h
def zaL (i:Int) (k:Int) (sv:List zc) (x2:zd) (name:Bool) (number:Bool) (j:Int):Option ((Bool×Bool×Int)⊕(Bool×Bool)):=if (decide (j<k)) then ((if name then some true else idx sv i>>=fun x3=>idx x3.Fields j>>=fun x4=>some (x4.Name==x2.Name))>>=fun g=>(if number then some true else idx sv i>>=fun x5=>idx x5.Fields j>>=fun x6=>some (x6.Number==x2.Number))>>=fun g2=>some (.inl (g,g2,(i64.wrap (j+1))))) else some (.inr (name,number))
def zbm (i:Int) (k:Int) (sv:List zc) (x2:zd) (name:Bool) (number:Bool) (j:Int):Option (Bool×Bool):=zac (fun s=>zaL i k sv x2 s.1 s.2.1 s.2.2) (name,number,j)
def zcD (sv:List zc) (i:Int) (k:Int):Option Int:=idx sv i>>=fun x=>idx x.Fields k>>=fun x2=>zbm i k sv x2 false false 0>>=fun q=>zci x2.Name>>=fun rv=>if (!rv) then some 5 else (if q.1 then some 6 else (if ((decide (x2.Number<1))|| ((decide (x2.Number>536870911))|| ((decide (x2.Number>=19000))&&(decide (x2.Number<20000))))) then some 7 else (if q.2 then some 8 else (zbT x2.Kind>>=fun vc=>if (!vc) then some 9 else ((if x2.Packed then (if x2.Repeated then (zbf x2.Kind>>=fun vh=>some (!vh)) else some (!false)) else some false)>>=fun g3=>if g3 then some 10 else (if (if (x2.Kind==17) then (decide (x2.Of<0))|| ((decide (x2.Of>=(sv.length:Int)))|| ((x2.Kind !=17)&&(x2.Of !=0))) else (x2.Kind !=17)&&(x2.Of !=0)) then some 11 else some 0))))))
theorem zhq (h:zaL i k sv x2 name number j=some (.inl (name',number',j'))):zbm i k sv x2 name number j=zbm i k sv x2 name' number' j':=zH h
theorem zhr (h:zaL i k sv x2 name number j=some (.inr vj)):zbm i k sv x2 name number j=some vj:=zI h
def zaJ (i:Int) (sv:List zc) (twice:Bool) (k:Int):Option ((Bool×Int)⊕Bool):=if (decide (k<i)) then ((if twice then some true else idx sv k>>=fun x=>idx sv i>>=fun x2=>some (x.Name==x2.Name))>>=fun g=>some (.inl (g,(i64.wrap (k+1))))) else some (.inr twice)
def zbk (i:Int) (sv:List zc) (twice:Bool) (k:Int):Option Bool:=zac (fun s=>zaJ i sv s.1 s.2) (twice,k)
def zaK (i:Int) (sv:List zc) (k2:Int):Option (Int⊕(Unit⊕(Int×Int))):=idx sv i>>=fun x5=>if (decide (k2<(x5.Fields.length:Int))) then (zcD sv i k2>>=fun vc=>if (decide (vc>0)) then some (.inr (.inr (k2,vc))) else some (.inl (i64.wrap (k2+1)))) else some (.inr (.inl ()))
def zbl (i:Int) (sv:List zc) (k2:Int):Option (Unit⊕(Int×Int)):=zac (fun s=>zaK i sv s) k2
def zaI (sv:List zc) (i:Int):Option (Int⊕(Unit⊕(Int×Int×Int))):=if (decide (i<(sv.length:Int))) then (zbk i sv false 0>>=fun q=>idx sv i>>=fun x3=>zci x3.Name>>=fun rv=>if (!rv) then some (.inr (.inr (i,(-1),2))) else (if q then some (.inr (.inr (i,(-1),3))) else (idx sv i>>=fun x4=>if (decide ((x4.Fields.length:Int)>200)) then some (.inr (.inr (i,(-1),4))) else (zbl i sv 0>>=fun q2=>match q2 with | .inl u=>(some (.inl (i64.wrap (i+1)))) | .inr u2=>(some (.inr (.inr (i,u2.1,u2.2)))))))) else some (.inr (.inl ()))
def zbQ (sv:List zc) (i:Int):Option (Unit⊕(Int×Int×Int)):=zac (fun s=>zaI sv s) i
def zcC (sv:List zc):Option (Int×Int×Int):=if (((sv.length:Int)==0)|| (decide ((sv.length:Int)>100))) then some ((-1),(-1),1) else (zbQ sv 0>>=fun q3=>match q3 with | .inl u3=>(some (0,0,0)) | .inr u4=>(some (u4.1,u4.2.1,u4.2.2)))
theorem zhn (h:zaJ i sv twice k=some (.inl (twice',k'))):zbk i sv twice k=zbk i sv twice' k':=zH h
theorem zho (h:zaJ i sv twice k=some (.inr vj)):zbk i sv twice k=some vj:=zI h
theorem zhp (h:zaK i sv k2=some (.inl k2')):zbl i sv k2=zbl i sv k2':=zH h
theorem zew (h:zaK i sv k2=some (.inr vj)):zbl i sv k2=some vj:=zI h
theorem zhm (h:zaI sv i=some (.inl i')):zbQ sv i=zbQ sv i':=zH h
theorem zbb (h:zaI sv i=some (.inr vj)):zbQ sv i=some vj:=zI h
def zaM (m:zc) (number:Int) (i:Int):Option (Int⊕(Unit⊕Int)):=if (decide (i<(m.Fields.length:Int))) then (idx m.Fields i>>=fun x=>if (x.Number==number) then some (.inr (.inr i)) else some (.inl (i64.wrap (i+1)))) else some (.inr (.inl ()))
def zbR (m:zc) (number:Int) (i:Int):Option (Unit⊕Int):=zac (fun s=>zaM m number s) i
def zcE (m:zc) (number:Int):Option Int:=zbR m number 0>>=fun q=>match q with | .inl u=>(some (-1)) | .inr u2=>(some u2)
theorem zhs (h:zaM m number i=some (.inl i')):zbR m number i=zbR m number i':=zH h
theorem zex (h:zaM m number i=some (.inr vj)):zbR m number i=some vj:=zI h
def zcF (sv:List zc):Option Bool:=zcC sv>>=fun rv=>some (rv.2.2==0)
def zfl (k:Int):Option (Int×Int):=((if (k==1) then some (k==1) else (if (k==2) then some (k==2) else if (k==3) then some (k==3) else if (k==4) then some (k==4) else if (k==5) then some (k==5) else if (k==6) then some (k==6) else if (k==7) then some (k==7) else some (k==8)) :Option Bool))>>=fun p=>if p then some (0,0) else ((if (k==9) then some (k==9) else (if (k==10) then some (k==10) else some (k==11)) :Option Bool))>>=fun p2=>if p2 then some (4,0) else if (k==12) then if (k==12) then some (8,0) else (some (0,2)) else if (k==13) then if (k==13) then some (8,0) else (some (0,2)) else if (k==14) then some (8,0) else some (0,2)
def zgl (k:Int) (wv:Int):Option Int:=zfl k>>=fun rv=>if ((rv.2 !=0)|| (rv.1 !=0)) then some rv.1 else zgU k wv>>=fun vc=>zjO vc.1>>=fun vh=>some vh
def ziC (k:Int):Option Int:=zgl k 0>>=fun rv=>some rv
def ziB (wide:Int) (b:List UInt8):Option (Int×Int):=if (wide==1) then (zeZ b>>=fun rv=>some (rv.1,rv.2)) else if (decide (wide>(b.length:Int))) then some (0,3) else some (wide,0)
def zaZ {σ:Type} (kf:(Rnd σ ((List UInt8)×Int))) (rv:Int) (vd:List UInt8) (sg2:σ):Option (((List UInt8)×σ)⊕(σ⊕σ)):=if (decide ((vd.length:Int)>0)) then (ziB rv vd>>=fun vc=>cut vd 0 vc.1>>=fun v3=>kf sg2 (v3,vc.2)>>=fun y2=>if ((!y2.1)|| (vc.2 !=0)) then some (.inr (.inr y2.2)) else cut vd vc.1 (vd.length:Int)>>=fun v5=>some (.inl (v5,y2.2))) else some (.inr (.inl sg2))
def zcQ {σ:Type} (kf:(Rnd σ ((List UInt8)×Int))) (rv:Int) (vd:List UInt8) (sg2:σ):Option (σ⊕σ):=zac (fun s=>zaZ kf rv s.1 s.2) (vd,sg2)
def zdF {σ:Type} (v:Int) (v2:List UInt8) (kf:Rnd σ ((List UInt8)×Int)) (sg:σ):Option σ:=ziC v>>=fun rv=>if (rv==0) then (kf sg (([]:List UInt8),2)>>=fun y=>some y.2) else (zcQ kf rv v2 sg>>=fun q=>match q with | .inl u=>(some u) | .inr u2=>(some u2))
theorem zkW {σ:Type} {kf:(Rnd σ ((List UInt8)×Int))} {rv:Int} {vd:List UInt8} {sg2:σ} {rest':List UInt8} {sg2':σ} (h:zaZ kf rv vd sg2=some (.inl (rest',sg2'))):zcQ kf rv vd sg2=zcQ kf rv rest' sg2':=zH h
theorem zez {σ:Type} {kf:(Rnd σ ((List UInt8)×Int))} {rv:Int} {vd:List UInt8} {sg2:σ} {vj:(σ⊕σ)} (h:zaZ kf rv vd sg2=some (.inr vj)):zcQ kf rv vd sg2=some vj:=zI h
def zjf (k:Int) (b:List UInt8):Option (Int×(List UInt8)):=some (k,b)
def zaq (b:List UInt8) (k:Int) (out:List Int) (vf:Int):Option (((List Int)×Int)⊕((List Int)⊕Int)):=if (decide (vf<(b.length:Int))) then (((if (decide (k<12)) then some 4 else (some 8) :Option Int))>>=fun p=>((if (decide (k<9)) then (zbh b vf>>=fun vc=>if (vc.2.2 !=0) then some (.inr vc.2.2) else some (.inl vc.2.1)) else (some (.inl p)) :Option (Int⊕Int)))>>=fun p2=>match p2 with | .inl u=>(if (decide ((i64.wrap (vf+u))>(b.length:Int))) then some (.inr (.inr 3)) else app 8 out ([(i64.wrap (vf+u))]:List Int)>>=fun v3=>some (.inl (v3,(i64.wrap (vf+u))))) | .inr u2=>(some (.inr (.inr u2)))) else some (.inr (.inl out))
def zaV (b:List UInt8) (k:Int) (out:List Int) (vf:Int):Option ((List Int)⊕Int):=zac (fun s=>zaq b k s.1 s.2) (out,vf)
def zcX (k:Int) (b:List UInt8):Option ((List Int)×Int):=zbf k>>=fun rv=>if (!rv) then some ([],2) else (zaV b k [] 0>>=fun q=>match q with | .inl u3=>(some (u3,0)) | .inr u4=>(some ([],u4)))
theorem zhU {b:List UInt8} {k:Int} {out:List Int} {vf:Int} {out':List Int} {atv':Int} (h:zaq b k out vf=some (.inl (out',atv'))):zaV b k out vf=zaV b k out' atv':=zH h
theorem zeD {b:List UInt8} {k:Int} {out:List Int} {vf:Int} {vj:((List Int)⊕Int)} (h:zaq b k out vf=some (.inr vj)):zaV b k out vf=some vj:=zI h
def zdd (f:Int) (x:List UInt8) (x2:Int):Option (Int⊕(Int×Int)):=if (x2 !=0) then some (.inr (x2,f)) else some (.inl (i64.wrap (f+1)))
def ziA (k:Int) (b:List UInt8):Option (Int×Int):=zjf k b>>=fun rv=>zdF rv.1 rv.2 (rnd (fun (s:Int) (x:((List UInt8)×Int))=>zdd s x.1 x.2)) (.inl 0)>>=fun q=>match q with | .inl u=>(some (u,0)) | .inr j=>(some (0,j.1))
def zfs (f:zd) (v:Int):Option Bool:=some (f.Number==v)
def zw (sv:List zd) (v:Int) (v2:Int):Option (Int⊕(Unit⊕Int)):=if (decide (v2<(sv.length:Int))) then (idx sv v2>>=fun x=>zfs x v>>=fun rv=>if rv then some (.inr (.inr v2)) else some (.inl (i64.wrap (v2+1)))) else some (.inr (.inl ()))
def zA (sv:List zd) (v:Int) (v2:Int):Option (Unit⊕Int):=zac (fun s=>zw sv v s) v2
def zO (sv:List zd) (v:Int):Option Int:=zA sv v 0>>=fun q=>match q with | .inl u=>(some (-1)) | .inr u2=>(some u2)
theorem zbN (h:zw sv v v2=some (.inl v2')):zA sv v v2=zA sv v v2':=zH h
theorem zat (h:zw sv v v2=some (.inr vj)):zA sv v v2=some vj:=zI h
def zhi (m:zc) (number:Int):Option Int:=zO m.Fields number>>=fun rv=>some rv
def zhj (f:zd) (wire:Int):Option Bool:=(if f.Repeated then (if (wire==2) then (zeS f.Kind>>=fun rv=>some rv) else some false) else some false)>>=fun g=>some g
def ziN (k:Int) (wire:Int):Option Bool:=zgJ k>>=fun rv=>some ((rv.2==0)&&(rv.1==wire))
def zfa (m:zc) (hv:zz):Option zB:=zhi m hv.number>>=fun rv=>if (rv==(-1)) then some (⟨(-1),false,0⟩:zB) else idx m.Fields rv>>=fun x=>zhj x hv.wire>>=fun vc=>(if (!vc) then (ziN x.Kind hv.wire>>=fun vh=>some (!vh)) else some false)>>=fun g=>if g then some (⟨0,false,6⟩:zB) else some (⟨rv,vc,0⟩:zB)
def zgN (m:zc) (b:List UInt8) (vo:Int) (met:List (zz×zB)):Option (zb×Int×(List (zz×zB))):=zeX b vo>>=fun rv=>if (rv.2 !=0) then some ((⟨(⟨0,0,0,0,0⟩:zg),0,false⟩:zb),rv.2,met) else (((if (!(mget met (⟨rv.1.Number,rv.1.Wire⟩:zz)).isSome) then (zfa m (⟨rv.1.Number,rv.1.Wire⟩:zz)>>=fun vc=>some ((mput met (⟨rv.1.Number,rv.1.Wire⟩:zz) vc),vc.field,vc.run,vc.e)) else (some (met,((mget met (⟨rv.1.Number,rv.1.Wire⟩:zz)).getD (⟨0,false,0⟩:zB)).field,((mget met (⟨rv.1.Number,rv.1.Wire⟩:zz)).getD (⟨0,false,0⟩:zB)).run,((mget met (⟨rv.1.Number,rv.1.Wire⟩:zz)).getD (⟨0,false,0⟩:zB)).e)) :Option ((List (zz×zB))×Int×Bool×Int)))>>=fun p=>if (p.2.2.2 !=0) then some ((⟨(⟨0,0,0,0,0⟩:zg),0,false⟩:zb),p.2.2.2,p.1) else some ((⟨rv.1,p.2.1,p.2.2.1⟩:zb),0,p.1))
def zcu (b:List UInt8) (m:zc) (l:List zb) (met:List (zz×zB)) (vo:Int):Option (((List zb)×(List (zz×zB))×Int)⊕((List zb)⊕(Int×Int))):=if (decide (vo<(b.length:Int))) then (zgN m b vo met>>=fun vc=>if (vc.2.1 !=0) then some (.inr (.inr (vo,vc.2.1))) else app 56 l ([vc.1]:List zb)>>=fun v=>some (.inl (v,vc.2.2,vc.1.Record.To))) else some (.inr (.inl l))
def zeq (b:List UInt8) (m:zc) (l:List zb) (met:List (zz×zB)) (vo:Int):Option ((List zb)⊕(Int×Int)):=zac (fun s=>zcu b m s.1 s.2.1 s.2.2) (l,met,vo)
def ziL (m:zc) (b:List UInt8):Option ((List zb)×Int×Int):=zeq b m [] ([]:List (zz×zB)) 0>>=fun q=>match q with | .inl u=>(some (u,0,0)) | .inr u2=>(some ([],u2.1,u2.2))
theorem zjr (h:zcu b m l met vo=some (.inl (l',vm,fromv'))):zeq b m l met vo=zeq b m l' vm fromv':=zH h
theorem zgv (h:zcu b m l met vo=some (.inr vj)):zeq b m l met vo=some vj:=zI h
def ziM (m:zc) (b:List UInt8) (vo:Int):Option (zb×Int):=zgN m b vo ([]:List (zz×zB))>>=fun vc=>some (vc.1,vc.2.1)
def zcj (m:zc) (b:List UInt8) (vo:Int):Option (zt×Int):=zch b vo>>=fun rv=>if (rv.2 !=0) then some ((⟨(⟨0,0,0,0,0⟩:zg),0,false⟩:zt),rv.2) else zcE m rv.1.Number>>=fun vc=>if (decide (vc<0)) then some ((⟨rv.1,(-1),false⟩:zt),0) else idx m.Fields vc>>=fun x=>(if x.Repeated then (zbf x.Kind>>=fun vh=>if vh then some (rv.1.Wire==2) else some false) else some false)>>=fun g=>if g then some ((⟨rv.1,vc,true⟩:zt),0) else (zbT x.Kind>>=fun rv4=>if (!rv4) then some true else zcW x.Kind>>=fun rv5=>some (rv5 !=rv.1.Wire))>>=fun g2=>if g2 then some ((⟨(⟨0,0,0,0,0⟩:zg),0,false⟩:zt),6) else some ((⟨rv.1,vc,false⟩:zt),0)
def zam (b:List UInt8) (m:zc) (out:List zt) (vf:Int):Option (((List zt)×Int)⊕((List zt)⊕(Int×Int))):=if (decide (vf<(b.length:Int))) then (zcj m b vf>>=fun rv=>if (rv.2 !=0) then some (.inr (.inr (vf,rv.2))) else app 56 out ([rv.1]:List zt)>>=fun v3=>some (.inl (v3,rv.1.R.To))) else some (.inr (.inl out))
def zbg (b:List UInt8) (m:zc) (out:List zt) (vf:Int):Option ((List zt)⊕(Int×Int)):=zac (fun s=>zam b m s.1 s.2) (out,vf)
def zcv (m:zc) (b:List UInt8):Option ((List zt)×Int×Int):=zbg b m [] 0>>=fun q=>match q with | .inl u=>(some (u,0,0)) | .inr u2=>(some ([],u2.1,u2.2))
theorem zeO {b:List UInt8} {m:zc} {out:List zt} {vf:Int} {out':List zt} {atv':Int} (h:zam b m out vf=some (.inl (out',atv'))):zbg b m out vf=zbg b m out' atv':=zH h
theorem zdm {b:List UInt8} {m:zc} {out:List zt} {vf:Int} {vj:((List zt)⊕(Int×Int))} (h:zam b m out vf=some (.inr vj)):zbg b m out vf=some vj:=zI h
def zdR (wv:zM) (message:Int) (vo:Int) (tov:Int):Option (zb×Int×(List (zh×zb))):=cut wv.b 0 tov>>=fun v=>zeX v vo>>=fun rv=>if (rv.2 !=0) then some ((⟨(⟨0,0,0,0,0⟩:zg),0,false⟩:zb),rv.2,wv.met) else (if (!(mget wv.met (⟨message,rv.1.Number,rv.1.Wire⟩:zh)).isSome) then (idx wv.s message>>=fun x=>ziM x v vo>>=fun vc=>if (vc.2 !=0) then some ((⟨(⟨0,0,0,0,0⟩:zg),0,false⟩:zb),vc.2,wv.met) else some ((⟨rv.1,vc.1.Field,vc.1.Run⟩:zb),0,(mput wv.met (⟨message,rv.1.Number,rv.1.Wire⟩:zh) vc.1))) else (some ((⟨rv.1,(((mget wv.met (⟨message,rv.1.Number,rv.1.Wire⟩:zh)).getD (⟨(⟨0,0,0,0,0⟩:zg),0,false⟩:zb)).Field),(((mget wv.met (⟨message,rv.1.Number,rv.1.Wire⟩:zh)).getD (⟨(⟨0,0,0,0,0⟩:zg),0,false⟩:zb)).Run)⟩:zb),0,wv.met)))
def zgo (f:zd) (isRun:Bool) (value:List UInt8):Option Int:=if isRun then (ziA f.Kind value>>=fun rv=>some rv.2) else (if (f.Kind==15) then (ziI value>>=fun vc=>some (!vc)) else some false)>>=fun g=>if g then some 7 else if (f.Kind==17) then some 8 else some 0
def zae (d:Int) (message:Int) (xa:zM->Int->zb->Int->Option (zo×(List (zh×zb)))) (tov:Int) (wv:zM) (wv2:List (zh×zb)) (vr:Int) (depth:Int):Option (((List (zh×zb))×Int×Int)⊕(((List (zh×zb))×Int)⊕((List (zh×zb))×Int×Int×Int))):=if (decide (vr<tov)) then (zdR (⟨wv.s,wv.b,wv2⟩:zM) message vr tov>>=fun vc=>if (vc.2.1 !=0) then some (.inr (.inr (vc.2.2,0,vr,vc.2.1))) else xa (⟨wv.s,wv.b,vc.2.2⟩:zM) message vc.1 d>>=fun rv4=>if (rv4.1.e !=0) then some (.inr (.inr (rv4.2,rv4.1.depth,rv4.1.place,rv4.1.e))) else some (.inl (rv4.2,vc.1.Record.To,(if depth<rv4.1.depth then rv4.1.depth else depth)))) else some (.inr (.inl (wv2,depth)))
def zaP (d:Int) (message:Int) (xa:zM->Int->zb->Int->Option (zo×(List (zh×zb)))) (tov:Int) (wv:zM) (wv2:List (zh×zb)) (vr:Int) (depth:Int):Option (((List (zh×zb))×Int)⊕((List (zh×zb))×Int×Int×Int)):=zac (fun s=>zae d message xa tov wv s.1 s.2.1 s.2.2) (wv2,vr,depth)
def zcf (xc:zM->Int->Int->Int->Int->Option (zo×(List (zh×zb)))) (xa:zM->Int->zb->Int->Option (zo×(List (zh×zb)))) (wv:zM) (message:Int) (vo:Int) (tov:Int) (d:Int):Option (zo×(List (zh×zb))):=zaP d message xa tov wv wv.met vo 0>>=fun q=>match q with | .inl u=>(some ((⟨u.2,0,0⟩:zo),u.1)) | .inr u2=>(some ((⟨u2.2.1,u2.2.2.1,u2.2.2.2⟩:zo),u2.1))
def zcL (xc:zM->Int->Int->Int->Int->Option (zo×(List (zh×zb)))) (xa:zM->Int->zb->Int->Option (zo×(List (zh×zb)))) (wv:zM) (message:Int) (v:zb) (d:Int):Option (zo×(List (zh×zb))):=if (v.Field==(-1)) then some ((⟨0,0,0⟩:zo),wv.met) else idx wv.s message>>=fun x=>idx x.Fields v.Field>>=fun x2=>if ((x2.Kind==17)&&(decide (d>0))) then (xc wv x2.Of v.Record.At v.Record.To (i64.wrap (d - 1))>>=fun vc=>some ((⟨(i64.wrap (vc.1.depth+1)),vc.1.place,vc.1.e⟩:zo),vc.2)) else cut wv.b v.Record.At v.Record.To>>=fun v3=>zgo x2 v.Run v3>>=fun vh=>if (vh !=0) then some ((⟨0,v.Record.From,vh⟩:zo),wv.met) else some ((⟨0,0,0⟩:zo),wv.met)
def zN:Nat->(zM->Int->Int->Int->Int->Option (zo×(List (zh×zb))))×(zM->Int->zb->Int->Option (zo×(List (zh×zb)))) | 0=>(fun _ _ _ _ _=>none,fun _ _ _ _=>none) | ve+1=>(fun wv message vo tov d=>zcf (zN ve).1 (zN ve).2 wv message vo tov d,fun wv message v d=>zcL (zN ve).1 (zN ve).2 wv message v d)
def zai (ve:Nat):zM->Int->Int->Int->Int->Option (zo×(List (zh×zb))):=(zN ve).1
def zbY (ve:Nat):zM->Int->zb->Int->Option (zo×(List (zh×zb))):=(zN ve).2
theorem zhu (h:zae d message xa tov wv wv2 vr depth=some (.inl (wv2',fromv2',depth'))):zaP d message xa tov wv wv2 vr depth=zaP d message xa tov wv wv2' fromv2' depth':=zH h
theorem zbO (h:zae d message xa tov wv wv2 vr depth=some (.inr vj)):zaP d message xa tov wv wv2 vr depth=some vj:=zI h
def zfP (sv:List zc) (root:Int) (d:Int):Option Int:=zfn sv>>=fun rv=>if (!rv) then some 9 else (if ((decide (root<0))|| ((decide (root>=(sv.length:Int)))|| ((decide (d<0))|| (decide (d>64))))) then some 2 else some 0)
def zhg (ve:Nat) (sv:List zc) (root:Int) (b:List UInt8) (d:Int):Option zo:=zfP sv root d>>=fun rv=>if (rv !=0) then some (⟨0,0,rv⟩:zo) else (zai ve (⟨sv,b,([]:List (zh×zb))⟩:zM) root 0 (b.length:Int) d>>=fun vh=>some vh.1)
def zdz (ve:Nat) (sv:List zc) (root:Int) (b:List UInt8) (d:Int):Option (Int×Int):=zhg ve sv root b d>>=fun rv=>some (rv.place,rv.e)
def zck (sv:List zc) (root:Int) (d:Int):Option Int:=zcF sv>>=fun rv=>if (!rv) then some 9 else (if ((decide (root<0))|| ((decide (root>=(sv.length:Int)))|| ((decide (d<0))|| (decide (d>64))))) then some 2 else some 0)
def zau (b:List UInt8) (d:Int) (m:Int) (xb:(List zc)->Int->(List UInt8)->Int->Option (Int×Int)) (sv:List zc) (vf:Int):Option (Int⊕(Unit⊕(Int×Int))):=if (decide (vf<(b.length:Int))) then (idx sv m>>=fun x=>zcj x b vf>>=fun rv=>if (rv.2 !=0) then some (.inr (.inr (vf,rv.2))) else cut b rv.1.R.At rv.1.R.To>>=fun v3=>if (decide (rv.1.Field>=0)) then (idx sv m>>=fun x2=>idx x2.Fields rv.1.Field>>=fun x3=>if rv.1.Run then (zcX x3.Kind v3>>=fun vc=>if (vc.2 !=0) then some (.inr (.inr (vf,vc.2))) else some (.inl rv.1.R.To)) else (if (x3.Kind==15) then (zbq v3>>=fun vh=>some (!vh)) else some false)>>=fun g=>if g then some (.inr (.inr (vf,7))) else if (x3.Kind==17) then (if (d==0) then some (.inr (.inr (vf,8))) else xb sv x3.Of v3 (i64.wrap (d - 1))>>=fun rv4=>if (rv4.2 !=0) then some (.inr (.inr ((i64.wrap (rv.1.R.At+rv4.1)),rv4.2))) else some (.inl rv.1.R.To)) else some (.inl rv.1.R.To)) else some (.inl rv.1.R.To)) else some (.inr (.inl ()))
def zav (b:List UInt8) (d:Int) (m:Int) (xb:(List zc)->Int->(List UInt8)->Int->Option (Int×Int)) (sv:List zc) (vf:Int):Option (Unit⊕(Int×Int)):=zac (fun s=>zau b d m xb sv s) vf
def zaW (xb:(List zc)->Int->(List UInt8)->Int->Option (Int×Int)) (sv:List zc) (m:Int) (b:List UInt8) (d:Int):Option (Int×Int):=zav b d m xb sv 0>>=fun q=>match q with | .inl u=>(some (0,0)) | .inr u2=>(some (u2.1,u2.2))
def zas:Nat->(List zc)->Int->(List UInt8)->Int->Option (Int×Int) | 0,_,_,_,_=>none | ve+1,sv,m,b,d=>zaW (zas ve) sv m b d
theorem zht {b:List UInt8} {d:Int} {m:Int} {xb:(List zc)->Int->(List UInt8)->Int->Option (Int×Int)} {sv:List zc} {vf:Int} {atv':Int} (h:zau b d m xb sv vf=some (.inl atv')):zav b d m xb sv vf=zav b d m xb sv atv':=zH h
theorem zcO {b:List UInt8} {d:Int} {m:Int} {xb:(List zc)->Int->(List UInt8)->Int->Option (Int×Int)} {sv:List zc} {vf:Int} {vj:(Unit⊕(Int×Int))} (h:zau b d m xb sv vf=some (.inr vj)):zav b d m xb sv vf=some vj:=zI h
def zcG (ve:Nat) (sv:List zc) (root:Int) (b:List UInt8) (d:Int):Option (Int×Int):=zck sv root d>>=fun rv=>if (rv !=0) then some (0,rv) else zas ve sv root b d>>=fun vc=>some (vc.1,vc.2)
def zeU (ve:Nat) (sv:List zc) (root:Int) (av:List UInt8) (b:List UInt8) (d:Int):Option Int:=zdz ve sv root av d>>=fun rv=>if (rv.2 !=0) then some rv.2 else zdz ve sv root b d>>=fun vc=>some vc.2
def ziu (ve:Nat) (sv:List zc) (root:Int) (av:List UInt8) (b:List UInt8) (d:Int):Option ((List UInt8)×Int):=zeU ve sv root av b d>>=fun rv=>if (rv !=0) then some ([],rv) else zay ([av,b]:List (List UInt8))>>=fun vc=>some (vc,0)
def zeV (m:zc) (b:List UInt8):Option (List zb):=ziL m b>>=fun rv=>some rv.1
def zbi (m:zc) (rv:List zb) (fields:List (Int×Bool)) (v:Int):Option (((List (Int×Bool))×Int)⊕(List (Int×Bool))):=if (decide (v<(rv.length:Int))) then (idx rv v>>=fun x=>(if (x.Field !=(-1)) then (idx m.Fields x.Field>>=fun x2=>if (!x2.Repeated) then (idx m.Fields x.Field>>=fun x3=>some (x3.Kind !=17)) else some false) else some false)>>=fun g=>if g then some (.inl ((mput fields x.Field true),(i64.wrap (v+1)))) else some (.inl (fields,(i64.wrap (v+1))))) else some (.inr fields)
def zbF (m:zc) (rv:List zb) (fields:List (Int×Bool)) (v:Int):Option (List (Int×Bool)):=zac (fun s=>zbi m rv s.1 s.2) (fields,v)
def zej (m:zc) (b:List UInt8):Option (List (Int×Bool)):=zeV m b>>=fun rv=>zbF m rv ([]:List (Int×Bool)) 0>>=fun q=>some q
theorem zfv {m:zc} {rv:List zb} {fields:List (Int×Bool)} {v:Int} {fields':List (Int×Bool)} {v':Int} (h:zbi m rv fields v=some (.inl (fields',v'))):zbF m rv fields v=zbF m rv fields' v':=zH h
theorem zjE {m:zc} {rv:List zb} {fields:List (Int×Bool)} {v:Int} {vj:List (Int×Bool)} (h:zbi m rv fields v=some (.inr vj)):zbF m rv fields v=some vj:=zI h
def zct (vc:List (Int×Bool)) (vh:List zb) (gone:Int) (v:Int):Option ((Int×Int)⊕Int):=if (decide (v<(vh.length:Int))) then (idx vh v>>=fun x2=>if ((mget vc x2.Field).getD false) then some (.inl ((i64.wrap (gone+1)),(i64.wrap (v+1)))) else some (.inl (gone,(i64.wrap (v+1))))) else some (.inr gone)
def zdV (vc:List (Int×Bool)) (vh:List zb) (gone:Int) (v:Int):Option Int:=zac (fun s=>zct vc vh s.1 s.2) (gone,v)
def zeK (ve:Nat) (sv:List zc) (root:Int) (av:List UInt8) (b:List UInt8) (d:Int):Option (Int×Int):=zeU ve sv root av b d>>=fun rv=>if (rv !=0) then some (0,rv) else idx sv root>>=fun x=>zej x b>>=fun vc=>zeV x av>>=fun vh=>zdV vc vh 0 0>>=fun q=>some (q,0)
theorem zhB {vc:List (Int×Bool)} {vh:List zb} {gone:Int} {v:Int} {gone':Int} {v':Int} (h:zct vc vh gone v=some (.inl (gone',v'))):zdV vc vh gone v=zdV vc vh gone' v':=zH h
theorem zml {vc:List (Int×Bool)} {vh:List zb} {gone:Int} {v:Int} {vj:Int} (h:zct vc vh gone v=some (.inr vj)):zdV vc vh gone v=some vj:=zI h
def zcz (ve:Nat):Option Bool:=ziu ve ([(⟨[109],([(⟨[97],1,3,false,false,0⟩:zd)]:List zd)⟩:zc)]:List zc) 0 ([(8:UInt8),(1:UInt8)]:List UInt8) ([(8:UInt8),(2:UInt8)]:List UInt8) 0>>=fun rv=>zeK ve ([(⟨[109],([(⟨[97],1,3,false,false,0⟩:zd)]:List zd)⟩:zc)]:List zc) 0 ([(8:UInt8),(1:UInt8)]:List UInt8) ([(8:UInt8),(2:UInt8)]:List UInt8) 0>>=fun vc=>(if ((i64.wrap ((i64.wrap rv.2)+(i64.wrap vc.2)))==0) then (if (vc.1==1) then (zcS rv.1 ([(8:UInt8),(1:UInt8),(8:UInt8),(2:UInt8)]:List UInt8)>>=fun vh=>some vh) else some false) else some false)>>=fun g=>some g
def zca (l:List (List UInt8)) (m:zc) (place:Int) (endv:Int) (v:Int):Option ((Int×Int)⊕(Unit⊕Int)):=if (decide (v<(l.length:Int))) then (idx l v>>=fun x=>ziL m x>>=fun rv=>if ((rv.2.2 !=0)|| (decide ((i64.wrap (endv+(x.length:Int)))>place))) then some (.inr (.inr v)) else some (.inl ((i64.wrap (endv+(x.length:Int))),(i64.wrap (v+1))))) else some (.inr (.inl ()))
def zdp (l:List (List UInt8)) (m:zc) (place:Int) (endv:Int) (v:Int):Option (Unit⊕Int):=zac (fun s=>zca l m place s.1 s.2) (endv,v)
def zgj (m:zc) (l:List (List UInt8)) (place:Int):Option Int:=zdp l m place 0 0>>=fun q=>match q with | .inl u=>(some (l.length:Int)) | .inr u2=>(some u2)
theorem zlw {l:List (List UInt8)} {m:zc} {place:Int} {endv:Int} {v:Int} {endv':Int} {v':Int} (h:zca l m place endv v=some (.inl (endv',v'))):zdp l m place endv v=zdp l m place endv' v':=zH h
theorem zgZ {l:List (List UInt8)} {m:zc} {place:Int} {endv:Int} {v:Int} {vj:(Unit⊕Int)} (h:zca l m place endv v=some (.inr vj)):zdp l m place endv v=some vj:=zI h
def zit (ve:Nat) (sv:List zc) (root:Int) (l:List (List UInt8)) (d:Int):Option ((List UInt8)×Int×Int):=zay l>>=fun rv=>zdz ve sv root rv d>>=fun vc=>((if (vc.2==0) then some (.inl (rv.length:Int)) else (zfP sv root d>>=fun vh=>if (vh !=0) then some (.inr vh) else some (.inl vc.1)) :Option (Int⊕Int)))>>=fun p=>match p with | .inl u=>(idx sv root>>=fun x=>zgj x l u>>=fun rv4=>if (decide (rv4<(l.length:Int))) then (idx l rv4>>=fun x2=>zdz ve sv root x2 d>>=fun rv5=>some ([],rv4,rv5.2)) else some (rv,0,0)) | .inr u2=>(some ([],0,u2))
def zaE (ve:Nat) (d:Int) (l:List (List UInt8)) (root:Int) (sv:List zc) (out:List UInt8) (i:Int):Option (((List UInt8)×Int)⊕((List UInt8)⊕(Int×Int))):=if (decide (i<(l.length:Int))) then (idx l i>>=fun x=>zcG ve sv root x d>>=fun vc=>if (vc.2 !=0) then some (.inr (.inr (i,vc.2))) else idx l i>>=fun x2=>app 1 out x2>>=fun v3=>some (.inl (v3,(i64.wrap (i+1))))) else some (.inr (.inl out))
def zbI (ve:Nat) (d:Int) (l:List (List UInt8)) (root:Int) (sv:List zc) (out:List UInt8) (i:Int):Option ((List UInt8)⊕(Int×Int)):=zac (fun s=>zaE ve d l root sv s.1 s.2) (out,i)
def zcw (ve:Nat) (sv:List zc) (root:Int) (l:List (List UInt8)) (d:Int):Option ((List UInt8)×Int×Int):=zck sv root d>>=fun rv=>if (rv !=0) then some ([],0,rv) else (zbI ve d l root sv [] 0>>=fun q=>match q with | .inl u=>(some (u,0,0)) | .inr u2=>(some ([],u2.1,u2.2)))
theorem zin {ve:Nat} {d:Int} {l:List (List UInt8)} {root:Int} {sv:List zc} {out:List UInt8} {i:Int} {out':List UInt8} {i':Int} (h:zaE ve d l root sv out i=some (.inl (out',i'))):zbI ve d l root sv out i=zbI ve d l root sv out' i':=zH h
theorem zeP {ve:Nat} {d:Int} {l:List (List UInt8)} {root:Int} {sv:List zc} {out:List UInt8} {i:Int} {vj:((List UInt8)⊕(Int×Int))} (h:zaE ve d l root sv out i=some (.inr vj)):zbI ve d l root sv out i=some vj:=zI h
def zaX (i:Int) (rv:((List zt)×Int×Int)) (vc:((List zt)×Int×Int)) (met:Bool) (k:Int):Option ((Bool×Int)⊕Bool):=if (decide (k<(vc.1.length:Int))) then ((if met then some true else idx vc.1 k>>=fun x3=>idx rv.1 i>>=fun x4=>some (x3.R.Number==x4.R.Number))>>=fun g=>some (.inl (g,(i64.wrap (k+1))))) else some (.inr met)
def zby (i:Int) (rv:((List zt)×Int×Int)) (vc:((List zt)×Int×Int)) (met:Bool) (k:Int):Option Bool:=zac (fun s=>zaX i rv vc s.1 s.2) (met,k)
def zaB (root:Int) (rv:((List zt)×Int×Int)) (vc:((List zt)×Int×Int)) (sv:List zc) (n:Int) (i:Int):Option ((Int×Int)⊕Int):=if (decide (i<(rv.1.length:Int))) then (zby i rv vc false 0>>=fun q=>(idx rv.1 i>>=fun x5=>if (decide (x5.Field>=0)) then (if q then (idx sv root>>=fun x6=>idx rv.1 i>>=fun x7=>idx x6.Fields x7.Field>>=fun x8=>if (!x8.Repeated) then (idx sv root>>=fun x9=>idx rv.1 i>>=fun x10=>idx x9.Fields x10.Field>>=fun x11=>some (x11.Kind !=17)) else (some false)) else (some false)) else (some false))>>=fun g2=>if g2 then (some (.inl ((i64.wrap (n+1)),(i64.wrap (i+1))))) else (some (.inl (n,(i64.wrap (i+1)))))) else (some (.inr n))
def zbx (root:Int) (rv:((List zt)×Int×Int)) (vc:((List zt)×Int×Int)) (sv:List zc) (n:Int) (i:Int):Option Int:=zac (fun s=>zaB root rv vc sv s.1 s.2) (n,i)
def zcY (sv:List zc) (root:Int) (av:List UInt8) (b:List UInt8):Option Int:=idx sv root>>=fun x=>zcv x av>>=fun rv=>idx sv root>>=fun x2=>zcv x2 b>>=fun vc=>zbx root rv vc sv 0 0>>=fun q2=>some q2
theorem zhW {i:Int} {rv:((List zt)×Int×Int)} {vc:((List zt)×Int×Int)} {met:Bool} {k:Int} {vm:Bool} {k':Int} (h:zaX i rv vc met k=some (.inl (vm,k'))):zby i rv vc met k=zby i rv vc vm k':=zH h
theorem zhX {i:Int} {rv:((List zt)×Int×Int)} {vc:((List zt)×Int×Int)} {met:Bool} {k:Int} {vj:Bool} (h:zaX i rv vc met k=some (.inr vj)):zby i rv vc met k=some vj:=zI h
theorem zeE {root:Int} {rv:((List zt)×Int×Int)} {vc:((List zt)×Int×Int)} {sv:List zc} {n:Int} {i:Int} {n':Int} {i':Int} (h:zaB root rv vc sv n i=some (.inl (n',i'))):zbx root rv vc sv n i=zbx root rv vc sv n' i':=zH h
theorem zhV {root:Int} {rv:((List zt)×Int×Int)} {vc:((List zt)×Int×Int)} {sv:List zc} {n:Int} {i:Int} {vj:Int} (h:zaB root rv vc sv n i=some (.inr vj)):zbx root rv vc sv n i=some vj:=zI h
def zW (l:List (List UInt8)) (n:Int) (i:Int):Option ((Int×Int)⊕Int):=if (decide (i<(l.length:Int))) then (idx l i>>=fun x=>some (.inl ((i64.wrap (n+(x.length:Int))),(i64.wrap (i+1))))) else some (.inr n)
def zar (l:List (List UInt8)) (n:Int) (i:Int):Option Int:=zac (fun s=>zW l s.1 s.2) (n,i)
def zbP (ve:Nat) (sv:List zc) (root:Int) (l:List (List UInt8)) (av:List UInt8) (b:List UInt8) (d:Int):Option Bool:=zcz ve>>=fun rv=>if (!rv) then some false else (zar l (i64.wrap ((av.length:Int)+(b.length:Int))) 0>>=fun q=>zdk sv>>=fun vc=>if ((!vc)|| ((decide ((l.length:Int)>12))|| (decide (q>2000)))) then some true else (zit ve sv root l d>>=fun vh=>zcw ve sv root l d>>=fun rv4=>zcS vh.1 rv4.1>>=fun rv5=>if ((!rv5)|| ((vh.2.1 !=rv4.2.1)|| ((i64.wrap vh.2.2) !=rv4.2.2))) then some false else zeK ve sv root av b d>>=fun rv6=>zcw ve sv root ([av,b]:List (List UInt8)) d>>=fun rv7=>if (rv7.2.2 !=0) then some (((i64.wrap rv6.2)==rv7.2.2)&&(rv6.1==0)) else (if ((i64.wrap rv6.2)==0) then (zcY sv root av b>>=fun rv8=>some (rv6.1==rv8)) else some false)>>=fun g=>some g))
theorem zdI {l:List (List UInt8)} {n:Int} {i:Int} {n':Int} {i':Int} (h:zW l n i=some (.inl (n',i'))):zar l n i=zar l n' i':=zH h
theorem zdJ {l:List (List UInt8)} {n:Int} {i:Int} {vj:Int} (h:zW l n i=some (.inr vj)):zar l n i=some vj:=zI h
end
end Go.Proofs.YtnckiilakdkklaaGreat
