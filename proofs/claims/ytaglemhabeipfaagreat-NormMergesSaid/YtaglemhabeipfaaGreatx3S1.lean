/-
  What the Go functions do, as plain functions. No condition.
-/
import Derived.Test.YtaglemhabeipfaaGreatx3K2
set_option autoImplicit true
set_option relaxedAutoImplicit true
namespace Go.Proofs.YtaglemhabeipfaaGreat
open Go.IntKind (i32 i64 u32 u64 u8)
open Go
set_option linter.unusedVariables false
abbrev Str:=List UInt8
structure zIZ where
  a0:Str
  a1:Str
  a2:Str
  a3:Str
  a4:Str
  a5:Str
  a6:Str
  a7:Str
  a8:Str
  a9:Str
  a10:Str
  a11:Str
  a12:Str
  a13:Str
  a14:Str deriving DecidableEq
structure zo where
  Number:Int
  Wire:Int
  From:Int
  At:Int
  To:Int deriving DecidableEq
def zB:Rp zo:=⟨5,true,fun x=>[.int .i64 x.Number,.int .i64 x.Wire,.int .i64 x.From,.int .i64 x.At,.int .i64 x.To],fun _=>rfl,by decide⟩
structure zf where
  Record:zo
  Field:Int
  Run:Bool deriving DecidableEq
def zh:Rp zf:=⟨7,true,fun x=>[.int .i64 x.Record.Number,.int .i64 x.Record.Wire,.int .i64 x.Record.From,.int .i64 x.Record.At,.int .i64 x.Record.To,.int .i64 x.Field,.bool x.Run],fun _=>rfl,by decide⟩
structure zq where
  name:Str
  wire:Int deriving DecidableEq
def zaa:Rp zq:=⟨2,true,fun x=>[.str x.name,.int .i64 x.wire],fun _=>rfl,by decide⟩
mutual
structure zj where
  Values:(List zi)
  Unknown:(List Str)
structure zi where
  Number:Int
  Words:(List Int)
  Texts:(List Str)
  Subs:(List zj)
end
structure za where
  Name:Str
  Number:Int
  Kind:Int
  Repeated:Bool
  Packed:Bool
  Of:Int deriving DecidableEq
def zb:Rp za:=⟨6,true,fun x=>[.str x.Name,.int .i64 x.Number,.int .i64 x.Kind,.bool x.Repeated,.bool x.Packed,.int .i64 x.Of],fun _=>rfl,by decide⟩
structure zg where
  Name:Str
  Fields:(List za) deriving DecidableEq
def ze:Rp zg:=⟨2,true,fun x=>[.str x.Name,.sl x.Fields.length zb.size (x.Fields.flatMap zb.lv)],fun _=>rfl,by decide⟩
structure zM where
  Number:Int
  Wire:Int deriving DecidableEq
def zaP:Rp zM:=⟨2,true,fun x=>[.int .i64 x.Number,.int .i64 x.Wire],fun _=>rfl,by decide⟩
structure zt where
  message:Int
  name:Str deriving DecidableEq
def zv:Rp zt:=⟨2,true,fun x=>[.int .i64 x.message,.str x.name],fun _=>rfl,by decide⟩
structure zd where
  message:Int
  number:Int deriving DecidableEq
def zc:Rp zd:=⟨2,true,fun x=>[.int .i64 x.message,.int .i64 x.number],fun _=>rfl,by decide⟩
structure zae where
  size:Int
  kinds:(List Int)
  names:(List (zt×Bool))
  numbers:(List (zd×Bool))
structure zad where
  Message:Int
  Field:Int
  What:Int deriving DecidableEq
def zcq:Rp zad:=⟨3,true,fun x=>[.int .i64 x.Message,.int .i64 x.Field,.int .i64 x.What],fun _=>rfl,by decide⟩
structure zL where
  number:Int
  wire:Int deriving DecidableEq
def zab:Rp zL:=⟨2,true,fun x=>[.int .i64 x.number,.int .i64 x.wire],fun _=>rfl,by decide⟩
structure zN where
  field:Int
  run:Bool
  e:Int deriving DecidableEq
def zak:Rp zN:=⟨3,true,fun x=>[.int .i64 x.field,.bool x.run,.int .u8 x.e],fun _=>rfl,by decide⟩
structure ztv where
  R:zo
  Field:Int
  Run:Bool deriving DecidableEq
structure zk where
  message:Int
  number:Int
  wire:Int deriving DecidableEq
def zm:Rp zk:=⟨3,true,fun x=>[.int .i64 x.message,.int .i64 x.number,.int .i64 x.wire],fun _=>rfl,by decide⟩
structure zQ where
  s:(List zg)
  b:(List UInt8)
  met:(List (zk×zf))
structure zu where
  depth:Int
  place:Int
  e:Int deriving DecidableEq
def zY:Rp zu:=⟨3,true,fun x=>[.int .i64 x.depth,.int .i64 x.place,.int .u8 x.e],fun _=>rfl,by decide⟩
structure zHp where
  a0:Int
  a1:Int deriving DecidableEq
structure zFm where
  pieces:(List (List UInt8))
  size:Int deriving DecidableEq
structure zH where
  s:(List zg)
  met:(List (zd×Int))
noncomputable section
def zbE (sv:List zj):Option (List zj):=app 48 ([]:List zj) sv>>=fun v=>some v
def zbf (sv:List zi):Option (List zi):=app 80 ([]:List zi) sv>>=fun v=>some v
def zbo (n:Int):Option (List UInt8):=if (decide (n<0)) then none else if (decide ((i64.wrap (n - (i64.wrap (0 - 0))))>0)) then (mkO 1 (0:UInt8) (i64.wrap (n - (i64.wrap (0 - 0)))) (i64.wrap (n - (i64.wrap (0 - 0))))>>=fun v=>cut v 0 0>>=fun v2=>some v2) else some []
def zaf (vZ:List (List UInt8)) (size:Int) (v:Int):Option ((Int×Int)⊕Int):=if (decide (v<(vZ.length:Int))) then (idx vZ v>>=fun x=>if (decide ((i64.wrap (size+(x.length:Int)))<0)) then none else some (.inl ((i64.wrap (size+(x.length:Int))),(i64.wrap (v+1))))) else some (.inr size)
def zax (vZ:List (List UInt8)) (size:Int) (v:Int):Option Int:=zav (fun s=>zaf vZ s.1 s.2) (size,v)
def zag (vZ:List (List UInt8)) (wa:List UInt8) (v2:Int):Option (((List UInt8)×Int)⊕(List UInt8)):=if (decide (v2<(vZ.length:Int))) then (idx vZ v2>>=fun x2=>app 1 wa x2>>=fun v3=>some (.inl (v3,(i64.wrap (v2+1))))) else some (.inr wa)
def zay (vZ:List (List UInt8)) (wa:List UInt8) (v2:Int):Option (List UInt8):=zav (fun s=>zag vZ s.1 s.2) (wa,v2)
def zas (vZ:List (List UInt8)):Option (List UInt8):=zax vZ 0 0>>=fun q=>zbo q>>=fun rv=>zay vZ rv 0>>=fun q2=>some q2
theorem zfM (h:zaf vZ size v=some (.inl (size',v'))):zax vZ size v=zax vZ size' v':=zR h
theorem zfN (h:zaf vZ size v=some (.inr vM)):zax vZ size v=some vM:=zS h
theorem zfO (h:zag vZ wa v2=some (.inl (newslice',v2'))):zay vZ wa v2=zay vZ newslice' v2':=zR h
theorem zfP (h:zag vZ wa v2=some (.inr vM)):zay vZ wa v2=some vM:=zS h
def zat (sv:List Int) (v:Int) (v2:Int):Option (Int⊕(Unit⊕Int)):=if (decide (v2<(sv.length:Int))) then (idx sv v2>>=fun x=>if (v==x) then some (.inr (.inr v2)) else some (.inl (i64.wrap (v2+1)))) else some (.inr (.inl ()))
def zaI (sv:List Int) (v:Int) (v2:Int):Option (Unit⊕Int):=zav (fun s=>zat sv v s) v2
def zbC (sv:List Int) (v:Int):Option Int:=zaI sv v 0>>=fun q=>match q with | .inl u=>(some (-1)) | .inr u2=>(some u2)
theorem zgO (h:zat sv v v2=some (.inl v2')):zaI sv v v2=zaI sv v v2':=zR h
theorem zdO (h:zat sv v v2=some (.inr vM)):zaI sv v v2=some vM:=zS h
def zaZ (sv:List Int) (v:Int):Option Bool:=zbC sv v>>=fun rv=>some (decide (rv>=0))
def zbk (sv:List Str):Option (List Str):=app 16 ([]:List Str) sv>>=fun v=>some v
def zcw (sv:List Int):Option (List Int):=app 8 ([]:List Int) sv>>=fun v=>some v
def zfy (vI:Int) (n:Int):Option ((Int×Int)⊕Int):=if (vI !=0) then some (.inl ((shrI .u64 vI 7),(i64.wrap (n+1)))) else some (.inr n)
def zgZ (vI:Int) (n:Int):Option Int:=zav (fun s=>zfy s.1 s.2) (vI,n)
def zjs (wv:Int):Option Int:=zgZ (shrI .u64 wv 7) 1>>=fun q=>some q
theorem zqA (h:zfy vI n=some (.inl (wv2',n'))):zgZ vI n=zgZ wv2' n':=zR h
theorem zqB (h:zfy vI n=some (.inr vM)):zgZ vI n=some vM:=zS h
def zcr (v:List UInt8) (wv:Int) (b:List UInt8) (v2:Int):Option (((List UInt8)×Int)⊕(List UInt8)):=if (decide (v2<(v.length:Int))) then (shrO .u64 wv (i64.wrap (8*v2))>>=fun v3=>idx b v2>>=fun x=>zmM (u8.wrap v3)>>=fun y2=>some (.inl ((b.set (Int.toNat v2) y2),(i64.wrap (v2+1))))) else some (.inr b)
def zdK (v:List UInt8) (wv:Int) (b:List UInt8) (v2:Int):Option (List UInt8):=zav (fun s=>zcr v wv s.1 s.2) (b,v2)
def zha (wv:Int) (n:Int):Option (List UInt8):=mkO 1 (0:UInt8) (if (8:Int)<(if n<0 then 0 else n) then 8 else if n<0 then 0 else n) (if (8:Int)<(if n<0 then 0 else n) then 8 else if n<0 then 0 else n)>>=fun v=>zdK v wv v 0>>=fun q=>some q
theorem znf {v:List UInt8} {wv:Int} {b:List UInt8} {v2:Int} {b':List UInt8} {v2':Int} (h:zcr v wv b v2=some (.inl (b',v2'))):zdK v wv b v2=zdK v wv b' v2':=zR h
theorem zng {v:List UInt8} {wv:Int} {b:List UInt8} {v2:Int} {vM:List UInt8} (h:zcr v wv b v2=some (.inr vM)):zdK v wv b v2=some vM:=zS h
def zgx (wv:Int):Option Int:=some (u32.wrap wv)
def zhb (wv:Int):Option Int:=zgx wv>>=fun rv=>some (i32.wrap rv)
def zhc (n:Int):Option Int:=some (u64.wrap (i64.wrap n))
def zdZ (v:List UInt8) (wv:Int) (v2:Int):Option ((Int×Int)⊕Int):=if (decide (v2<(v.length:Int))) then (idx v v2>>=fun x=>shlO .u64 (u64.wrap (x.toNat:Int)) (i64.wrap (8*v2))>>=fun v3=>some (.inl ((orI .u64 wv v3),(i64.wrap (v2+1))))) else some (.inr wv)
def zeQ (v:List UInt8) (wv:Int) (v2:Int):Option Int:=zav (fun s=>zdZ v s.1 s.2) (wv,v2)
def zjt (b:List UInt8):Option Int:=cut b 0 (if (8:Int)<(b.length:Int) then 8 else (b.length:Int))>>=fun v=>zeQ v 0 0>>=fun q=>some q
theorem zoZ (h:zdZ v wv v2=some (.inl (wv',v2'))):zeQ v wv v2=zeQ v wv' v2':=zR h
theorem zpa (h:zdZ v wv v2=some (.inr vM)):zeQ v wv v2=some vM:=zS h
def zdv (av:List UInt8) (b:List UInt8):Option Bool:=some (av==b)
def zcA (v:List UInt8) (wv:Int) (v2:Int):Option ((Int×Int)⊕(Unit⊕(Int×Int×Int))):=if (decide (v2<(v.length:Int))) then (idx v v2>>=fun x=>if ((v2==9)&&(decide ((x.toNat:Int)>1))) then some (.inr (.inr (0,0,4))) else shlO .u64 (u64.wrap (andI .u8 (x.toNat:Int) 127)) (i64.wrap (7*v2))>>=fun v4=>if (decide ((x.toNat:Int)<128)) then some (.inr (.inr ((orI .u64 wv v4),(i64.wrap (v2+1)),0))) else some (.inl ((orI .u64 wv v4),(i64.wrap (v2+1))))) else some (.inr (.inl ()))
def zdS (v:List UInt8) (wv:Int) (v2:Int):Option (Unit⊕(Int×Int×Int)):=zav (fun s=>zcA v s.1 s.2) (wv,v2)
def zdW (b:List UInt8):Option (Int×Int×Int):=cut b 0 (if (10:Int)<(b.length:Int) then 10 else (b.length:Int))>>=fun v=>zdS v 0 0>>=fun q=>match q with | .inl u=>(some (0,0,3)) | .inr u2=>(some (u2.1,u2.2.1,u2.2.2))
theorem znE (h:zcA v wv v2=some (.inl (wv',v2'))):zdS v wv v2=zdS v wv' v2':=zR h
theorem zfw (h:zcA v wv v2=some (.inr vM)):zdS v wv v2=some vM:=zS h
def zdF (vI:Int) (l:List UInt8):Option ((Int×(List UInt8))⊕(Int×(List UInt8))):=if (decide (vI>=128)) then (zmM (orI .u8 (u8.wrap vI) 128)>>=fun y=>app 1 l ([y]:List UInt8)>>=fun v3=>some (.inl ((shrI .u64 vI 7),v3))) else some (.inr (vI,l))
def zfl (vI:Int) (l:List UInt8):Option (Int×(List UInt8)):=zav (fun s=>zdF s.1 s.2) (vI,l)
def zfv (b:List UInt8) (wv:Int):Option (List UInt8):=zjs wv>>=fun rv=>mkO 1 (0:UInt8) 0 (i64.wrap ((b.length:Int)+rv))>>=fun v=>app 1 v b>>=fun v2=>zfl wv v2>>=fun q=>zmM (u8.wrap q.1)>>=fun y2=>app 1 q.2 ([y2]:List UInt8)>>=fun v4=>some v4
theorem zoP {vI:Int} {l:List UInt8} {wv2':Int} {l':List UInt8} (h:zdF vI l=some (.inl (wv2',l'))):zfl vI l=zfl wv2' l':=zR h
theorem zoQ {vI:Int} {l:List UInt8} {vM:(Int×(List UInt8))} (h:zdF vI l=some (.inr vM)):zfl vI l=some vM:=zS h
def zfK (b:List UInt8):Option (Int×Int):=zdW b>>=fun rv=>some (rv.2.1,rv.2.2)
def zfh (wire:Int):Option Bool:=if (wire==0) then if (wire==0) then some true else (some false) else if (wire==1) then if (wire==1) then some true else (some false) else if (wire==2) then if (wire==2) then some true else (some false) else if (wire==5) then some true else some false
def zhZ (t:zM):Option Bool:=(if (decide (t.Number>=1)) then (if (decide (t.Number<=536870911)) then (zfh t.Wire>>=fun rv=>some rv) else some false) else some false)>>=fun g=>some g
def zlO (b:List UInt8):Option (zM×Int×Int):=zdW b>>=fun rv=>if (rv.2.2 !=0) then some ((⟨0,0⟩:zM),0,rv.2.2) else (zhZ (⟨(i64.wrap (if (536870912:Int)<(shrI .u64 rv.1 3) then 536870912 else shrI .u64 rv.1 3)),(i64.wrap (andI .u64 rv.1 7))⟩:zM)>>=fun vA=>if (!vA) then some ((⟨0,0⟩:zM),0,5) else (some ((⟨(i64.wrap (if (536870912:Int)<(shrI .u64 rv.1 3) then 536870912 else shrI .u64 rv.1 3)),(i64.wrap (andI .u64 rv.1 7))⟩:zM),rv.2.1,0)))
def zlP (t:zM):Option Int:=some (orI .u64 (shlI .u64 (u64.wrap t.Number) 3) (u64.wrap t.Wire))
def zkC (b:List UInt8) (t:zM):Option ((List UInt8)×Int):=zhZ t>>=fun rv=>if (!rv) then some ([],2) else zlP t>>=fun vA=>zfv b vA>>=fun vG=>some (vG,0)
def zoO (c:Int):Option (Int×Int):=if ((shrI .u8 c 7)==0) then some (1,(u32.wrap c)) else if ((shrI .u8 c 5)==6) then some (2,(u32.wrap (andI .u8 c 31))) else if ((shrI .u8 c 4)==14) then some (3,(u32.wrap (andI .u8 c 15))) else if ((shrI .u8 c 3)==30) then some (4,(u32.wrap (andI .u8 c 7))) else some (0,0)
def zkb (wv:Int):Option Int:=if ((shrI .u32 wv 7)==0) then some 1 else if ((shrI .u32 wv 11)==0) then some 2 else if ((shrI .u32 wv 11)==27) then some 0 else if ((shrI .u32 wv 16)==0) then some 3 else if (decide (wv<=1114111)) then some 4 else some 0
def zdV (v2:List UInt8) (wv:Int) (v3:Int):Option ((Int×Int)⊕(Int⊕Unit)):=if (decide (v3<(v2.length:Int))) then (idx v2 v3>>=fun x2=>if ((shrI .u8 (x2.toNat:Int) 6) !=2) then some (.inr (.inr ())) else some (.inl ((orI .u32 (shlI .u32 wv 6) (u32.wrap (andI .u8 (x2.toNat:Int) 63))),(i64.wrap (v3+1))))) else some (.inr (.inl wv))
def zbl (v2:List UInt8) (wv:Int) (v3:Int):Option (Int⊕Unit):=zav (fun s=>zdV v2 s.1 s.2) (wv,v3)
def zka (b:List UInt8):Option Int:=if ((b.length:Int)==0) then some 0 else (idx b 0>>=fun x=>zoO (x.toNat:Int)>>=fun rv=>if ((rv.1==0)|| (decide (rv.1>(b.length:Int)))) then some 0 else (cut b 1 rv.1>>=fun v2=>zbl v2 rv.2 0>>=fun q=>match q with | .inl u=>(zkb u>>=fun vA=>if (rv.1 !=vA) then some 0 else some rv.1) | .inr u2=>(some 0)))
theorem zqJ (h:zdV v2 wv v3=some (.inl (wv',v3'))):zbl v2 wv v3=zbl v2 wv' v3':=zR h
theorem zkM (h:zdV v2 wv v3=some (.inr vM)):zbl v2 wv v3=some vM:=zS h
def zeO (b:List UInt8) (atv:Int) (points:Int) (size:Int):Option ((Int×Int×Int)⊕(Int×Int)):=if (decide (size>0)) then (cut b (i64.wrap (atv+size)) (b.length:Int)>>=fun v=>zka v>>=fun vA=>some (.inl ((i64.wrap (atv+size)),(i64.wrap (points+1)),vA))) else some (.inr (atv,points))
def zeP (b:List UInt8) (atv:Int) (points:Int) (size:Int):Option (Int×Int):=zav (fun s=>zeO b s.1 s.2.1 s.2.2) (atv,points,size)
def zlV (b:List UInt8):Option (Int×Int):=zka b>>=fun rv=>zeP b 0 0 rv>>=fun q=>some (q.1,q.2)
theorem zqK (h:zeO b atv points size=some (.inl (atv',points',size'))):zeP b atv points size=zeP b atv' points' size':=zR h
theorem zqL (h:zeO b atv points size=some (.inr vM)):zeP b atv points size=some vM:=zS h
def zjZ (b:List UInt8):Option Int:=zlV b>>=fun rv=>some rv.1
def zib (b:List UInt8):Option Bool:=zjZ b>>=fun rv=>some (rv==(b.length:Int))
def zfF (wire:Int) (b:List UInt8):Option (Int×Int×Int):=if (wire==0) then (zfK b>>=fun rv=>some (0,rv.1,rv.2)) else (((if (wire==1) then some (0,0,8) else (if (wire==5) then some (0,0,4) else if (wire==2) then (zdW b>>=fun vA=>some (vA.2.1,vA.2.2,vA.1)) else some (0,0,0)) :Option (Int×Int×Int)))>>=fun p=>if (p.2.1 !=0) then some (0,0,p.2.1) else if (decide (p.2.2>(u64.wrap (i64.wrap ((b.length:Int) - p.1))))) then some (0,0,3) else some (p.1,(i64.wrap (p.1+(i64.wrap p.2.2))),0))
def zdA (b:List UInt8) (vT:Int):Option (zo×Int):=if ((decide (vT<0))|| (decide (vT>=(b.length:Int)))) then some ((⟨0,0,0,0,0⟩:zo),2) else (cut b vT (b.length:Int)>>=fun v2=>zlO v2>>=fun rv=>if (rv.2.2 !=0) then some ((⟨0,0,0,0,0⟩:zo),rv.2.2) else (cut b (i64.wrap (vT+rv.2.1)) (b.length:Int)>>=fun v3=>zfF rv.1.Wire v3>>=fun vA=>if (vA.2.2 !=0) then some ((⟨0,0,0,0,0⟩:zo),vA.2.2) else (some ((⟨rv.1.Number,rv.1.Wire,vT,(i64.wrap ((i64.wrap (vT+rv.2.1))+vA.1)),(i64.wrap ((i64.wrap (vT+rv.2.1))+vA.2.1))⟩:zo),0))))
def zhm (wire:Int) (value:List UInt8):Option Bool:=if (wire==2) then some true else zfF wire value>>=fun rv=>some ((rv.2.2==0)&&(rv.2.1==(value.length:Int)))
def zgJ (b:List UInt8) (number:Int) (wire:Int) (value:List UInt8):Option ((List UInt8)×Int):=zkC ([]:List UInt8) (⟨number,wire⟩:zM)>>=fun rv=>(if (rv.2 !=0) then some true else zhm wire value>>=fun vA=>some (!vA))>>=fun g=>if g then some ([],2) else if (wire==2) then (zfv rv.1 (u64.wrap (value.length:Int))>>=fun vG=>zas ([b,vG,value]:List (List UInt8))>>=fun rv4=>some (rv4,0)) else zas ([b,rv.1,value]:List (List UInt8))>>=fun rv5=>some (rv5,0)
def ziw (b:List UInt8) (number:Int) (value:List UInt8):Option (List UInt8):=zgJ b number 2 value>>=fun rv=>if (rv.2 !=0) then (zas ([b]:List (List UInt8))>>=fun vA=>some vA) else some rv.1
def zkm (wv:Int):Option Int:=some (if (1:Int)<wv then 1 else wv)
def zeG (k:Int) (wv:Int):Option (Int×Int):=((if (k==1) then some (k==1) else (some (k==8)) :Option Bool))>>=fun p=>if p then (zhb wv>>=fun rv=>zhc rv>>=fun vA=>some (vA,0)) else ((if (k==3) then some (k==3) else (if (k==5) then some (k==5) else if (k==9) then some (k==9) else if (k==10) then some (k==10) else some (k==11)) :Option Bool))>>=fun p2=>if p2 then (zgx wv>>=fun vG=>some ((u64.wrap vG),0)) else if (k==7) then (zkm wv>>=fun rv4=>some (rv4,0)) else ((if (k==2) then some (k==2) else (if (k==4) then some (k==4) else if (k==6) then some (k==6) else if (k==12) then some (k==12) else if (k==13) then some (k==13) else some (k==14)) :Option Bool))>>=fun p3=>if p3 then some (wv,0) else some (0,2)
def zin:Option (List (Int×zq)):=some (mput (mput (mput (mput (mput (mput (mput (mput (mput (mput (mput (mput (mput (mput (mput (mput (mput ([]:List (Int×zq)) 1 (⟨[105,110,116,51,50],0⟩:zq)) 2 (⟨[105,110,116,54,52],0⟩:zq)) 3 (⟨[117,105,110,116,51,50],0⟩:zq)) 4 (⟨[117,105,110,116,54,52],0⟩:zq)) 5 (⟨[115,105,110,116,51,50],0⟩:zq)) 6 (⟨[115,105,110,116,54,52],0⟩:zq)) 7 (⟨[98,111,111,108],0⟩:zq)) 8 (⟨[101,110,117,109],0⟩:zq)) 9 (⟨[102,105,120,101,100,51,50],5⟩:zq)) 10 (⟨[115,102,105,120,101,100,51,50],5⟩:zq)) 11 (⟨[102,108,111,97,116],5⟩:zq)) 12 (⟨[102,105,120,101,100,54,52],1⟩:zq)) 13 (⟨[115,102,105,120,101,100,54,52],1⟩:zq)) 14 (⟨[100,111,117,98,108,101],1⟩:zq)) 15 (⟨[115,116,114,105,110,103],2⟩:zq)) 16 (⟨[98,121,116,101,115],2⟩:zq)) 17 (⟨[109,101,115,115,97,103,101],2⟩:zq))
def zlk:Option (List Int):=zin>>=fun rv=>zjD rv>>=fun v=>some v
def zhS (k:Int):Option (Int×Int):=zin>>=fun rv=>if (!(mget rv k).isSome) then some (0,2) else some (((mget rv k).getD (⟨[],0⟩:zq)).wire,0)
def zfB (k:Int):Option Bool:=zhS k>>=fun rv=>some ((rv.2==0)&&(rv.1 !=2))
def zdN (c:Int):Option Bool:=some ((decide (c>=48))&&(decide (c<=57)))
def zem (c:Int):Option Bool:=some (if (decide (c>=97)) then (decide (c<=122))|| (if (decide (c>=65)) then (decide (c<=90))|| (c==95) else c==95) else (if (decide (c>=65)) then (decide (c<=90))|| (c==95) else c==95))
def zcl (name:Str) (v2:Int):Option (Int⊕(Unit⊕Unit)):=if (decide (v2<(name.length:Int))) then ((idx name v2>>=fun c2=>zem (c2.toNat:Int)>>=fun vA=>if (!vA) then (idx name v2>>=fun c3=>zdN (c3.toNat:Int)>>=fun vG=>some (!vG)) else some false)>>=fun g2=>if g2 then some (.inr (.inr ())) else some (.inl (i64.wrap (v2+1)))) else some (.inr (.inl ()))
def zcW (name:Str) (v2:Int):Option (Unit⊕Unit):=zav (fun s=>zcl name s) v2
def zes (name:Str):Option Bool:=(if (name==[]) then some true else if (decide ((name.length:Int)>60)) then some true else idx name 0>>=fun c=>zdN (c.toNat:Int)>>=fun rv=>some rv)>>=fun g=>if g then some false else (zcW name 0>>=fun q=>match q with | .inl u=>(some true) | .inr u2=>(some false))
theorem zlM (h:zcl name v2=some (.inl v2')):zcW name v2=zcW name v2':=zR h
theorem zhs (h:zcl name v2=some (.inr vM)):zcW name v2=some vM:=zS h
def zen (n:Int):Option Bool:=some ((decide (n>=1))&&((decide (n<=536870911))&&((decide (n<19000))|| (decide (n>19999)))))
def zeL (f:za):Option Bool:=(if f.Repeated then (zfB f.Kind>>=fun rv=>some rv) else some false)>>=fun g=>some g
def zdf (c:zae) (f:za):Option Bool:=if (f.Kind==17) then some ((decide (f.Of>=0))&&(decide (f.Of<c.size))) else some (f.Of==0)
def zde (c:zae) (message:Int) (f:za):Option (Int×(List (zt×Bool))×(List (zd×Bool))):=zes f.Name>>=fun rv=>if (!rv) then some (5,c.names,c.numbers) else if ((mget c.names (⟨message,f.Name⟩:zt)).getD false) then some (6,c.names,c.numbers) else zen f.Number>>=fun vA=>if (!vA) then some (7,c.names,c.numbers) else if ((mget c.numbers (⟨message,f.Number⟩:zd)).getD false) then some (8,c.names,c.numbers) else zaZ c.kinds f.Kind>>=fun vG=>if (!vG) then some (9,c.names,c.numbers) else (if f.Packed then (zeL f>>=fun rv4=>some (!rv4)) else some false)>>=fun g=>if g then some (10,c.names,c.numbers) else zdf c f>>=fun rv5=>if (!rv5) then some (11,c.names,c.numbers) else some (0,(mput c.names (⟨message,f.Name⟩:zt) true),(mput c.numbers (⟨message,f.Number⟩:zd) true))
def zcv (c:zae) (m:zg):Option (Int×(List (zt×Bool))×(List (zd×Bool))):=zes m.Name>>=fun rv=>if (!rv) then some (2,c.names,c.numbers) else if ((mget c.names (⟨(-1),m.Name⟩:zt)).getD false) then some (3,c.names,c.numbers) else if (decide ((m.Fields.length:Int)>200)) then some (4,c.names,c.numbers) else some (0,(mput c.names (⟨(-1),m.Name⟩:zt) true),c.numbers)
def zbh (i:Int) (sv:List zg) (n3:Int) (k:Int):Option ((Int×Int)⊕Int):=idx sv i>>=fun x3=>if (decide (k<(x3.Fields.length:Int))) then (idx sv i>>=fun x4=>idx x4.Fields k>>=fun x5=>some (.inl ((i64.wrap (n3+(i64.wrap (Int.tdiv (x5.Name.length:Int) 100)))),(i64.wrap (k+1))))) else some (.inr n3)
def zbQ (i:Int) (sv:List zg) (n3:Int) (k:Int):Option Int:=zav (fun s=>zbh i sv s.1 s.2) (n3,k)
def zbg (sv:List zg) (n:Int) (i:Int):Option ((Int×Int)⊕Int):=if (decide (i<(sv.length:Int))) then (idx sv i>>=fun x=>idx sv i>>=fun x2=>zbQ i sv (i64.wrap ((i64.wrap ((i64.wrap (n+1))+(i64.wrap (Int.tdiv (x.Name.length:Int) 100))))+(x2.Fields.length:Int))) 0>>=fun q=>some (.inl (q,(i64.wrap (i+1))))) else some (.inr n)
def zbP (sv:List zg) (n:Int) (i:Int):Option Int:=zav (fun s=>zbg sv s.1 s.2) (n,i)
def zdL (sv:List zg):Option Bool:=zbP sv 0 0>>=fun q2=>some (decide (q2<=500))
theorem zjw (h:zbh i sv n3 k=some (.inl (n3',k'))):zbQ i sv n3 k=zbQ i sv n3' k':=zR h
theorem zjx (h:zbh i sv n3 k=some (.inr vM)):zbQ i sv n3 k=some vM:=zS h
theorem zju (h:zbg sv n i=some (.inl (n',i'))):zbP sv n i=zbP sv n' i':=zR h
theorem zjv (h:zbg sv n i=some (.inr vM)):zbP sv n i=some vM:=zS h
def zbq (rv:List Int) (sv:List zg) (v2:Int) (x:zg) (v3:Int) (f6:List (zt×Bool)) (f7:List (zd×Bool)):Option ((Int×(List (zt×Bool))×(List (zd×Bool)))⊕(((List (zt×Bool))×(List (zd×Bool)))⊕(Int×Int))):=if (decide (v3<(x.Fields.length:Int))) then (idx x.Fields v3>>=fun x2=>zde (⟨(sv.length:Int),rv,f6,f7⟩:zae) v2 x2>>=fun rv5=>if (rv5.1 !=0) then some (.inr (.inr (v3,rv5.1))) else some (.inl ((i64.wrap (v3+1)),rv5.2.1,rv5.2.2))) else some (.inr (.inl (f6,f7)))
def zbZ (rv:List Int) (sv:List zg) (v2:Int) (x:zg) (v3:Int) (f6:List (zt×Bool)) (f7:List (zd×Bool)):Option (((List (zt×Bool))×(List (zd×Bool)))⊕(Int×Int)):=zav (fun s=>zbq rv sv v2 x s.1 s.2.1 s.2.2) (v3,f6,f7)
def zaF (rv:List Int) (sv:List zg) (v2:Int) (f:List (zt×Bool)) (f2:List (zd×Bool)):Option ((Int×(List (zt×Bool))×(List (zd×Bool)))⊕(Unit⊕(Int×Int×Int))):=if (decide (v2<(sv.length:Int))) then (idx sv v2>>=fun x=>zcv (⟨(sv.length:Int),rv,f,f2⟩:zae) x>>=fun vG=>if (vG.1 !=0) then some (.inr (.inr (v2,(-1),vG.1))) else (zbZ rv sv v2 x 0 vG.2.1 vG.2.2>>=fun q=>match q with | .inl u=>(some (.inl ((i64.wrap (v2+1)),u.1,u.2))) | .inr u2=>(some (.inr (.inr (v2,u2.1,u2.2)))))) else some (.inr (.inl ()))
def zds (rv:List Int) (sv:List zg) (v2:Int) (f:List (zt×Bool)) (f2:List (zd×Bool)):Option (Unit⊕(Int×Int×Int)):=zav (fun s=>zaF rv sv s.1 s.2.1 s.2.2) (v2,f,f2)
def zgi (sv:List zg):Option (zad×Int):=if ((decide ((sv.length:Int)<1))|| (decide ((sv.length:Int)>100))) then some ((⟨(-1),(-1),1⟩:zad),9) else (zlk>>=fun rv=>zds rv sv 0 ([]:List (zt×Bool)) ([]:List (zd×Bool))>>=fun q2=>match q2 with | .inl u3=>(some ((⟨0,0,0⟩:zad),0)) | .inr u4=>(some ((⟨u4.1,u4.2.1,u4.2.2⟩:zad),9)))
theorem zmH {f6:List (zt×Bool)} {f7:List (zd×Bool)} (h:zbq rv sv v2 x v3 f6 f7=some (.inl (v3',f6',f7'))):zbZ rv sv v2 x v3 f6 f7=zbZ rv sv v2 x v3' f6' f7':=zR h
theorem zhH {f6:List (zt×Bool)} {f7:List (zd×Bool)} (h:zbq rv sv v2 x v3 f6 f7=some (.inr vM)):zbZ rv sv v2 x v3 f6 f7=some vM:=zS h
theorem zmG {f2:List (zd×Bool)} (h:zaF rv sv v2 f f2=some (.inl (v2',f',f2'))):zds rv sv v2 f f2=zds rv sv v2' f' f2':=zR h
theorem zcO {f2:List (zd×Bool)} (h:zaF rv sv v2 f f2=some (.inr vM)):zds rv sv v2 f f2=some vM:=zS h
def zgj (sv:List zg):Option Bool:=zgi sv>>=fun rv=>some (rv.2==0)
def zgh (f:za) (v:Int):Option Bool:=some (f.Number==v)
def zz (sv:List za) (v:Int) (v2:Int):Option (Int⊕(Unit⊕Int)):=if (decide (v2<(sv.length:Int))) then (idx sv v2>>=fun x=>zgh x v>>=fun rv=>if rv then some (.inr (.inr v2)) else some (.inl (i64.wrap (v2+1)))) else some (.inr (.inl ()))
def zA (sv:List za) (v:Int) (v2:Int):Option (Unit⊕Int):=zav (fun s=>zz sv v s) v2
def zaH (sv:List za) (v:Int):Option Int:=zA sv v 0>>=fun q=>match q with | .inl u=>(some (-1)) | .inr u2=>(some u2)
theorem zbB (h:zz sv v v2=some (.inl v2')):zA sv v v2=zA sv v v2':=zR h
theorem zaz (h:zz sv v v2=some (.inr vM)):zA sv v v2=some vM:=zS h
def zdG (m:zg) (v:Int):Option (Int×Bool):=zaH m.Fields v>>=fun rv=>some ((if rv<0 then 0 else rv),(decide (rv>=0)))
def zfo (m:zg) (number:Int):Option (Int×Bool):=zdG m number>>=fun rv=>some (rv.1,rv.2)
def zeg (k:Int):Option (Int×Int):=((if (k==1) then some (k==1) else (if (k==2) then some (k==2) else if (k==3) then some (k==3) else if (k==4) then some (k==4) else if (k==5) then some (k==5) else if (k==6) then some (k==6) else if (k==7) then some (k==7) else some (k==8)) :Option Bool))>>=fun p=>if p then some (0,0) else ((if (k==9) then some (k==9) else (if (k==10) then some (k==10) else some (k==11)) :Option Bool))>>=fun p2=>if p2 then some (4,0) else if (k==12) then if (k==12) then some (8,0) else (some (0,2)) else if (k==13) then if (k==13) then some (8,0) else (some (0,2)) else if (k==14) then some (8,0) else some (0,2)
def zgg (b:List UInt8):Option (Int×Int):=zdW b>>=fun rv=>if ((rv.2.2 !=0)|| (rv.2.1 !=(b.length:Int))) then some (0,12) else some (rv.1,0)
def zgf (k:Int) (b:List UInt8):Option (Int×Int):=zeg k>>=fun rv=>if (rv.2 !=0) then some (0,rv.2) else if (rv.1==0) then (zgg b>>=fun vA=>some (vA.1,vA.2)) else if (rv.1 !=(b.length:Int)) then some (0,12) else zjt b>>=fun vG=>some (vG,0)
def zhr (k:Int) (b:List UInt8):Option (Int×Int):=zgf k b>>=fun rv=>if (rv.2 !=0) then some (0,rv.2) else zeG k rv.1>>=fun vA=>some (vA.1,vA.2)
def zgN (k:Int) (wv:Int):Option ((List UInt8)×Int):=zeg k>>=fun rv=>if (rv.2 !=0) then some ([],rv.2) else zeG k wv>>=fun vA=>if (rv.1==0) then (zfv ([]:List UInt8) vA.1>>=fun vG=>some (vG,vA.2)) else zha vA.1 rv.1>>=fun rv4=>some (rv4,vA.2)
def zeK (k:Int) (wv:Int):Option Int:=zeg k>>=fun rv=>if ((rv.2 !=0)|| (rv.1 !=0)) then some rv.1 else zeG k wv>>=fun vA=>zjs vA.1>>=fun vG=>some vG
def zhY (k:Int):Option Int:=zeK k 0>>=fun rv=>some rv
def zjP (wide:Int) (b:List UInt8):Option (Int×Int):=if (wide==1) then (zfK b>>=fun rv=>some (rv.1,rv.2)) else if (decide (wide>(b.length:Int))) then some (0,3) else some (wide,0)
def zbc {σ:Type} (kf:(Rnd σ ((List UInt8)×Int))) (rv:Int) (vB:List UInt8) (sg2:σ):Option (((List UInt8)×σ)⊕(σ⊕σ)):=if (decide ((vB.length:Int)>0)) then (zjP rv vB>>=fun vA=>cut vB 0 vA.1>>=fun v3=>kf sg2 (v3,vA.2)>>=fun y2=>if ((!y2.1)|| (vA.2 !=0)) then some (.inr (.inr y2.2)) else cut vB vA.1 (vB.length:Int)>>=fun v5=>some (.inl (v5,y2.2))) else some (.inr (.inl sg2))
def zdr {σ:Type} (kf:(Rnd σ ((List UInt8)×Int))) (rv:Int) (vB:List UInt8) (sg2:σ):Option (σ⊕σ):=zav (fun s=>zbc kf rv s.1 s.2) (vB,sg2)
def zcR {σ:Type} (v:Int) (v2:List UInt8) (kf:Rnd σ ((List UInt8)×Int)) (sg:σ):Option σ:=zhY v>>=fun rv=>if (rv==0) then (kf sg (([]:List UInt8),2)>>=fun y=>some y.2) else (zdr kf rv v2 sg>>=fun q=>match q with | .inl u=>(some u) | .inr u2=>(some u2))
theorem zmF {σ:Type} {kf:(Rnd σ ((List UInt8)×Int))} {rv:Int} {vB:List UInt8} {sg2:σ} {rest':List UInt8} {sg2':σ} (h:zbc kf rv vB sg2=some (.inl (rest',sg2'))):zdr kf rv vB sg2=zdr kf rv rest' sg2':=zR h
theorem zfc {σ:Type} {kf:(Rnd σ ((List UInt8)×Int))} {rv:Int} {vB:List UInt8} {sg2:σ} {vM:(σ⊕σ)} (h:zbc kf rv vB sg2=some (.inr vM)):zdr kf rv vB sg2=some vM:=zS h
def zgM (k:Int) (b:List UInt8):Option (Int×(List UInt8)):=some (k,b)
def zcp (k:Int) (f:List Int) (x:List UInt8) (x2:Int):Option ((List Int)⊕(Int×(List Int))):=if (x2 !=0) then some (.inr (x2,f)) else zhr k x>>=fun vA=>app 8 f ([vA.1]:List Int)>>=fun v=>some (.inl v)
def zjO (k:Int) (b:List UInt8):Option ((List Int)×Int):=zgM k b>>=fun rv=>zcR rv.1 rv.2 (rnd (fun (s:List Int) (x:((List UInt8)×Int))=>zcp k s x.1 x.2)) (.inl [])>>=fun q=>match q with | .inl u=>(some (u,0)) | .inr j=>(some ([],j.1))
def zdT (k:Int) (l:List Int) (b:List UInt8) (v:Int):Option (((List UInt8)×Int)⊕(List UInt8)):=if (decide (v<(l.length:Int))) then (idx l v>>=fun x=>zgN k x>>=fun vA=>app 1 b vA.1>>=fun v2=>some (.inl (v2,(i64.wrap (v+1))))) else some (.inr b)
def zho (k:Int) (l:List Int) (b:List UInt8) (v:Int):Option (List UInt8):=zav (fun s=>zdT k l s.1 s.2) (b,v)
def zlL (k:Int) (l:List Int):Option ((List UInt8)×Int):=zhY k>>=fun rv=>if (rv==0) then some ([],2) else zho k l [] 0>>=fun q=>some (q,0)
theorem zqC {k:Int} {l:List Int} {b:List UInt8} {v:Int} {b':List UInt8} {v':Int} (h:zdT k l b v=some (.inl (b',v'))):zho k l b v=zho k l b' v':=zR h
theorem zqD {k:Int} {l:List Int} {b:List UInt8} {v:Int} {vM:List UInt8} (h:zdT k l b v=some (.inr vM)):zho k l b v=some vM:=zS h
def zdC (f:Int) (x:List UInt8) (x2:Int):Option (Int⊕(Int×Int)):=if (x2 !=0) then some (.inr (x2,f)) else some (.inl (i64.wrap (f+1)))
def zjN (k:Int) (b:List UInt8):Option (Int×Int):=zgM k b>>=fun rv=>zcR rv.1 rv.2 (rnd (fun (s:Int) (x:((List UInt8)×Int))=>zdC s x.1 x.2)) (.inl 0)>>=fun q=>match q with | .inl u=>(some (u,0)) | .inr j=>(some (0,j.1))
def zgn (f:za) (v:Int):Option Bool:=some (f.Number==v)
def zx (sv:List za) (v:Int) (v2:Int):Option (Int⊕(Unit⊕Int)):=if (decide (v2<(sv.length:Int))) then (idx sv v2>>=fun x=>zgn x v>>=fun rv=>if rv then some (.inr (.inr v2)) else some (.inl (i64.wrap (v2+1)))) else some (.inr (.inl ()))
def zE (sv:List za) (v:Int) (v2:Int):Option (Unit⊕Int):=zav (fun s=>zx sv v s) v2
def zV (sv:List za) (v:Int):Option Int:=zE sv v 0>>=fun q=>match q with | .inl u=>(some (-1)) | .inr u2=>(some u2)
theorem zca (h:zx sv v v2=some (.inl v2')):zE sv v v2=zE sv v v2':=zR h
theorem zaC (h:zx sv v v2=some (.inr vM)):zE sv v v2=some vM:=zS h
def ziF (m:zg) (number:Int):Option Int:=zV m.Fields number>>=fun rv=>some rv
def ziG (f:za) (wire:Int):Option Bool:=(if f.Repeated then (if (wire==2) then (zfB f.Kind>>=fun rv=>some rv) else some false) else some false)>>=fun g=>some g
def zkc (k:Int) (wire:Int):Option Bool:=zhS k>>=fun rv=>some ((rv.2==0)&&(rv.1==wire))
def zfL (m:zg) (hv:zL):Option zN:=ziF m hv.number>>=fun rv=>if (rv==(-1)) then some (⟨(-1),false,0⟩:zN) else idx m.Fields rv>>=fun x=>ziG x hv.wire>>=fun vA=>(if (!vA) then (zkc x.Kind hv.wire>>=fun vG=>some (!vG)) else some false)>>=fun g=>if g then some (⟨0,false,6⟩:zN) else some (⟨rv,vA,0⟩:zN)
def zkd (m:zg) (b:List UInt8) (vT:Int) (met:List (zL×zN)):Option (zf×Int×(List (zL×zN))):=zdA b vT>>=fun rv=>if (rv.2 !=0) then some ((⟨(⟨0,0,0,0,0⟩:zo),0,false⟩:zf),rv.2,met) else (((if (!(mget met (⟨rv.1.Number,rv.1.Wire⟩:zL)).isSome) then (zfL m (⟨rv.1.Number,rv.1.Wire⟩:zL)>>=fun vA=>some ((mput met (⟨rv.1.Number,rv.1.Wire⟩:zL) vA),vA.field,vA.run,vA.e)) else (some (met,((mget met (⟨rv.1.Number,rv.1.Wire⟩:zL)).getD (⟨0,false,0⟩:zN)).field,((mget met (⟨rv.1.Number,rv.1.Wire⟩:zL)).getD (⟨0,false,0⟩:zN)).run,((mget met (⟨rv.1.Number,rv.1.Wire⟩:zL)).getD (⟨0,false,0⟩:zN)).e)) :Option ((List (zL×zN))×Int×Bool×Int)))>>=fun p=>if (p.2.2.2 !=0) then some ((⟨(⟨0,0,0,0,0⟩:zo),0,false⟩:zf),p.2.2.2,p.1) else some ((⟨rv.1,p.2.1,p.2.2.1⟩:zf),0,p.1))
def zic (m:zg) (b:List UInt8) (vT:Int):Option (zf×Int):=zkd m b vT ([]:List (zL×zN))>>=fun vA=>some (vA.1,vA.2.1)
def zep (wv:zQ) (message:Int) (vT:Int) (tov:Int):Option (zf×Int×(List (zk×zf))):=cut wv.b 0 tov>>=fun v=>zdA v vT>>=fun rv=>if (rv.2 !=0) then some ((⟨(⟨0,0,0,0,0⟩:zo),0,false⟩:zf),rv.2,wv.met) else (if (!(mget wv.met (⟨message,rv.1.Number,rv.1.Wire⟩:zk)).isSome) then (idx wv.s message>>=fun x=>zic x v vT>>=fun vA=>if (vA.2 !=0) then some ((⟨(⟨0,0,0,0,0⟩:zo),0,false⟩:zf),vA.2,wv.met) else some ((⟨rv.1,vA.1.Field,vA.1.Run⟩:zf),0,(mput wv.met (⟨message,rv.1.Number,rv.1.Wire⟩:zk) vA.1))) else (some ((⟨rv.1,(((mget wv.met (⟨message,rv.1.Number,rv.1.Wire⟩:zk)).getD (⟨(⟨0,0,0,0,0⟩:zo),0,false⟩:zf)).Field),(((mget wv.met (⟨message,rv.1.Number,rv.1.Wire⟩:zk)).getD (⟨(⟨0,0,0,0,0⟩:zo),0,false⟩:zf)).Run)⟩:zf),0,wv.met)))
def zhw (f:za) (isRun:Bool) (value:List UInt8):Option Int:=if isRun then (zjN f.Kind value>>=fun rv=>some rv.2) else (if (f.Kind==15) then (zib value>>=fun vA=>some (!vA)) else some false)>>=fun g=>if g then some 7 else if (f.Kind==17) then some 8 else some 0
def zal (d:Int) (message:Int) (xd:zQ->Int->zf->Int->Option (zu×(List (zk×zf)))) (tov:Int) (wv:zQ) (vI:List (zk×zf)) (v8:Int) (depth:Int):Option (((List (zk×zf))×Int×Int)⊕(((List (zk×zf))×Int)⊕((List (zk×zf))×Int×Int×Int))):=if (decide (v8<tov)) then (zep (⟨wv.s,wv.b,vI⟩:zQ) message v8 tov>>=fun vA=>if (vA.2.1 !=0) then some (.inr (.inr (vA.2.2,0,v8,vA.2.1))) else xd (⟨wv.s,wv.b,vA.2.2⟩:zQ) message vA.1 d>>=fun rv4=>if (rv4.1.e !=0) then some (.inr (.inr (rv4.2,rv4.1.depth,rv4.1.place,rv4.1.e))) else some (.inl (rv4.2,vA.1.Record.To,(if depth<rv4.1.depth then rv4.1.depth else depth)))) else some (.inr (.inl (vI,depth)))
def zaR (d:Int) (message:Int) (xd:zQ->Int->zf->Int->Option (zu×(List (zk×zf)))) (tov:Int) (wv:zQ) (vI:List (zk×zf)) (v8:Int) (depth:Int):Option (((List (zk×zf))×Int)⊕((List (zk×zf))×Int×Int×Int)):=zav (fun s=>zal d message xd tov wv s.1 s.2.1 s.2.2) (vI,v8,depth)
def zcz (xj:zQ->Int->Int->Int->Int->Option (zu×(List (zk×zf)))) (xd:zQ->Int->zf->Int->Option (zu×(List (zk×zf)))) (wv:zQ) (message:Int) (vT:Int) (tov:Int) (d:Int):Option (zu×(List (zk×zf))):=zaR d message xd tov wv wv.met vT 0>>=fun q=>match q with | .inl u=>(some ((⟨u.2,0,0⟩:zu),u.1)) | .inr u2=>(some ((⟨u2.2.1,u2.2.2.1,u2.2.2.2⟩:zu),u2.1))
def zdk (xj:zQ->Int->Int->Int->Int->Option (zu×(List (zk×zf)))) (xd:zQ->Int->zf->Int->Option (zu×(List (zk×zf)))) (wv:zQ) (message:Int) (v:zf) (d:Int):Option (zu×(List (zk×zf))):=if (v.Field==(-1)) then some ((⟨0,0,0⟩:zu),wv.met) else idx wv.s message>>=fun x=>idx x.Fields v.Field>>=fun x2=>if ((x2.Kind==17)&&(decide (d>0))) then (xj wv x2.Of v.Record.At v.Record.To (i64.wrap (d - 1))>>=fun vA=>some ((⟨(i64.wrap (vA.1.depth+1)),vA.1.place,vA.1.e⟩:zu),vA.2)) else cut wv.b v.Record.At v.Record.To>>=fun v3=>zhw x2 v.Run v3>>=fun vG=>if (vG !=0) then some ((⟨0,v.Record.From,vG⟩:zu),wv.met) else some ((⟨0,0,0⟩:zu),wv.met)
def zT:Nat->(zQ->Int->Int->Int->Int->Option (zu×(List (zk×zf))))×(zQ->Int->zf->Int->Option (zu×(List (zk×zf)))) | 0=>(fun _ _ _ _ _=>none,fun _ _ _ _=>none) | fuel+1=>(fun wv message vT tov d=>zcz (zT fuel).1 (zT fuel).2 wv message vT tov d,fun wv message v d=>zdk (zT fuel).1 (zT fuel).2 wv message v d)
def zau (fuel:Nat):zQ->Int->Int->Int->Int->Option (zu×(List (zk×zf))):=(zT fuel).1
def zcn (fuel:Nat):zQ->Int->zf->Int->Option (zu×(List (zk×zf))):=(zT fuel).2
theorem ziJ (h:zal d message xd tov wv vI v8 depth=some (.inl (wv2',fromv2',depth'))):zaR d message xd tov wv vI v8 depth=zaR d message xd tov wv wv2' fromv2' depth':=zR h
theorem zce (h:zal d message xd tov wv vI v8 depth=some (.inr vM)):zaR d message xd tov wv vI v8 depth=some vM:=zS h
def zgR (sv:List zg) (root:Int) (d:Int):Option Int:=zgj sv>>=fun rv=>if (!rv) then some 9 else (if ((decide (root<0))|| ((decide (root>=(sv.length:Int)))|| ((decide (d<0))|| (decide (d>64))))) then some 2 else some 0)
def ziE (fuel:Nat) (sv:List zg) (root:Int) (b:List UInt8) (d:Int):Option zu:=zgR sv root d>>=fun rv=>if (rv !=0) then some (⟨0,0,rv⟩:zu) else (zau fuel (⟨sv,b,([]:List (zk×zf))⟩:zQ) root 0 (b.length:Int) d>>=fun vG=>some vG.1)
def zhv (fuel:Nat) (sv:List zg) (root:Int) (b:List UInt8) (d:Int):Option (Int×Int):=ziE fuel sv root b d>>=fun rv=>some (rv.place,rv.e)
def zgk (v:zi):Option Int:=some (i64.wrap ((i64.wrap ((v.Words.length:Int)+(v.Texts.length:Int)))+(v.Subs.length:Int)))
def zfk (vU:Int) (xc:zj->Int->Option Int) (x2:zi) (deep3:Int) (v3:Int):Option ((Int×Int)⊕(Int⊕Int)):=if (decide (v3<(x2.Subs.length:Int))) then (idx x2.Subs v3>>=fun x3=>if (decide (vU<=0)) then some (.inr (.inr 1)) else xc x3 (i64.wrap (vU - 1))>>=fun rv=>if (decide ((if deep3<(i64.wrap (1+rv)) then i64.wrap (1+rv) else deep3)>vU)) then some (.inr (.inr (if deep3<(i64.wrap (1+rv)) then i64.wrap (1+rv) else deep3))) else some (.inl ((if deep3<(i64.wrap (1+rv)) then i64.wrap (1+rv) else deep3),(i64.wrap (v3+1))))) else some (.inr (.inl deep3))
def zeu (vU:Int) (xc:zj->Int->Option Int) (x2:zi) (deep3:Int) (v3:Int):Option (Int⊕Int):=zav (fun s=>zfk vU xc x2 s.1 s.2) (deep3,v3)
def zfj (vU:Int) (xc:zj->Int->Option Int) (x:zj) (deep:Int) (v:Int):Option ((Int×Int)⊕(Int⊕Int)):=if (decide (v<(x.Values.length:Int))) then (idx x.Values v>>=fun x2=>zeu vU xc x2 deep 0>>=fun q=>match q with | .inl u=>(some (.inl (u,(i64.wrap (v+1))))) | .inr u2=>(some (.inr (.inr u2)))) else some (.inr (.inl deep))
def zet (vU:Int) (xc:zj->Int->Option Int) (x:zj) (deep:Int) (v:Int):Option (Int⊕Int):=zav (fun s=>zfj vU xc x s.1 s.2) (deep,v)
def zkD (xc:zj->Int->Option Int) (x:zj) (vU:Int):Option Int:=zet vU xc x 0 0>>=fun q2=>match q2 with | .inl u3=>(some u3) | .inr u4=>(some u4)
def zeh:Nat->zj->Int->Option Int | 0,_,_=>none | fuel+1,x,vU=>zkD (zeh fuel) x vU
theorem zoM (h:zfk vU xc x2 deep3 v3=some (.inl (deep3',v3'))):zeu vU xc x2 deep3 v3=zeu vU xc x2 deep3' v3':=zR h
theorem zoN (h:zfk vU xc x2 deep3 v3=some (.inr vM)):zeu vU xc x2 deep3 v3=some vM:=zS h
theorem zoK (h:zfj vU xc x deep v=some (.inl (deep',v'))):zet vU xc x deep v=zet vU xc x deep' v':=zR h
theorem zoL (h:zfj vU xc x deep v=some (.inr vM)):zet vU xc x deep v=some vM:=zS h
def zny (fuel:Nat) (x:zj):Option Int:=zeh fuel x 131072>>=fun rv=>some rv
def zmw (fuel:Nat) (x:zj):Option Bool:=zny fuel x>>=fun rv=>some (decide (rv<=131072))
def zcY (l:List Str) (v:Int):Option (Int⊕(Unit⊕Unit)):=if (decide (v<(l.length:Int))) then (idx l v>>=fun x=>lenO x>>=fun v2=>zib v2>>=fun rv=>if (!rv) then some (.inr (.inr ())) else some (.inl (i64.wrap (v+1)))) else some (.inr (.inl ()))
def zcZ (l:List Str) (v:Int):Option (Unit⊕Unit):=zav (fun s=>zcY l s) v
def zjm (l:List Str):Option Bool:=zcZ l 0>>=fun q=>match q with | .inl u=>(some true) | .inr u2=>(some false)
theorem zlS (h:zcY l v=some (.inl v')):zcZ l v=zcZ l v':=zR h
theorem zhu (h:zcY l v=some (.inr vM)):zcZ l v=some vM:=zS h
def ziD (m:zg) (text:Str):Option Bool:=lenO text>>=fun v=>zdA v 0>>=fun rv=>if ((rv.2 !=0)|| (rv.1.To !=(text.length:Int))) then some false else zfo m rv.1.Number>>=fun vA=>some (!vA.2)
def zbb (k:Int) (l:List Int) (v:Int):Option (Int⊕(Unit⊕Unit)):=if (decide (v<(l.length:Int))) then (idx l v>>=fun x=>zeG k x>>=fun rv=>if ((rv.2 !=0)|| (rv.1 !=x)) then some (.inr (.inr ())) else some (.inl (i64.wrap (v+1)))) else some (.inr (.inl ()))
def zbD (k:Int) (l:List Int) (v:Int):Option (Unit⊕Unit):=zav (fun s=>zbb k l s) v
def zgl (k:Int) (l:List Int):Option Bool:=zbD k l 0>>=fun q=>match q with | .inl u=>(some true) | .inr u2=>(some false)
theorem zjl (h:zbb k l v=some (.inl v')):zbD k l v=zbD k l v':=zR h
theorem zdE (h:zbb k l v=some (.inr vM)):zbD k l v=some vM:=zS h
def zbR (l:List zj) (message:Int) (xe:(List zg)->Int->zj->Option Bool) (sv:List zg) (v2:Int):Option (Int⊕(Unit⊕Unit)):=if (decide (v2<(l.length:Int))) then (idx l v2>>=fun x=>xe sv message x>>=fun rv=>if (!rv) then some (.inr (.inr ())) else some (.inl (i64.wrap (v2+1)))) else some (.inr (.inl ()))
def zbS (l:List zj) (message:Int) (xe:(List zg)->Int->zj->Option Bool) (sv:List zg) (v2:Int):Option (Unit⊕Unit):=zav (fun s=>zbR l message xe sv s) v2
def zft (xk:(List zg)->Int->(List zj)->Option Bool) (xf:za->(List zg)->zi->Option Bool) (xe:(List zg)->Int->zj->Option Bool) (sv:List zg) (message:Int) (l:List zj):Option Bool:=if ((decide (message<0))|| (decide (message>=(sv.length:Int)))) then some false else (zbS l message xe sv 0>>=fun q=>match q with | .inl u=>(some true) | .inr u2=>(some false))
def zlT (xk:(List zg)->Int->(List zj)->Option Bool) (xf:za->(List zg)->zi->Option Bool) (xe:(List zg)->Int->zj->Option Bool) (f:za) (sv:List zg) (v:zi):Option Bool:=zgk v>>=fun rv=>if ((rv==0)|| ((decide (rv>1))&&(!f.Repeated))) then some false else if (f.Kind==15) then ((if ((v.Texts.length:Int)==rv) then (zjm v.Texts>>=fun vA=>some vA) else some false)>>=fun g=>some g) else if (f.Kind==16) then some ((v.Texts.length:Int)==rv) else if (f.Kind==17) then ((if ((v.Subs.length:Int)==rv) then (xk sv f.Of v.Subs>>=fun vG=>some vG) else some false)>>=fun g2=>some g2) else (if ((v.Words.length:Int)==rv) then (zgl f.Kind v.Words>>=fun rv4=>some rv4) else some false)>>=fun g3=>some g3
def zcE (xf:za->(List zg)->zi->Option Bool) (sv:List zg) (x:zj) (x2:zg) (last:Int) (v:Int):Option ((Int×Int)⊕(Unit⊕Unit)):=if (decide (v<(x.Values.length:Int))) then (idx x.Values v>>=fun x3=>zfo x2 x3.Number>>=fun rv=>(if (!rv.2) then some true else if (decide (x3.Number<=last)) then some true else idx x2.Fields rv.1>>=fun x4=>xf x4 sv x3>>=fun vA=>some (!vA))>>=fun g=>if g then some (.inr (.inr ())) else some (.inl (x3.Number,(i64.wrap (v+1))))) else some (.inr (.inl ()))
def zcG (xf:za->(List zg)->zi->Option Bool) (sv:List zg) (x:zj) (x2:zg) (last:Int) (v:Int):Option (Unit⊕Unit):=zav (fun s=>zcE xf sv x x2 s.1 s.2) (last,v)
def zcF (x:zj) (x2:zg) (v3:Int):Option (Int⊕(Unit⊕Unit)):=if (decide (v3<(x.Unknown.length:Int))) then (idx x.Unknown v3>>=fun x5=>ziD x2 x5>>=fun vG=>if (!vG) then some (.inr (.inr ())) else some (.inl (i64.wrap (v3+1)))) else some (.inr (.inl ()))
def zcH (x:zj) (x2:zg) (v3:Int):Option (Unit⊕Unit):=zav (fun s=>zcF x x2 s) v3
def zgQ (xk:(List zg)->Int->(List zj)->Option Bool) (xf:za->(List zg)->zi->Option Bool) (xe:(List zg)->Int->zj->Option Bool) (sv:List zg) (message:Int) (x:zj):Option Bool:=idx sv message>>=fun x2=>zcG xf sv x x2 0 0>>=fun q=>match q with | .inl u=>(zcH x x2 0>>=fun q2=>match q2 with | .inl u2=>(some true) | .inr u3=>(some false)) | .inr u4=>(some false)
def zG:Nat->((List zg)->Int->(List zj)->Option Bool)×(za->(List zg)->zi->Option Bool)×((List zg)->Int->zj->Option Bool) | 0=>(fun _ _ _=>none,fun _ _ _=>none,fun _ _ _=>none) | fuel+1=>(fun sv message l=>zft (zG fuel).1 (zG fuel).2.1 (zG fuel).2.2 sv message l,fun f sv v=>zlT (zG fuel).1 (zG fuel).2.1 (zG fuel).2.2 f sv v,fun sv message x=>zgQ (zG fuel).1 (zG fuel).2.1 (zG fuel).2.2 sv message x)
def zeW (fuel:Nat):(List zg)->Int->(List zj)->Option Bool:=(zG fuel).1
def zgP (fuel:Nat):za->(List zg)->zi->Option Bool:=(zG fuel).2.1
def zdj (fuel:Nat):(List zg)->Int->zj->Option Bool:=(zG fuel).2.2
theorem zjW (h:zbR l message xe sv v2=some (.inl v2')):zbS l message xe sv v2=zbS l message xe sv v2':=zR h
theorem zfI (h:zbR l message xe sv v2=some (.inr vM)):zbS l message xe sv v2=some vM:=zS h
theorem zkT (h:zcE xf sv x x2 last v=some (.inl (last',v'))):zcG xf sv x x2 last v=zcG xf sv x x2 last' v':=zR h
theorem zgs (h:zcE xf sv x x2 last v=some (.inr vM)):zcG xf sv x x2 last v=some vM:=zS h
theorem zkU (h:zcF x x2 v3=some (.inl v3')):zcH x x2 v3=zcH x x2 v3':=zR h
theorem zgt (h:zcF x x2 v3=some (.inr vM)):zcH x x2 v3=some vM:=zS h
def znz (fuel:Nat) (sv:List zg) (root:Int) (x:zj):Option Bool:=(zgR sv root 0>>=fun rv=>if (rv==0) then (zmw fuel x>>=fun vA=>if vA then (zdj fuel sv root x>>=fun vG=>some vG) else some false) else some false)>>=fun g=>some g
def zeN (xg:zi->Option zi) (rv:List zi) (v:List zi) (v2:Int):Option (((List zi)×Int)⊕(List zi)):=if (decide (v2<(rv.length:Int))) then (idx v v2>>=fun x2=>xg x2>>=fun vG=>idx v v2>>=fun x3=>some (.inl ((v.set (Int.toNat v2) vG),(i64.wrap (v2+1))))) else some (.inr v)
def zdR (xg:zi->Option zi) (rv:List zi) (v:List zi) (v2:Int):Option (List zi):=zav (fun s=>zeN xg rv s.1 s.2) (v,v2)
def zjn (xh:zj->Option zj) (xg:zi->Option zi) (x:zj):Option zj:=zbf x.Values>>=fun rv=>zbk x.Unknown>>=fun vA=>zdR xg rv rv 0>>=fun q=>some (⟨q,vA⟩:zj)
def zcQ (xh:zj->Option zj) (vG:List zj) (v2:List zj) (v3:Int):Option (((List zj)×Int)⊕(List zj)):=if (decide (v3<(vG.length:Int))) then (idx v2 v3>>=fun x=>xh x>>=fun rv4=>idx v2 v3>>=fun x2=>some (.inl ((v2.set (Int.toNat v3) rv4),(i64.wrap (v3+1))))) else some (.inr v2)
def zbT (xh:zj->Option zj) (vG:List zj) (v2:List zj) (v3:Int):Option (List zj):=zav (fun s=>zcQ xh vG s.1 s.2) (v2,v3)
def zfu (xh:zj->Option zj) (xg:zi->Option zi) (v:zi):Option zi:=zcw v.Words>>=fun rv=>zbk v.Texts>>=fun vA=>zbE v.Subs>>=fun vG=>zbT xh vG vG 0>>=fun q=>some (⟨v.Number,rv,vA,q⟩:zi)
def zaj:Nat->(zj->Option zj)×(zi->Option zi) | 0=>(fun _=>none,fun _=>none) | fuel+1=>(fun x=>zjn (zaj fuel).1 (zaj fuel).2 x,fun v=>zfu (zaj fuel).1 (zaj fuel).2 v)
def zfJ (fuel:Nat):zj->Option zj:=(zaj fuel).1
def zdQ (fuel:Nat):zi->Option zi:=(zaj fuel).2
theorem znA (h:zeN xg rv v v2=some (.inl (v',v2'))):zdR xg rv v v2=zdR xg rv v' v2':=zR h
theorem znB (h:zeN xg rv v v2=some (.inr vM)):zdR xg rv v v2=some vM:=zS h
theorem zjX (h:zcQ xh vG v2 v3=some (.inl (v2',v3'))):zbT xh vG v2 v3=zbT xh vG v2' v3':=zR h
theorem zjY (h:zcQ xh vG v2 v3=some (.inr vM)):zbT xh vG v2 v3=some vM:=zS h
def zpM (fuel:Nat) (x:zj):Option zj:=zmw fuel x>>=fun rv=>if (!rv) then some (⟨[],[]⟩:zj) else zfJ fuel x>>=fun vA=>some vA
def zer (k:Int):Option Bool:=zeK k 0>>=fun rv=>some (decide (rv>0))
def zis (out:List UInt8) (number:Int) (wire:Int) (value:List UInt8):Option (List UInt8):=zgJ ([]:List UInt8) number wire value>>=fun rv=>app 1 out rv.1>>=fun v=>some v
def zhU (k:Int):Option Int:=zeK k 0>>=fun rv=>if (rv==4) then some 5 else if (rv==8) then some 1 else some 0
def zit (out:List UInt8) (f:za) (b:List UInt8):Option (List UInt8):=if ((b.length:Int)==0) then some out else zjO f.Kind b>>=fun rv=>zlL f.Kind rv.1>>=fun vA=>if f.Repeated then (zis out f.Number 2 vA.1>>=fun vG=>some vG) else zhU f.Kind>>=fun rv4=>zis out f.Number rv4 vA.1>>=fun rv5=>some rv5
def zeH (wv:zH) (message:Int) (b:List UInt8) (vT:Int):Option (zo×Int×(List (zd×Int))):=zdA b vT>>=fun rv=>if (!(mget wv.met (⟨message,rv.1.Number⟩:zd)).isSome) then (idx wv.s message>>=fun x=>zic x b vT>>=fun vA=>some (rv.1,vA.1.Field,(mput wv.met (⟨message,rv.1.Number⟩:zd) vA.1.Field))) else some (rv.1,((mget wv.met (⟨message,rv.1.Number⟩:zd)).getD 0),wv.met)
def zhk (f:za) (before:List UInt8) (b:List UInt8) (rv:zo):Option (List UInt8):=(if f.Repeated then (zer f.Kind>>=fun vA=>some (!vA)) else some false)>>=fun g=>((if g then some rv.From else (some rv.At) :Option Int))>>=fun p=>if (((!f.Repeated)&&(f.Kind !=17))|| ((before.length:Int)==0)) then (cut b p rv.To>>=fun v3=>some v3) else cut b p rv.To>>=fun v4=>app 1 before v4>>=fun v5=>some v5
def zir (number:Int) (size:Int):Option (List UInt8):=ziw ([]:List UInt8) number ([]:List UInt8)>>=fun rv=>zgN 4 (u64.wrap size)>>=fun vA=>cut rv 0 (i64.wrap ((rv.length:Int) - 1))>>=fun v=>app 1 v vA.1>>=fun v2=>some v2
def zbr (b:List UInt8) (f:za) (xa:zH->(List UInt8)->za->(List UInt8)->Option ((List UInt8)×(List (zd×Int)))) (wv:zH) (vI:List (zd×Int)) (vX:List UInt8) (vT:Int):Option (((List (zd×Int))×(List UInt8)×Int)⊕((List (zd×Int))×(List UInt8))):=if (decide (vT<(b.length:Int))) then (zdA b vT>>=fun rv5=>cut b rv5.1.At rv5.1.To>>=fun v=>xa (⟨wv.s,vI⟩:zH) vX f v>>=fun rv6=>some (.inl (rv6.2,rv6.1,rv5.1.To))) else some (.inr (vI,vX))
def zcj (b:List UInt8) (f:za) (xa:zH->(List UInt8)->za->(List UInt8)->Option ((List UInt8)×(List (zd×Int)))) (wv:zH) (vI:List (zd×Int)) (vX:List UInt8) (vT:Int):Option ((List (zd×Int))×(List UInt8)):=zav (fun s=>zbr b f xa wv s.1 s.2.1 s.2.2) (vI,vX,vT)
def zcC (xb:zH->(List UInt8)->za->(List UInt8)->Option ((List UInt8)×(List (zd×Int)))) (xi:zH->(List UInt8)->Int->(List UInt8)->Option ((List UInt8)×(List (zd×Int)))) (xa:zH->(List UInt8)->za->(List UInt8)->Option ((List UInt8)×(List (zd×Int)))) (wv:zH) (out:List UInt8) (f:za) (b:List UInt8):Option ((List UInt8)×(List (zd×Int))):=zer f.Kind>>=fun rv=>if rv then (zit out f b>>=fun vA=>some (vA,wv.met)) else if (!f.Repeated) then (xa wv out f b>>=fun rv4=>some (rv4.1,rv4.2)) else zcj b f xa wv wv.met out 0>>=fun q=>some (q.2,q.1)
def zaJ (b:List UInt8) (message:Int) (wv:zH) (x:zg) (vI:List (zd×Int)) (vS:List (Int×(List UInt8))) (vB:List UInt8) (vT:Int):Option (((List (zd×Int))×(List (Int×(List UInt8)))×(List UInt8)×Int)⊕((List (zd×Int))×(List (Int×(List UInt8)))×(List UInt8))):=if (decide (vT<(b.length:Int))) then (zeH (⟨wv.s,vI⟩:zH) message b vT>>=fun vA=>if (vA.2.1==(-1)) then (cut b vA.1.From vA.1.To>>=fun v=>app 1 vB v>>=fun v2=>some (.inl (vA.2.2,vS,v2,vA.1.To))) else idx x.Fields vA.2.1>>=fun x2=>zhk x2 ((mget vS vA.1.Number).getD []) b vA.1>>=fun v3=>some (.inl (vA.2.2,(mput vS vA.1.Number v3),vB,vA.1.To))) else some (.inr (vI,vS,vB))
def zaY (b:List UInt8) (message:Int) (wv:zH) (x:zg) (vI:List (zd×Int)) (vS:List (Int×(List UInt8))) (vB:List UInt8) (vT:Int):Option ((List (zd×Int))×(List (Int×(List UInt8)))×(List UInt8)):=zav (fun s=>zaJ b message wv x s.1 s.2.1 s.2.2.1 s.2.2.2) (vI,vS,vB,vT)
def zaX (message:Int) (q:((List (zd×Int))×(List (Int×(List UInt8)))×(List UInt8))) (xb:zH->(List UInt8)->za->(List UInt8)->Option ((List UInt8)×(List (zd×Int)))) (v4:List Int) (wv:zH) (x:zg) (wv4:List (zd×Int)) (vX:List UInt8) (v5:Int):Option (((List (zd×Int))×(List UInt8)×Int)⊕((List (zd×Int))×(List UInt8))):=if (decide (v5<(v4.length:Int))) then (idx v4 v5>>=fun x3=>idx x.Fields ((mget wv4 (⟨message,x3⟩:zd)).getD 0)>>=fun x4=>xb (⟨wv.s,wv4⟩:zH) vX x4 ((mget q.2.1 x3).getD [])>>=fun vG=>some (.inl (vG.2,vG.1,(i64.wrap (v5+1))))) else some (.inr (wv4,vX))
def zbz (message:Int) (q:((List (zd×Int))×(List (Int×(List UInt8)))×(List UInt8))) (xb:zH->(List UInt8)->za->(List UInt8)->Option ((List UInt8)×(List (zd×Int)))) (v4:List Int) (wv:zH) (x:zg) (wv4:List (zd×Int)) (vX:List UInt8) (v5:Int):Option ((List (zd×Int))×(List UInt8)):=zav (fun s=>zaX message q xb v4 wv x s.1 s.2.1 s.2.2) (wv4,vX,v5)
def zcN (xb:zH->(List UInt8)->za->(List UInt8)->Option ((List UInt8)×(List (zd×Int)))) (xi:zH->(List UInt8)->Int->(List UInt8)->Option ((List UInt8)×(List (zd×Int)))) (xa:zH->(List UInt8)->za->(List UInt8)->Option ((List UInt8)×(List (zd×Int)))) (wv:zH) (out:List UInt8) (message:Int) (b:List UInt8):Option ((List UInt8)×(List (zd×Int))):=idx wv.s message>>=fun x=>zaY b message wv x wv.met ([]:List (Int×(List UInt8))) [] 0>>=fun q=>zjD q.2.1>>=fun v4=>zbz message q xb v4 wv x q.1 out 0>>=fun q2=>app 1 q2.2 q.2.2>>=fun v6=>some (v6,q2.1)
def zcD (xb:zH->(List UInt8)->za->(List UInt8)->Option ((List UInt8)×(List (zd×Int)))) (xi:zH->(List UInt8)->Int->(List UInt8)->Option ((List UInt8)×(List (zd×Int)))) (xa:zH->(List UInt8)->za->(List UInt8)->Option ((List UInt8)×(List (zd×Int)))) (wv:zH) (out:List UInt8) (f:za) (b:List UInt8):Option ((List UInt8)×(List (zd×Int))):=if (f.Kind !=17) then (zis out f.Number 2 b>>=fun rv=>some (rv,wv.met)) else xi wv out f.Of b>>=fun vG=>zir f.Number (i64.wrap ((vG.1.length:Int) - (out.length:Int)))>>=fun rv4=>insO vG.1 (out.length:Int) rv4>>=fun v=>some (v,vG.2)
def zw:Nat->(zH->(List UInt8)->za->(List UInt8)->Option ((List UInt8)×(List (zd×Int))))×(zH->(List UInt8)->Int->(List UInt8)->Option ((List UInt8)×(List (zd×Int))))×(zH->(List UInt8)->za->(List UInt8)->Option ((List UInt8)×(List (zd×Int)))) | 0=>(fun _ _ _ _=>none,fun _ _ _ _=>none,fun _ _ _ _=>none) | fuel+1=>(fun wv out f b=>zcC (zw fuel).1 (zw fuel).2.1 (zw fuel).2.2 wv out f b,fun wv out message b=>zcN (zw fuel).1 (zw fuel).2.1 (zw fuel).2.2 wv out message b,fun wv out f b=>zcD (zw fuel).1 (zw fuel).2.1 (zw fuel).2.2 wv out f b)
def zcL (fuel:Nat):zH->(List UInt8)->za->(List UInt8)->Option ((List UInt8)×(List (zd×Int))):=(zw fuel).1
def zaS (fuel:Nat):zH->(List UInt8)->Int->(List UInt8)->Option ((List UInt8)×(List (zd×Int))):=(zw fuel).2.1
def zfn (fuel:Nat):zH->(List UInt8)->za->(List UInt8)->Option ((List UInt8)×(List (zd×Int))):=(zw fuel).2.2
theorem zkr {b:List UInt8} {f:za} {xa:zH->(List UInt8)->za->(List UInt8)->Option ((List UInt8)×(List (zd×Int)))} {wv:zH} {vI:List (zd×Int)} {vX:List UInt8} {vT:Int} {wv2':List (zd×Int)} {out2':List UInt8} {fromv':Int} (h:zbr b f xa wv vI vX vT=some (.inl (wv2',out2',fromv'))):zcj b f xa wv vI vX vT=zcj b f xa wv wv2' out2' fromv':=zR h
theorem zks {b:List UInt8} {f:za} {xa:zH->(List UInt8)->za->(List UInt8)->Option ((List UInt8)×(List (zd×Int)))} {wv:zH} {vI:List (zd×Int)} {vX:List UInt8} {vT:Int} {vM:((List (zd×Int))×(List UInt8))} (h:zbr b f xa wv vI vX vT=some (.inr vM)):zcj b f xa wv vI vX vT=some vM:=zS h
theorem zff {b:List UInt8} {message:Int} {wv:zH} {x:zg} {vI:List (zd×Int)} {vS:List (Int×(List UInt8))} {vB:List UInt8} {vT:Int} {wv2':List (zd×Int)} {known':List (Int×(List UInt8))} {rest':List UInt8} {fromv':Int} (h:zaJ b message wv x vI vS vB vT=some (.inl (wv2',known',rest',fromv'))):zaY b message wv x vI vS vB vT=zaY b message wv x wv2' known' rest' fromv':=zR h
theorem zjf {b:List UInt8} {message:Int} {wv:zH} {x:zg} {vI:List (zd×Int)} {vS:List (Int×(List UInt8))} {vB:List UInt8} {vT:Int} {vM:((List (zd×Int))×(List (Int×(List UInt8)))×(List UInt8))} (h:zaJ b message wv x vI vS vB vT=some (.inr vM)):zaY b message wv x vI vS vB vT=some vM:=zS h
theorem zjg {message:Int} {q:((List (zd×Int))×(List (Int×(List UInt8)))×(List UInt8))} {xb:zH->(List UInt8)->za->(List UInt8)->Option ((List UInt8)×(List (zd×Int)))} {v4:List Int} {wv:zH} {x:zg} {wv4:List (zd×Int)} {vX:List UInt8} {v5:Int} {wv4':List (zd×Int)} {out2':List UInt8} {v5':Int} (h:zaX message q xb v4 wv x wv4 vX v5=some (.inl (wv4',out2',v5'))):zbz message q xb v4 wv x wv4 vX v5=zbz message q xb v4 wv x wv4' out2' v5':=zR h
theorem zjh {message:Int} {q:((List (zd×Int))×(List (Int×(List UInt8)))×(List UInt8))} {xb:zH->(List UInt8)->za->(List UInt8)->Option ((List UInt8)×(List (zd×Int)))} {v4:List Int} {wv:zH} {x:zg} {wv4:List (zd×Int)} {vX:List UInt8} {v5:Int} {vM:((List (zd×Int))×(List UInt8))} (h:zaX message q xb v4 wv x wv4 vX v5=some (.inr vM)):zbz message q xb v4 wv x wv4 vX v5=some vM:=zS h
def zhl (fuel:Nat) (sv:List zg) (root:Int) (b:List UInt8):Option (List UInt8):=zaS fuel (⟨sv,([]:List (zd×Int))⟩:zH) ([]:List UInt8) root b>>=fun vA=>some vA.1
def zeT (fuel:Nat) (sv:List zg) (root:Int) (b:List UInt8) (d:Int):Option ((List UInt8)×Int):=zhv fuel sv root b d>>=fun rv=>if (rv.2 !=0) then some ([],rv.2) else zhl fuel sv root b>>=fun vA=>some (vA,0)
def zdb (fuel:Nat):Option Bool:=zeT fuel ([(⟨[109],([(⟨[97],1,3,false,false,0⟩:za)]:List za)⟩:zg)]:List zg) 0 ([(8:UInt8),(129:UInt8),(0:UInt8),(8:UInt8),(130:UInt8),(0:UInt8)]:List UInt8) 0>>=fun rv=>(if ((i64.wrap rv.2)==0) then (zdv rv.1 ([(8:UInt8),(2:UInt8)]:List UInt8)>>=fun vA=>some vA) else some false)>>=fun g=>some g
def zbu (fuel:Nat) (sv:List zg) (root:Int) (av:List UInt8) (b:List UInt8) (d:Int):Option Bool:=zdb fuel>>=fun rv=>if (!rv) then some false else (zdL sv>>=fun vA=>if ((!vA)|| (decide ((i64.wrap ((av.length:Int)+(b.length:Int)))>1500))) then some true else (zeT fuel sv root av d>>=fun vG=>zeT fuel sv root b d>>=fun rv4=>if (((i64.wrap vG.2) !=0)|| ((i64.wrap rv4.2) !=0)) then some true else app 1 ([]:List UInt8) av>>=fun v3=>app 1 v3 b>>=fun v4=>zeT fuel sv root v4 d>>=fun rv5=>app 1 ([]:List UInt8) vG.1>>=fun v5=>app 1 v5 rv4.1>>=fun v6=>zeT fuel sv root v6 d>>=fun rv6=>(if ((i64.wrap ((i64.wrap rv5.2)+(i64.wrap rv6.2)))==0) then (zdv rv5.1 rv6.1>>=fun rv7=>if rv7 then some (decide ((rv5.1.length:Int)<=(i64.wrap ((vG.1.length:Int)+(rv4.1.length:Int))))) else some false) else some false)>>=fun g=>some g))
end
end Go.Proofs.YtaglemhabeipfaaGreat
