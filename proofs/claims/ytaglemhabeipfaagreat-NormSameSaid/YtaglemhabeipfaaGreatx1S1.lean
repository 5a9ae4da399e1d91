/-
  What the Go functions do, as plain functions. No condition.
-/
import Derived.Test.YtaglemhabeipfaaGreatx1K2
set_option autoImplicit true
set_option relaxedAutoImplicit true
namespace Go.Proofs.YtaglemhabeipfaaGreat
open Go.IntKind (i32 i64 u32 u64 u8)
open Go
set_option linter.unusedVariables false
abbrev Str:=List UInt8
structure zOH where
  a0:Str
  a1:Str
  a2:Str
  a3:Str
  a4:Str
  a5:Str
  a6:Str
  a7:Str
  a8:Str
  a9:Str
  a10:Str
  a11:Str
  a12:Str
  a13:Str
  a14:Str deriving DecidableEq
structure zj where
  Number:Int
  Wire:Int
  From:Int
  At:Int
  To:Int deriving DecidableEq
def zt:Rp zj:=⟨5,true,fun x=>[.int .i64 x.Number,.int .i64 x.Wire,.int .i64 x.From,.int .i64 x.At,.int .i64 x.To],fun _=>rfl,by decide⟩
structure zi where
  Record:zj
  Field:Int
  Run:Bool deriving DecidableEq
def zk:Rp zi:=⟨7,true,fun x=>[.int .i64 x.Record.Number,.int .i64 x.Record.Wire,.int .i64 x.Record.From,.int .i64 x.Record.At,.int .i64 x.Record.To,.int .i64 x.Field,.bool x.Run],fun _=>rfl,by decide⟩
structure zq where
  name:Str
  wire:Int deriving DecidableEq
def zak:Rp zq:=⟨2,true,fun x=>[.str x.name,.int .i64 x.wire],fun _=>rfl,by decide⟩
mutual
structure zd where
  Values:(List zc)
  Unknown:(List Str)
structure zc where
  Number:Int
  Words:(List Int)
  Texts:(List Str)
  Subs:(List zd)
end
mutual
def zgZ:zd->List LV | ⟨x0,x1⟩=>[.sl x0.length 4 (zdc x0),.sl x1.length Rp.str.size (x1.flatMap Rp.str.lv)]
def zgB:List zd->List LV | []=>[] | x::l=>zgZ x++zgB l
def zdn:zc->List LV | ⟨x0,x1,x2,x3⟩=>[.int .i64 x0,.sl x1.length (Rp.int .u64).size (x1.flatMap (Rp.int .u64).lv),.sl x2.length Rp.str.size (x2.flatMap Rp.str.lv),.sl x3.length 2 (zgB x3)]
def zdc:List zc->List LV | []=>[] | x::l=>zdn x++zdc l
end
theorem zrQ (l:List zd):zgB l=l.flatMap zgZ:=by
  induction l with
  | nil=>rfl
  | cons x l ih=>rw [zgB,ih,xI]
def zD:Rp zd:=⟨2,true,zgZ,fun x=>by cases x;rfl,by decide⟩
theorem zkN (l:List zc):zdc l=l.flatMap zdn:=by
  induction l with
  | nil=>rfl
  | cons x l ih=>rw [zdc,ih,xI]
def zw:Rp zc:=⟨4,true,zdn,fun x=>by cases x;rfl,by decide⟩
theorem zfg (x:zd):zD.lv x=[.sl x.Values.length zw.size (x.Values.flatMap zw.lv),.sl x.Unknown.length Rp.str.size (x.Unknown.flatMap Rp.str.lv)]:=by
  cases x;simp only [zD,zgZ,zkN,zw]<;>rfl
theorem zeN (x:zc):zw.lv x=[.int .i64 x.Number,.sl x.Words.length (Rp.int .u64).size (x.Words.flatMap (Rp.int .u64).lv),.sl x.Texts.length Rp.str.size (x.Texts.flatMap Rp.str.lv),.sl x.Subs.length zD.size (x.Subs.flatMap zD.lv)]:=by
  cases x;simp only [zw,zdn,zrQ,zD]<;>rfl
structure za where
  Name:Str
  Number:Int
  Kind:Int
  Repeated:Bool
  Packed:Bool
  Of:Int deriving DecidableEq
def zb:Rp za:=⟨6,true,fun x=>[.str x.Name,.int .i64 x.Number,.int .i64 x.Kind,.bool x.Repeated,.bool x.Packed,.int .i64 x.Of],fun _=>rfl,by decide⟩
structure ze where
  Name:Str
  Fields:(List za) deriving DecidableEq
def zg:Rp ze:=⟨2,true,fun x=>[.str x.Name,.sl x.Fields.length zb.size (x.Fields.flatMap zb.lv)],fun _=>rfl,by decide⟩
structure zV where
  Number:Int
  Wire:Int deriving DecidableEq
def zbz:Rp zV:=⟨2,true,fun x=>[.int .i64 x.Number,.int .i64 x.Wire],fun _=>rfl,by decide⟩
structure zv where
  message:Int
  name:Str deriving DecidableEq
def zA:Rp zv:=⟨2,true,fun x=>[.int .i64 x.message,.str x.name],fun _=>rfl,by decide⟩
structure zh where
  message:Int
  number:Int deriving DecidableEq
def zf:Rp zh:=⟨2,true,fun x=>[.int .i64 x.message,.int .i64 x.number],fun _=>rfl,by decide⟩
structure zap where
  size:Int
  kinds:(List Int)
  names:(List (zv×Bool))
  numbers:(List (zh×Bool))
structure zao where
  Message:Int
  Field:Int
  What:Int deriving DecidableEq
def zea:Rp zao:=⟨3,true,fun x=>[.int .i64 x.Message,.int .i64 x.Field,.int .i64 x.What],fun _=>rfl,by decide⟩
structure zU where
  number:Int
  wire:Int deriving DecidableEq
def zam:Rp zU:=⟨2,true,fun x=>[.int .i64 x.number,.int .i64 x.wire],fun _=>rfl,by decide⟩
structure zW where
  field:Int
  run:Bool
  e:Int deriving DecidableEq
def zaw:Rp zW:=⟨3,true,fun x=>[.int .i64 x.field,.bool x.run,.int .u8 x.e],fun _=>rfl,by decide⟩
structure zE where
  R:zj
  Field:Int
  Run:Bool deriving DecidableEq
def zal:Rp zE:=⟨7,true,fun x=>[.int .i64 x.R.Number,.int .i64 x.R.Wire,.int .i64 x.R.From,.int .i64 x.R.At,.int .i64 x.R.To,.int .i64 x.Field,.bool x.Run],fun _=>rfl,by decide⟩
structure zm where
  message:Int
  number:Int
  wire:Int deriving DecidableEq
def zn:Rp zm:=⟨3,true,fun x=>[.int .i64 x.message,.int .i64 x.number,.int .i64 x.wire],fun _=>rfl,by decide⟩
structure zac where
  s:(List ze)
  b:(List UInt8)
  met:(List (zm×zi))
structure zx where
  depth:Int
  place:Int
  e:Int deriving DecidableEq
def zah:Rp zx:=⟨3,true,fun x=>[.int .i64 x.depth,.int .i64 x.place,.int .u8 x.e],fun _=>rfl,by decide⟩
structure zMU where
  a0:Int
  a1:Int deriving DecidableEq
structure zKQ where
  pieces:(List (List UInt8))
  size:Int deriving DecidableEq
structure zP where
  s:(List ze)
  met:(List (zh×Int))
noncomputable section
def zdd (sv:List zd):Option (List zd):=app 48 ([]:List zd) sv>>=fun v=>some v
def zcd (sv:List zc):Option (List zc):=app 80 ([]:List zc) sv>>=fun v=>some v
def zcy (n:Int):Option (List UInt8):=if (decide (n<0)) then none else if (decide ((i64.wrap (n - (i64.wrap (0 - 0))))>0)) then (mkO 1 (0:UInt8) (i64.wrap (n - (i64.wrap (0 - 0)))) (i64.wrap (n - (i64.wrap (0 - 0))))>>=fun v=>cut v 0 0>>=fun v2=>some v2) else some []
def zar (ky:List (List UInt8)) (size:Int) (v:Int):Option ((Int×Int)⊕Int):=if (decide (v<(ky.length:Int))) then (idx ky v>>=fun x=>if (decide ((i64.wrap (size+(x.length:Int)))<0)) then none else some (.inl ((i64.wrap (size+(x.length:Int))),(i64.wrap (v+1))))) else some (.inr size)
def zaJ (ky:List (List UInt8)) (size:Int) (v:Int):Option Int:=zX (fun s=>zar ky s.1 s.2) (size,v)
def zas (ky:List (List UInt8)) (kC:List UInt8) (v2:Int):Option (((List UInt8)×Int)⊕(List UInt8)):=if (decide (v2<(ky.length:Int))) then (idx ky v2>>=fun x2=>app 1 kC x2>>=fun v3=>some (.inl (v3,(i64.wrap (v2+1))))) else some (.inr kC)
def zaK (ky:List (List UInt8)) (kC:List UInt8) (v2:Int):Option (List UInt8):=zX (fun s=>zas ky s.1 s.2) (kC,v2)
def zaF (ky:List (List UInt8)):Option (List UInt8):=zaJ ky 0 0>>=fun q=>zcy q>>=fun rv=>zaK ky rv 0>>=fun q2=>some q2
theorem ziz (h:zar ky size v=some (.inl (size',v'))):zaJ ky size v=zaJ ky size' v':=zB h
theorem ziA (h:zar ky size v=some (.inr wW)):zaJ ky size v=some wW:=zC h
theorem ziB (h:zas ky kC v2=some (.inl (newslice',v2'))):zaK ky kC v2=zaK ky newslice' v2':=zB h
theorem ziC (h:zas ky kC v2=some (.inr wW)):zaK ky kC v2=some wW:=zC h
def zaG (sv:List Int) (v:Int) (v2:Int):Option (Int⊕(Unit⊕Int)):=if (decide (v2<(sv.length:Int))) then (idx sv v2>>=fun x=>if (v==x) then some (.inr (.inr v2)) else some (.inl (i64.wrap (v2+1)))) else some (.inr (.inl ()))
def zbh (sv:List Int) (v:Int) (v2:Int):Option (Unit⊕Int):=zX (fun s=>zaG sv v s) v2
def zda (sv:List Int) (v:Int):Option Int:=zbh sv v 0>>=fun q=>match q with | .inl u=>(some (-1)) | .inr u2=>(some u2)
theorem zjH (h:zaG sv v v2=some (.inl v2')):zbh sv v v2=zbh sv v v2':=zB h
theorem zgj (h:zaG sv v v2=some (.inr wW)):zbh sv v v2=some wW:=zC h
def zbX (sv:List Int) (v:Int):Option Bool:=zda sv v>>=fun rv=>some (decide (rv>=0))
def zcp (sv:List Str):Option (List Str):=app 16 ([]:List Str) sv>>=fun v=>some v
def zeg (sv:List Int):Option (List Int):=app 8 ([]:List Int) sv>>=fun v=>some v
def zmg (av:List UInt8) (b:List UInt8):Option Bool:=some (av==b)
def zih (w7:Int) (n:Int):Option ((Int×Int)⊕Int):=if (w7 !=0) then some (.inl ((shrI .u64 w7 7),(i64.wrap (n+1)))) else some (.inr n)
def zjR (w7:Int) (n:Int):Option Int:=zX (fun s=>zih s.1 s.2) (w7,n)
def znh (wv:Int):Option Int:=zjR (shrI .u64 wv 7) 1>>=fun q=>some q
theorem zvi (h:zih w7 n=some (.inl (wv2',n'))):zjR w7 n=zjR wv2' n':=zB h
theorem zvj (h:zih w7 n=some (.inr wW)):zjR w7 n=some wW:=zC h
def zeb (v:List UInt8) (wv:Int) (b:List UInt8) (v2:Int):Option (((List UInt8)×Int)⊕(List UInt8)):=if (decide (v2<(v.length:Int))) then (shrO .u64 wv (i64.wrap (8*v2))>>=fun v3=>idx b v2>>=fun x=>zii (u8.wrap v3)>>=fun y2=>some (.inl ((b.set (Int.toNat v2) y2),(i64.wrap (v2+1))))) else some (.inr b)
def zga (v:List UInt8) (wv:Int) (b:List UInt8) (v2:Int):Option (List UInt8):=zX (fun s=>zeb v wv s.1 s.2) (b,v2)
def zjS (wv:Int) (n:Int):Option (List UInt8):=mkO 1 (0:UInt8) (if (8:Int)<(if n<0 then 0 else n) then 8 else if n<0 then 0 else n) (if (8:Int)<(if n<0 then 0 else n) then 8 else if n<0 then 0 else n)>>=fun v=>zga v wv v 0>>=fun q=>some q
theorem zrF {v:List UInt8} {wv:Int} {b:List UInt8} {v2:Int} {b':List UInt8} {v2':Int} (h:zeb v wv b v2=some (.inl (b',v2'))):zga v wv b v2=zga v wv b' v2':=zB h
theorem zrG {v:List UInt8} {wv:Int} {b:List UInt8} {v2:Int} {wW:List UInt8} (h:zeb v wv b v2=some (.inr wW)):zga v wv b v2=some wW:=zC h
def zjp (wv:Int):Option Int:=some (u32.wrap wv)
def zjT (wv:Int):Option Int:=zjp wv>>=fun rv=>some (i32.wrap rv)
def zjU (n:Int):Option Int:=some (u64.wrap (i64.wrap n))
def zgu (v:List UInt8) (wv:Int) (v2:Int):Option ((Int×Int)⊕Int):=if (decide (v2<(v.length:Int))) then (idx v v2>>=fun x=>shlO .u64 (u64.wrap (x.toNat:Int)) (i64.wrap (8*v2))>>=fun v3=>some (.inl ((orI .u64 wv v3),(i64.wrap (v2+1))))) else some (.inr wv)
def zhq (v:List UInt8) (wv:Int) (v2:Int):Option Int:=zX (fun s=>zgu v s.1 s.2) (wv,v2)
def zni (b:List UInt8):Option Int:=cut b 0 (if (8:Int)<(b.length:Int) then 8 else (b.length:Int))>>=fun v=>zhq v 0 0>>=fun q=>some q
theorem ztH (h:zgu v wv v2=some (.inl (wv',v2'))):zhq v wv v2=zhq v wv' v2':=zB h
theorem ztI (h:zgu v wv v2=some (.inr wW)):zhq v wv v2=some wW:=zC h
def ziD (av:List UInt8) (b:List UInt8):Option Bool:=some (av==b)
def zbN (b:List UInt8) (wv:Int) (place:Int) (i:Int):Option ((Int×Int×Int)⊕Int):=if ((decide (i<(b.length:Int)))&&(decide (i<8))) then (idx b i>>=fun x=>some (.inl ((u64.wrap (wv+(u64.wrap ((u64.wrap (x.toNat:Int))*place)))),(u64.wrap (place*256)),(i64.wrap (i+1))))) else some (.inr wv)
def zcJ (b:List UInt8) (wv:Int) (place:Int) (i:Int):Option Int:=zX (fun s=>zbN b s.1 s.2.1 s.2.2) (wv,place,i)
def zfz (b:List UInt8):Option Int:=zcJ b 0 1 0>>=fun q=>some q
theorem zmD {b:List UInt8} {wv:Int} {place:Int} {i:Int} {wv':Int} {place':Int} {i':Int} (h:zbN b wv place i=some (.inl (wv',place',i'))):zcJ b wv place i=zcJ b wv' place' i':=zB h
theorem zmE {b:List UInt8} {wv:Int} {place:Int} {i:Int} {wW:Int} (h:zbN b wv place i=some (.inr wW)):zcJ b wv place i=some wW:=zC h
def zeE (wv:Int):Option Int:=if (decide ((i64.wrap (Int.tmod wv 4294967296))>=2147483648)) then some (i64.wrap ((i64.wrap (Int.tmod wv 4294967296)) - 4294967296)) else some (i64.wrap (Int.tmod wv 4294967296))
def zfy (n:Int):Option Int:=if (decide (n>=0)) then some (u64.wrap n) else some (u64.wrap (18446744073709551615 - (u64.wrap (i64.wrap (0 - (i64.wrap (n+1)))))))
def zek (v:List UInt8) (wv:Int) (v2:Int):Option ((Int×Int)⊕(Unit⊕(Int×Int×Int))):=if (decide (v2<(v.length:Int))) then (idx v v2>>=fun x=>if ((v2==9)&&(decide ((x.toNat:Int)>1))) then some (.inr (.inr (0,0,4))) else shlO .u64 (u64.wrap (andI .u8 (x.toNat:Int) 127)) (i64.wrap (7*v2))>>=fun v4=>if (decide ((x.toNat:Int)<128)) then some (.inr (.inr ((orI .u64 wv v4),(i64.wrap (v2+1)),0))) else some (.inl ((orI .u64 wv v4),(i64.wrap (v2+1))))) else some (.inr (.inl ()))
def zgm (v:List UInt8) (wv:Int) (v2:Int):Option (Unit⊕(Int×Int×Int)):=zX (fun s=>zek v s.1 s.2) (wv,v2)
def zgs (b:List UInt8):Option (Int×Int×Int):=cut b 0 (if (10:Int)<(b.length:Int) then 10 else (b.length:Int))>>=fun v=>zgm v 0 0>>=fun q=>match q with | .inl u=>(some (0,0,3)) | .inr u2=>(some (u2.1,u2.2.1,u2.2.2))
theorem zsh (h:zek v wv v2=some (.inl (wv',v2'))):zgm v wv v2=zgm v wv' v2':=zB h
theorem zif (h:zek v wv v2=some (.inr wW)):zgm v wv v2=some wW:=zC h
def zfU (w7:Int) (l:List UInt8):Option ((Int×(List UInt8))⊕(Int×(List UInt8))):=if (decide (w7>=128)) then (zii (orI .u8 (u8.wrap w7) 128)>>=fun y=>app 1 l ([y]:List UInt8)>>=fun v3=>some (.inl ((shrI .u64 w7 7),v3))) else some (.inr (w7,l))
def zhU (w7:Int) (l:List UInt8):Option (Int×(List UInt8)):=zX (fun s=>zfU s.1 s.2) (w7,l)
def zie (b:List UInt8) (wv:Int):Option (List UInt8):=znh wv>>=fun rv=>mkO 1 (0:UInt8) 0 (i64.wrap ((b.length:Int)+rv))>>=fun v=>app 1 v b>>=fun v2=>zhU wv v2>>=fun q=>zii (u8.wrap q.1)>>=fun y2=>app 1 q.2 ([y2]:List UInt8)>>=fun v4=>some v4
theorem ztu {w7:Int} {l:List UInt8} {wv2':Int} {l':List UInt8} (h:zfU w7 l=some (.inl (wv2',l'))):zhU w7 l=zhU wv2' l':=zB h
theorem ztv {w7:Int} {l:List UInt8} {wW:(Int×(List UInt8))} (h:zfU w7 l=some (.inr wW)):zhU w7 l=some wW:=zC h
def zbl (wU:Int) (b:List UInt8) (n:Int):Option (Int⊕Int):=(if (decide ((i64.wrap (wU+n))<(b.length:Int))) then (if (decide (n<10)) then (idx b (i64.wrap (wU+n))>>=fun x=>some (decide ((x.toNat:Int)>=128))) else some false) else some false)>>=fun g=>if g then some (.inl (i64.wrap (n+1))) else some (.inr n)
def zcL (wU:Int) (b:List UInt8) (n:Int):Option Int:=zX (fun s=>zbl wU b s) n
def zcK (wU:Int) (b:List UInt8) (wv:Int) (i:Int):Option ((Int×Int)⊕Int):=if (decide (i>=0)) then (idx b (i64.wrap (wU+i))>>=fun x3=>some (.inl ((u64.wrap ((u64.wrap (128*wv))+(u64.wrap (Int.tmod (x3.toNat:Int) 128)))),(i64.wrap (i - 1))))) else some (.inr wv)
def zcM (wU:Int) (b:List UInt8) (wv:Int) (i:Int):Option Int:=zX (fun s=>zcK wU b s.1 s.2) (wv,i)
def zaD (b:List UInt8) (wU:Int):Option (Int×Int×Int):=zcL wU b 0>>=fun q=>if (q==10) then some (0,0,4) else if ((i64.wrap (wU+q))==(b.length:Int)) then some (0,0,3) else (if (q==9) then (idx b (i64.wrap (wU+q))>>=fun x2=>some (decide ((x2.toNat:Int)>1))) else some false)>>=fun g2=>if g2 then some (0,0,4) else zcM wU b 0 q>>=fun q2=>some (q2,(i64.wrap (q+1)),0)
theorem zmF (h:zbl wU b n=some (.inl n')):zcL wU b n=zcL wU b n':=zB h
theorem zfN (h:zbl wU b n=some (.inr wW)):zcL wU b n=some wW:=zC h
theorem zmG (h:zcK wU b wv i=some (.inl (wv',i'))):zcM wU b wv i=zcM wU b wv' i':=zB h
theorem zmH (h:zcK wU b wv i=some (.inr wW)):zcM wU b wv i=some wW:=zC h
def zix (b:List UInt8):Option (Int×Int):=zgs b>>=fun rv=>some (rv.2.1,rv.2.2)
def zhQ (wire:Int):Option Bool:=if (wire==0) then if (wire==0) then some true else (some false) else if (wire==1) then if (wire==1) then some true else (some false) else if (wire==2) then if (wire==2) then some true else (some false) else if (wire==5) then some true else some false
def zlb (t:zV):Option Bool:=(if (decide (t.Number>=1)) then (if (decide (t.Number<=536870911)) then (zhQ t.Wire>>=fun rv=>some rv) else some false) else some false)>>=fun g=>some g
def zql (b:List UInt8):Option (zV×Int×Int):=zgs b>>=fun rv=>if (rv.2.2 !=0) then some ((⟨0,0⟩:zV),0,rv.2.2) else (zlb (⟨(i64.wrap (if (536870912:Int)<(shrI .u64 rv.1 3) then 536870912 else shrI .u64 rv.1 3)),(i64.wrap (andI .u64 rv.1 7))⟩:zV)>>=fun wQ=>if (!wQ) then some ((⟨0,0⟩:zV),0,5) else (some ((⟨(i64.wrap (if (536870912:Int)<(shrI .u64 rv.1 3) then 536870912 else shrI .u64 rv.1 3)),(i64.wrap (andI .u64 rv.1 7))⟩:zV),rv.2.1,0)))
def zqm (t:zV):Option Int:=some (orI .u64 (shlI .u64 (u64.wrap t.Number) 3) (u64.wrap t.Wire))
def zoA (b:List UInt8) (t:zV):Option ((List UInt8)×Int):=zlb t>>=fun rv=>if (!rv) then some ([],2) else zqm t>>=fun wQ=>zie b wQ>>=fun wV=>some (wV,0)
def zeY (number:Int) (wire:Int):Option Bool:=some ((decide (number>=1))&&((decide (number<=536870911))&&((wire==0)|| ((wire==1)|| ((wire==2)|| (wire==5))))))
def zfA (b:List UInt8) (wU:Int):Option (Int×Int×Int×Int):=zaD b wU>>=fun rv=>if (rv.2.2 !=0) then some (0,0,0,rv.2.2) else (if (decide (rv.1>4294967295)) then some true else zeY (i64.wrap (u64.wrap (Int.tdiv rv.1 8))) (i64.wrap (Int.tmod rv.1 8))>>=fun wQ=>some (!wQ))>>=fun g=>if g then some (0,0,0,5) else some ((i64.wrap (u64.wrap (Int.tdiv rv.1 8))),(i64.wrap (Int.tmod rv.1 8)),rv.2.1,0)
def ztt (c:Int):Option (Int×Int):=if ((shrI .u8 c 7)==0) then some (1,(u32.wrap c)) else if ((shrI .u8 c 5)==6) then some (2,(u32.wrap (andI .u8 c 31))) else if ((shrI .u8 c 4)==14) then some (3,(u32.wrap (andI .u8 c 15))) else if ((shrI .u8 c 3)==30) then some (4,(u32.wrap (andI .u8 c 7))) else some (0,0)
def znS (wv:Int):Option Int:=if ((shrI .u32 wv 7)==0) then some 1 else if ((shrI .u32 wv 11)==0) then some 2 else if ((shrI .u32 wv 11)==27) then some 0 else if ((shrI .u32 wv 16)==0) then some 3 else if (decide (wv<=1114111)) then some 4 else some 0
def zgr (v2:List UInt8) (wv:Int) (v3:Int):Option ((Int×Int)⊕(Int⊕Unit)):=if (decide (v3<(v2.length:Int))) then (idx v2 v3>>=fun x2=>if ((shrI .u8 (x2.toNat:Int) 6) !=2) then some (.inr (.inr ())) else some (.inl ((orI .u32 (shlI .u32 wv 6) (u32.wrap (andI .u8 (x2.toNat:Int) 63))),(i64.wrap (v3+1))))) else some (.inr (.inl wv))
def zcq (v2:List UInt8) (wv:Int) (v3:Int):Option (Int⊕Unit):=zX (fun s=>zgr v2 s.1 s.2) (wv,v3)
def znR (b:List UInt8):Option Int:=if ((b.length:Int)==0) then some 0 else (idx b 0>>=fun x=>ztt (x.toNat:Int)>>=fun rv=>if ((rv.1==0)|| (decide (rv.1>(b.length:Int)))) then some 0 else (cut b 1 rv.1>>=fun v2=>zcq v2 rv.2 0>>=fun q=>match q with | .inl u=>(znS u>>=fun wQ=>if (rv.1 !=wQ) then some 0 else some rv.1) | .inr u2=>(some 0)))
theorem zvr (h:zgr v2 wv v3=some (.inl (wv',v3'))):zcq v2 wv v3=zcq v2 wv' v3':=zB h
theorem zoM (h:zgr v2 wv v3=some (.inr wW)):zcq v2 wv v3=some wW:=zC h
def zhn (b:List UInt8) (wU:Int) (points:Int) (size:Int):Option ((Int×Int×Int)⊕(Int×Int)):=if (decide (size>0)) then (cut b (i64.wrap (wU+size)) (b.length:Int)>>=fun v=>znR v>>=fun wQ=>some (.inl ((i64.wrap (wU+size)),(i64.wrap (points+1)),wQ))) else some (.inr (wU,points))
def zho (b:List UInt8) (wU:Int) (points:Int) (size:Int):Option (Int×Int):=zX (fun s=>zhn b s.1 s.2.1 s.2.2) (wU,points,size)
def zqr (b:List UInt8):Option (Int×Int):=znR b>>=fun rv=>zho b 0 0 rv>>=fun q=>some (q.1,q.2)
theorem zvs (h:zhn b wU points size=some (.inl (atv',points',size'))):zho b wU points size=zho b atv' points' size':=zB h
theorem zvt (h:zhn b wU points size=some (.inr wW)):zho b wU points size=some wW:=zC h
def znQ (b:List UInt8):Option Int:=zqr b>>=fun rv=>some rv.1
def zld (b:List UInt8):Option Bool:=znQ b>>=fun rv=>some (rv==(b.length:Int))
def zgc (rv:Int):Option (List UInt8):=if ((decide (rv<0))|| ((decide (rv>1114111))|| ((decide (rv>=55296))&&(decide (rv<=57343))))) then some [] else if (decide (rv<128)) then (zii (u8.wrap rv)>>=fun y=>some ([y]:List UInt8)) else if (decide (rv<2048)) then (zii (u8.wrap (i64.wrap (192+(i64.wrap (Int.tdiv rv 64)))))>>=fun y2=>zii (u8.wrap (i64.wrap (128+(Int.tmod rv 64))))>>=fun y3=>some ([y2,y3]:List UInt8)) else if (decide (rv<65536)) then (zii (u8.wrap (i64.wrap (224+(i64.wrap (Int.tdiv rv 4096)))))>>=fun y4=>zii (u8.wrap (i64.wrap (128+(Int.tmod (i64.wrap (Int.tdiv rv 64)) 64))))>>=fun y5=>zii (u8.wrap (i64.wrap (128+(Int.tmod rv 64))))>>=fun y6=>some ([y4,y5,y6]:List UInt8)) else zii (u8.wrap (i64.wrap (240+(i64.wrap (Int.tdiv rv 262144)))))>>=fun y7=>zii (u8.wrap (i64.wrap (128+(Int.tmod (i64.wrap (Int.tdiv rv 4096)) 64))))>>=fun y8=>zii (u8.wrap (i64.wrap (128+(Int.tmod (i64.wrap (Int.tdiv rv 64)) 64))))>>=fun y9=>zii (u8.wrap (i64.wrap (128+(Int.tmod rv 64))))>>=fun y10=>some ([y7,y8,y9,y10]:List UInt8)
def zbO (wU:Int) (b:List UInt8) (n:Int) (wQ:Int) (i:Int):Option ((Int×Int)⊕Int):=if (decide (i<n)) then (idx b (i64.wrap (wU+i))>>=fun x3=>some (.inl ((i64.wrap ((i64.wrap (64*wQ))+(Int.tmod (i64.wrap (x3.toNat:Int)) 64))),(i64.wrap (i+1))))) else some (.inr wQ)
def zaU (wU:Int) (b:List UInt8) (n:Int) (wQ:Int) (i:Int):Option Int:=zX (fun s=>zbO wU b n s.1 s.2) (wQ,i)
def zcO (wU:Int) (b:List UInt8) (n:Int):Option (Int⊕(Unit⊕Int)):=if ((decide (n<=4))&&(decide ((i64.wrap (wU+n))<=(b.length:Int)))) then (idx b wU>>=fun x=>((if (decide (n>1)) then (idx ([0,0,32,16,8]:List Int) n>>=fun x2=>remI (i64.wrap (x.toNat:Int)) x2>>=fun v3=>some v3) else (some (i64.wrap (x.toNat:Int))) :Option Int))>>=fun p=>zaU wU b n p 1>>=fun q=>zgc q>>=fun kc=>cut b wU (i64.wrap (wU+n))>>=fun v4=>if (kc==v4) then some (.inr (.inr n)) else some (.inl (i64.wrap (n+1)))) else some (.inr (.inl ()))
def zed (wU:Int) (b:List UInt8) (n:Int):Option (Unit⊕Int):=zX (fun s=>zcO wU b s) n
def zfB (b:List UInt8) (wU:Int):Option Int:=zed wU b 1>>=fun q2=>match q2 with | .inl u=>(some 0) | .inr u2=>(some u2)
theorem zmJ (h:zbO wU b n wQ i=some (.inl (rv2',i'))):zaU wU b n wQ i=zaU wU b n rv2' i':=zB h
theorem zmK (h:zbO wU b n wQ i=some (.inr wW)):zaU wU b n wQ i=some wW:=zC h
theorem zmI (h:zcO wU b n=some (.inl n')):zed wU b n=zed wU b n':=zB h
theorem zfO (h:zcO wU b n=some (.inr wW)):zed wU b n=some wW:=zC h
def zbA (b:List UInt8) (ke:Int) (wU:Int) (count:Int):Option ((Int×Int)⊕(Int×Int)):=zfB b wU>>=fun rv=>if ((rv==0)|| (decide ((i64.wrap (wU+rv))>ke))) then some (.inr (wU,count)) else some (.inl ((i64.wrap (wU+rv)),(i64.wrap (count+1))))
def zcr (b:List UInt8) (ke:Int) (wU:Int) (count:Int):Option (Int×Int):=zX (fun s=>zbA b ke s.1 s.2) (wU,count)
def zeZ (b:List UInt8) (ke:Int):Option (Int×Int):=zcr b ke 0 0>>=fun q=>some (q.1,q.2)
theorem zlS (h:zbA b ke wU count=some (.inl (atv',count'))):zcr b ke wU count=zcr b ke atv' count':=zB h
theorem zlT (h:zbA b ke wU count=some (.inr wW)):zcr b ke wU count=some wW:=zC h
def zcG (b:List UInt8):Option Bool:=zeZ b (b.length:Int)>>=fun rv=>some (rv.1==(b.length:Int))
def zir (wire:Int) (b:List UInt8):Option (Int×Int×Int):=if (wire==0) then (zix b>>=fun rv=>some (0,rv.1,rv.2)) else (((if (wire==1) then some (0,0,8) else (if (wire==5) then some (0,0,4) else if (wire==2) then (zgs b>>=fun wQ=>some (wQ.2.1,wQ.2.2,wQ.1)) else some (0,0,0)) :Option (Int×Int×Int)))>>=fun p=>if (p.2.1 !=0) then some (0,0,p.2.1) else if (decide (p.2.2>(u64.wrap (i64.wrap ((b.length:Int) - p.1))))) then some (0,0,3) else some (p.1,(i64.wrap (p.1+(i64.wrap p.2.2))),0))
def zfK (b:List UInt8) (km:Int):Option (zj×Int):=if ((decide (km<0))|| (decide (km>=(b.length:Int)))) then some ((⟨0,0,0,0,0⟩:zj),2) else (cut b km (b.length:Int)>>=fun v2=>zql v2>>=fun rv=>if (rv.2.2 !=0) then some ((⟨0,0,0,0,0⟩:zj),rv.2.2) else (cut b (i64.wrap (km+rv.2.1)) (b.length:Int)>>=fun v3=>zir rv.1.Wire v3>>=fun wQ=>if (wQ.2.2 !=0) then some ((⟨0,0,0,0,0⟩:zj),wQ.2.2) else (some ((⟨rv.1.Number,rv.1.Wire,km,(i64.wrap ((i64.wrap (km+rv.2.1))+wQ.1)),(i64.wrap ((i64.wrap (km+rv.2.1))+wQ.2.1))⟩:zj),0))))
def zkj (wire:Int) (value:List UInt8):Option Bool:=if (wire==2) then some true else zir wire value>>=fun rv=>some ((rv.2.2==0)&&(rv.2.1==(value.length:Int)))
def zjC (b:List UInt8) (number:Int) (wire:Int) (value:List UInt8):Option ((List UInt8)×Int):=zoA ([]:List UInt8) (⟨number,wire⟩:zV)>>=fun rv=>(if (rv.2 !=0) then some true else zkj wire value>>=fun wQ=>some (!wQ))>>=fun g=>if g then some ([],2) else if (wire==2) then (zie rv.1 (u64.wrap (value.length:Int))>>=fun wV=>zaF ([b,wV,value]:List (List UInt8))>>=fun kc=>some (kc,0)) else zaF ([b,rv.1,value]:List (List UInt8))>>=fun rv5=>some (rv5,0)
def zlA (b:List UInt8) (number:Int) (value:List UInt8):Option (List UInt8):=zjC b number 2 value>>=fun rv=>if (rv.2 !=0) then (zaF ([b]:List (List UInt8))>>=fun wQ=>some wQ) else some rv.1
def zfC (wire:Int) (value:List UInt8):Option Bool:=if (wire==0) then (zaD value 0>>=fun rv=>some ((rv.2.2==0)&&(rv.2.1==(value.length:Int)))) else (some ((wire==2)|| (if (wire==1) then ((value.length:Int)==8)|| ((wire==5)&&((value.length:Int)==4)) else (wire==5)&&((value.length:Int)==4))))
def zem (b:List UInt8) (km:Int):Option (zj×Int):=if ((decide (km<0))|| (decide (km>=(b.length:Int)))) then some ((⟨0,0,0,0,0⟩:zj),2) else (zfA b km>>=fun rv=>if (rv.2.2.2 !=0) then some ((⟨0,0,0,0,0⟩:zj),rv.2.2.2) else (((if (rv.2.1==5) then some 4 else (some 8) :Option Int))>>=fun p=>((if (rv.2.1==0) then (zaD b (i64.wrap (km+rv.2.2.1))>>=fun wQ=>if (wQ.2.2 !=0) then some (.inr wQ.2.2) else some (.inl wQ.2.1)) else (some (.inl p)) :Option (Int⊕Int)))>>=fun p2=>match p2 with | .inl u=>(((if (rv.2.1==2) then (zaD b (i64.wrap (km+rv.2.2.1))>>=fun wV=>if (wV.2.2 !=0) then some (.inr wV.2.2) else if (decide (wV.1>(u64.wrap (i64.wrap ((i64.wrap ((b.length:Int) - (i64.wrap (km+rv.2.2.1)))) - wV.2.1))))) then some (.inr 3) else some (.inl ((i64.wrap ((i64.wrap ((b.length:Int) - (i64.wrap (km+rv.2.2.1)))) - wV.2.1)),(i64.wrap wV.1),(i64.wrap ((i64.wrap (km+rv.2.2.1))+wV.2.1))))) else (some (.inl ((i64.wrap ((b.length:Int) - (i64.wrap (km+rv.2.2.1)))),u,(i64.wrap (km+rv.2.2.1))))) :Option ((Int×Int×Int)⊕Int)))>>=fun p3=>match p3 with | .inl u2=>(if (decide (u2.2.1>u2.1)) then some ((⟨0,0,0,0,0⟩:zj),3) else some ((⟨rv.1,rv.2.1,km,u2.2.2,(i64.wrap (u2.2.2+u2.2.1))⟩:zj),0)) | .inr u3=>(some ((⟨0,0,0,0,0⟩:zj),u3))) | .inr u4=>(some ((⟨0,0,0,0,0⟩:zj),u4))))
def zoi (wv:Int):Option Int:=some (if (1:Int)<wv then 1 else wv)
def zhf (k:Int) (wv:Int):Option (Int×Int):=((if (k==1) then some (k==1) else (some (k==8)) :Option Bool))>>=fun p=>if p then (zjT wv>>=fun rv=>zjU rv>>=fun wQ=>some (wQ,0)) else ((if (k==3) then some (k==3) else (if (k==5) then some (k==5) else if (k==9) then some (k==9) else if (k==10) then some (k==10) else some (k==11)) :Option Bool))>>=fun p2=>if p2 then (zjp wv>>=fun wV=>some ((u64.wrap wV),0)) else if (k==7) then (zoi wv>>=fun kc=>some (kc,0)) else ((if (k==2) then some (k==2) else (if (k==4) then some (k==4) else if (k==6) then some (k==6) else if (k==12) then some (k==12) else if (k==13) then some (k==13) else some (k==14)) :Option Bool))>>=fun p3=>if p3 then some (wv,0) else some (0,2)
def zls:Option (List (Int×zq)):=some (mput (mput (mput (mput (mput (mput (mput (mput (mput (mput (mput (mput (mput (mput (mput (mput (mput ([]:List (Int×zq)) 1 (⟨[105,110,116,51,50],0⟩:zq)) 2 (⟨[105,110,116,54,52],0⟩:zq)) 3 (⟨[117,105,110,116,51,50],0⟩:zq)) 4 (⟨[117,105,110,116,54,52],0⟩:zq)) 5 (⟨[115,105,110,116,51,50],0⟩:zq)) 6 (⟨[115,105,110,116,54,52],0⟩:zq)) 7 (⟨[98,111,111,108],0⟩:zq)) 8 (⟨[101,110,117,109],0⟩:zq)) 9 (⟨[102,105,120,101,100,51,50],5⟩:zq)) 10 (⟨[115,102,105,120,101,100,51,50],5⟩:zq)) 11 (⟨[102,108,111,97,116],5⟩:zq)) 12 (⟨[102,105,120,101,100,54,52],1⟩:zq)) 13 (⟨[115,102,105,120,101,100,54,52],1⟩:zq)) 14 (⟨[100,111,117,98,108,101],1⟩:zq)) 15 (⟨[115,116,114,105,110,103],2⟩:zq)) 16 (⟨[98,121,116,101,115],2⟩:zq)) 17 (⟨[109,101,115,115,97,103,101],2⟩:zq))
def zpG:Option (List Int):=zls>>=fun rv=>znt rv>>=fun v=>some v
def zkU (k:Int):Option (Int×Int):=zls>>=fun rv=>if (!(mget rv k).isSome) then some (0,2) else some (((mget rv k).getD (⟨[],0⟩:zq)).wire,0)
def zdK (k:Int):Option Bool:=some ((decide (k>=1))&&(decide (k<=17)))
def zim (k:Int):Option Bool:=zkU k>>=fun rv=>some ((rv.2==0)&&(rv.1 !=2))
def zdh (k:Int):Option Int:=if (decide (k>=15)) then some 2 else if (decide (k>=12)) then some 1 else if (decide (k>=9)) then some 5 else some 0
def zbe (k:Int):Option Bool:=some ((decide (k>=1))&&(decide (k<=14)))
def zdJ (k:Int) (wv:Int):Option Int:=((if (k==1) then some (k==1) else (some (k==8)) :Option Bool))>>=fun p=>if p then (zeE wv>>=fun rv=>zfy rv>>=fun wQ=>some wQ) else ((if (k==3) then some (k==3) else (if (k==5) then some (k==5) else if (k==9) then some (k==9) else if (k==10) then some (k==10) else some (k==11)) :Option Bool))>>=fun p2=>if p2 then some (Int.tmod wv 4294967296) else if (k==7) then if (decide (wv>0)) then some 1 else (some 0) else some wv
def zgi (c:Int):Option Bool:=some ((decide (c>=48))&&(decide (c<=57)))
def zgK (c:Int):Option Bool:=some (if (decide (c>=97)) then (decide (c<=122))|| (if (decide (c>=65)) then (decide (c<=90))|| (c==95) else c==95) else (if (decide (c>=65)) then (decide (c<=90))|| (c==95) else c==95))
def zdT (name:Str) (v2:Int):Option (Int⊕(Unit⊕Unit)):=if (decide (v2<(name.length:Int))) then ((idx name v2>>=fun c2=>zgK (c2.toNat:Int)>>=fun wQ=>if (!wQ) then (idx name v2>>=fun c3=>zgi (c3.toNat:Int)>>=fun wV=>some (!wV)) else some false)>>=fun g2=>if g2 then some (.inr (.inr ())) else some (.inl (i64.wrap (v2+1)))) else some (.inr (.inl ()))
def zeR (name:Str) (v2:Int):Option (Unit⊕Unit):=zX (fun s=>zdT name s) v2
def zgQ (name:Str):Option Bool:=(if (name==[]) then some true else if (decide ((name.length:Int)>60)) then some true else idx name 0>>=fun c=>zgi (c.toNat:Int)>>=fun rv=>some rv)>>=fun g=>if g then some false else (zeR name 0>>=fun q=>match q with | .inl u=>(some true) | .inr u2=>(some false))
theorem zqj (h:zdT name v2=some (.inl v2')):zeR name v2=zeR name v2':=zB h
theorem zko (h:zdT name v2=some (.inr wW)):zeR name v2=some wW:=zC h
def zgL (n:Int):Option Bool:=some ((decide (n>=1))&&((decide (n<=536870911))&&((decide (n<19000))|| (decide (n>19999)))))
def zhk (f:za):Option Bool:=(if f.Repeated then (zim f.Kind>>=fun rv=>some rv) else some false)>>=fun g=>some g
def zfk (c:zap) (f:za):Option Bool:=if (f.Kind==17) then some ((decide (f.Of>=0))&&(decide (f.Of<c.size))) else some (f.Of==0)
def zfj (c:zap) (message:Int) (f:za):Option (Int×(List (zv×Bool))×(List (zh×Bool))):=zgQ f.Name>>=fun rv=>if (!rv) then some (5,c.names,c.numbers) else if ((mget c.names (⟨message,f.Name⟩:zv)).getD false) then some (6,c.names,c.numbers) else zgL f.Number>>=fun wQ=>if (!wQ) then some (7,c.names,c.numbers) else if ((mget c.numbers (⟨message,f.Number⟩:zh)).getD false) then some (8,c.names,c.numbers) else zbX c.kinds f.Kind>>=fun wV=>if (!wV) then some (9,c.names,c.numbers) else (if f.Packed then (zhk f>>=fun kc=>some (!kc)) else some false)>>=fun g=>if g then some (10,c.names,c.numbers) else zfk c f>>=fun rv5=>if (!rv5) then some (11,c.names,c.numbers) else some (0,(mput c.names (⟨message,f.Name⟩:zv) true),(mput c.numbers (⟨message,f.Number⟩:zh) true))
def zef (c:zap) (m:ze):Option (Int×(List (zv×Bool))×(List (zh×Bool))):=zgQ m.Name>>=fun rv=>if (!rv) then some (2,c.names,c.numbers) else if ((mget c.names (⟨(-1),m.Name⟩:zv)).getD false) then some (3,c.names,c.numbers) else if (decide ((m.Fields.length:Int)>200)) then some (4,c.names,c.numbers) else some (0,(mput c.names (⟨(-1),m.Name⟩:zv) true),c.numbers)
def zcj (i:Int) (sv:List ze) (n3:Int) (k:Int):Option ((Int×Int)⊕Int):=idx sv i>>=fun x3=>if (decide (k<(x3.Fields.length:Int))) then (idx sv i>>=fun x4=>idx x4.Fields k>>=fun x5=>some (.inl ((i64.wrap (n3+(i64.wrap (Int.tdiv (x5.Name.length:Int) 100)))),(i64.wrap (k+1))))) else some (.inr n3)
def zdq (i:Int) (sv:List ze) (n3:Int) (k:Int):Option Int:=zX (fun s=>zcj i sv s.1 s.2) (n3,k)
def zci (sv:List ze) (n:Int) (i:Int):Option ((Int×Int)⊕Int):=if (decide (i<(sv.length:Int))) then (idx sv i>>=fun x=>idx sv i>>=fun x2=>zdq i sv (i64.wrap ((i64.wrap ((i64.wrap (n+1))+(i64.wrap (Int.tdiv (x.Name.length:Int) 100))))+(x2.Fields.length:Int))) 0>>=fun q=>some (.inl (q,(i64.wrap (i+1))))) else some (.inr n)
def zdp (sv:List ze) (n:Int) (i:Int):Option Int:=zX (fun s=>zci sv s.1 s.2) (n,i)
def zgb (sv:List ze):Option Bool:=zdp sv 0 0>>=fun q2=>some (decide (q2<=500))
theorem znl (h:zcj i sv n3 k=some (.inl (n3',k'))):zdq i sv n3 k=zdq i sv n3' k':=zB h
theorem znm (h:zcj i sv n3 k=some (.inr wW)):zdq i sv n3 k=some wW:=zC h
theorem znj (h:zci sv n i=some (.inl (n',i'))):zdp sv n i=zdp sv n' i':=zB h
theorem znk (h:zci sv n i=some (.inr wW)):zdp sv n i=some wW:=zC h
def zcE (rv:List Int) (sv:List ze) (v2:Int) (x:ze) (v3:Int) (f6:List (zv×Bool)) (f7:List (zh×Bool)):Option ((Int×(List (zv×Bool))×(List (zh×Bool)))⊕(((List (zv×Bool))×(List (zh×Bool)))⊕(Int×Int))):=if (decide (v3<(x.Fields.length:Int))) then (idx x.Fields v3>>=fun x2=>zfj (⟨(sv.length:Int),rv,f6,f7⟩:zap) v2 x2>>=fun rv5=>if (rv5.1 !=0) then some (.inr (.inr (v3,rv5.1))) else some (.inl ((i64.wrap (v3+1)),rv5.2.1,rv5.2.2))) else some (.inr (.inl (f6,f7)))
def zdz (rv:List Int) (sv:List ze) (v2:Int) (x:ze) (v3:Int) (f6:List (zv×Bool)) (f7:List (zh×Bool)):Option (((List (zv×Bool))×(List (zh×Bool)))⊕(Int×Int)):=zX (fun s=>zcE rv sv v2 x s.1 s.2.1 s.2.2) (v3,f6,f7)
def zbf (rv:List Int) (sv:List ze) (v2:Int) (f:List (zv×Bool)) (f2:List (zh×Bool)):Option ((Int×(List (zv×Bool))×(List (zh×Bool)))⊕(Unit⊕(Int×Int×Int))):=if (decide (v2<(sv.length:Int))) then (idx sv v2>>=fun x=>zef (⟨(sv.length:Int),rv,f,f2⟩:zap) x>>=fun wV=>if (wV.1 !=0) then some (.inr (.inr (v2,(-1),wV.1))) else (zdz rv sv v2 x 0 wV.2.1 wV.2.2>>=fun q=>match q with | .inl u=>(some (.inl ((i64.wrap (v2+1)),u.1,u.2))) | .inr u2=>(some (.inr (.inr (v2,u2.1,u2.2)))))) else some (.inr (.inl ()))
def zfv (rv:List Int) (sv:List ze) (v2:Int) (f:List (zv×Bool)) (f2:List (zh×Bool)):Option (Unit⊕(Int×Int×Int)):=zX (fun s=>zbf rv sv s.1 s.2.1 s.2.2) (v2,f,f2)
def ziW (sv:List ze):Option (zao×Int):=if ((decide ((sv.length:Int)<1))|| (decide ((sv.length:Int)>100))) then some ((⟨(-1),(-1),1⟩:zao),9) else (zpG>>=fun rv=>zfv rv sv 0 ([]:List (zv×Bool)) ([]:List (zh×Bool))>>=fun q2=>match q2 with | .inl u3=>(some ((⟨0,0,0⟩:zao),0)) | .inr u4=>(some ((⟨u4.1,u4.2.1,u4.2.2⟩:zao),9)))
theorem zrj {f6:List (zv×Bool)} {f7:List (zh×Bool)} (h:zcE rv sv v2 x v3 f6 f7=some (.inl (v3',f6',f7'))):zdz rv sv v2 x v3 f6 f7=zdz rv sv v2 x v3' f6' f7':=zB h
theorem zkI {f6:List (zv×Bool)} {f7:List (zh×Bool)} (h:zcE rv sv v2 x v3 f6 f7=some (.inr wW)):zdz rv sv v2 x v3 f6 f7=some wW:=zC h
theorem zri {f2:List (zh×Bool)} (h:zbf rv sv v2 f f2=some (.inl (v2',f',f2'))):zfv rv sv v2 f f2=zfv rv sv v2' f' f2':=zB h
theorem zeI {f2:List (zh×Bool)} (h:zbf rv sv v2 f f2=some (.inr wW)):zfv rv sv v2 f f2=some wW:=zC h
def ziX (sv:List ze):Option Bool:=ziW sv>>=fun rv=>some (rv.2==0)
def zbP (sv:Str) (i:Int):Option (Int⊕(Unit⊕Unit)):=if (decide (i<(sv.length:Int))) then (idx sv i>>=fun c=>if (!(if (decide ((c.toNat:Int)>=65)) then (decide ((c.toNat:Int)<=90))|| (if (decide ((c.toNat:Int)>=97)) then (decide ((c.toNat:Int)<=122))|| (((c.toNat:Int)==95)|| ((decide (i>0))&&((decide ((c.toNat:Int)>=48))&&(decide ((c.toNat:Int)<=57))))) else (((c.toNat:Int)==95)|| ((decide (i>0))&&((decide ((c.toNat:Int)>=48))&&(decide ((c.toNat:Int)<=57)))))) else (if (decide ((c.toNat:Int)>=97)) then (decide ((c.toNat:Int)<=122))|| (((c.toNat:Int)==95)|| ((decide (i>0))&&((decide ((c.toNat:Int)>=48))&&(decide ((c.toNat:Int)<=57))))) else (((c.toNat:Int)==95)|| ((decide (i>0))&&((decide ((c.toNat:Int)>=48))&&(decide ((c.toNat:Int)<=57)))))))) then some (.inr (.inr ())) else some (.inl (i64.wrap (i+1)))) else some (.inr (.inl ()))
def zcP (sv:Str) (i:Int):Option (Unit⊕Unit):=zX (fun s=>zbP sv s) i
def zen (sv:Str):Option Bool:=zcP sv 0>>=fun q=>match q with | .inl u=>(some ((decide ((sv.length:Int)>=1))&&(decide ((sv.length:Int)<=60)))) | .inr u2=>(some false)
theorem zmL (h:zbP sv i=some (.inl i')):zcP sv i=zcP sv i':=zB h
theorem zhI (h:zbP sv i=some (.inr wW)):zcP sv i=some wW:=zC h
def zbE (i:Int) (k:Int) (sv:List ze) (x2:za) (name:Bool) (number:Bool) (j:Int):Option ((Bool×Bool×Int)⊕(Bool×Bool)):=if (decide (j<k)) then ((if name then some true else idx sv i>>=fun x3=>idx x3.Fields j>>=fun x4=>some (x4.Name==x2.Name))>>=fun g=>(if number then some true else idx sv i>>=fun x5=>idx x5.Fields j>>=fun x6=>some (x6.Number==x2.Number))>>=fun g2=>some (.inl (g,g2,(i64.wrap (j+1))))) else some (.inr (name,number))
def zcu (i:Int) (k:Int) (sv:List ze) (x2:za) (name:Bool) (number:Bool) (j:Int):Option (Bool×Bool):=zX (fun s=>zbE i k sv x2 s.1 s.2.1 s.2.2) (name,number,j)
def zfb (sv:List ze) (i:Int) (k:Int):Option Int:=idx sv i>>=fun x=>idx x.Fields k>>=fun x2=>zcu i k sv x2 false false 0>>=fun q=>zen x2.Name>>=fun rv=>if (!rv) then some 5 else (if q.1 then some 6 else (if ((decide (x2.Number<1))|| ((decide (x2.Number>536870911))|| ((decide (x2.Number>=19000))&&(decide (x2.Number<20000))))) then some 7 else (if q.2 then some 8 else (zdK x2.Kind>>=fun wQ=>if (!wQ) then some 9 else ((if x2.Packed then (if x2.Repeated then (zbe x2.Kind>>=fun wV=>some (!wV)) else some (!false)) else some false)>>=fun g3=>if g3 then some 10 else (if (if (x2.Kind==17) then (decide (x2.Of<0))|| ((decide (x2.Of>=(sv.length:Int)))|| ((x2.Kind !=17)&&(x2.Of !=0))) else (x2.Kind !=17)&&(x2.Of !=0)) then some 11 else some 0))))))
theorem zlY (h:zbE i k sv x2 name number j=some (.inl (name',number',j'))):zcu i k sv x2 name number j=zcu i k sv x2 name' number' j':=zB h
theorem zlZ (h:zbE i k sv x2 name number j=some (.inr wW)):zcu i k sv x2 name number j=some wW:=zC h
def zbC (i:Int) (sv:List ze) (twice:Bool) (k:Int):Option ((Bool×Int)⊕Bool):=if (decide (k<i)) then ((if twice then some true else idx sv k>>=fun x=>idx sv i>>=fun x2=>some (x.Name==x2.Name))>>=fun g=>some (.inl (g,(i64.wrap (k+1))))) else some (.inr twice)
def zcs (i:Int) (sv:List ze) (twice:Bool) (k:Int):Option Bool:=zX (fun s=>zbC i sv s.1 s.2) (twice,k)
def zbD (i:Int) (sv:List ze) (k2:Int):Option (Int⊕(Unit⊕(Int×Int))):=idx sv i>>=fun x5=>if (decide (k2<(x5.Fields.length:Int))) then (zfb sv i k2>>=fun wQ=>if (decide (wQ>0)) then some (.inr (.inr (k2,wQ))) else some (.inl (i64.wrap (k2+1)))) else some (.inr (.inl ()))
def zct (i:Int) (sv:List ze) (k2:Int):Option (Unit⊕(Int×Int)):=zX (fun s=>zbD i sv s) k2
def zbB (sv:List ze) (i:Int):Option (Int⊕(Unit⊕(Int×Int×Int))):=if (decide (i<(sv.length:Int))) then (zcs i sv false 0>>=fun q=>idx sv i>>=fun x3=>zen x3.Name>>=fun rv=>if (!rv) then some (.inr (.inr (i,(-1),2))) else (if q then some (.inr (.inr (i,(-1),3))) else (idx sv i>>=fun x4=>if (decide ((x4.Fields.length:Int)>200)) then some (.inr (.inr (i,(-1),4))) else (zct i sv 0>>=fun q2=>match q2 with | .inl u=>(some (.inl (i64.wrap (i+1)))) | .inr u2=>(some (.inr (.inr (i,u2.1,u2.2)))))))) else some (.inr (.inl ()))
def zdG (sv:List ze) (i:Int):Option (Unit⊕(Int×Int×Int)):=zX (fun s=>zbB sv s) i
def zfa (sv:List ze):Option (Int×Int×Int):=if (((sv.length:Int)==0)|| (decide ((sv.length:Int)>100))) then some ((-1),(-1),1) else (zdG sv 0>>=fun q3=>match q3 with | .inl u3=>(some (0,0,0)) | .inr u4=>(some (u4.1,u4.2.1,u4.2.2)))
theorem zlV (h:zbC i sv twice k=some (.inl (twice',k'))):zcs i sv twice k=zcs i sv twice' k':=zB h
theorem zlW (h:zbC i sv twice k=some (.inr wW)):zcs i sv twice k=some wW:=zC h
theorem zlX (h:zbD i sv k2=some (.inl k2')):zct i sv k2=zct i sv k2':=zB h
theorem zhB (h:zbD i sv k2=some (.inr wW)):zct i sv k2=some wW:=zC h
theorem zlU (h:zbB sv i=some (.inl i')):zdG sv i=zdG sv i':=zB h
theorem zcf (h:zbB sv i=some (.inr wW)):zdG sv i=some wW:=zC h
def ziV (f:za) (v:Int):Option Bool:=some (f.Number==v)
def zH (sv:List za) (v:Int) (v2:Int):Option (Int⊕(Unit⊕Int)):=if (decide (v2<(sv.length:Int))) then (idx sv v2>>=fun x=>ziV x v>>=fun rv=>if rv then some (.inr (.inr v2)) else some (.inl (i64.wrap (v2+1)))) else some (.inr (.inl ()))
def zI (sv:List za) (v:Int) (v2:Int):Option (Unit⊕Int):=zX (fun s=>zH sv v s) v2
def zbg (sv:List za) (v:Int):Option Int:=zI sv v 0>>=fun q=>match q with | .inl u=>(some (-1)) | .inr u2=>(some u2)
theorem zcZ (h:zH sv v v2=some (.inl v2')):zI sv v v2=zI sv v v2':=zB h
theorem zaL (h:zH sv v v2=some (.inr wW)):zI sv v v2=some wW:=zC h
def zfV (m:ze) (v:Int):Option (Int×Bool):=zbg m.Fields v>>=fun rv=>some ((if rv<0 then 0 else rv),(decide (rv>=0)))
def zhY (m:ze) (number:Int):Option (Int×Bool):=zfV m number>>=fun rv=>some (rv.1,rv.2)
def zbF (m:ze) (number:Int) (i:Int):Option (Int⊕(Unit⊕Int)):=if (decide (i<(m.Fields.length:Int))) then (idx m.Fields i>>=fun x=>if (x.Number==number) then some (.inr (.inr i)) else some (.inl (i64.wrap (i+1)))) else some (.inr (.inl ()))
def zdH (m:ze) (number:Int) (i:Int):Option (Unit⊕Int):=zX (fun s=>zbF m number s) i
def zfc (m:ze) (number:Int):Option Int:=zdH m number 0>>=fun q=>match q with | .inl u=>(some (-1)) | .inr u2=>(some u2)
theorem zma (h:zbF m number i=some (.inl i')):zdH m number i=zdH m number i':=zB h
theorem zhC (h:zbF m number i=some (.inr wW)):zdH m number i=some wW:=zC h
def zbs (i:Int) (m:ze) (out:List Int) (k:Int):Option (Int⊕Int):=(if (decide (k<(out.length:Int))) then (idx out k>>=fun x=>idx m.Fields x>>=fun x2=>idx m.Fields i>>=fun x3=>some (decide (x2.Number<=x3.Number))) else some false)>>=fun g=>if g then some (.inl (i64.wrap (k+1))) else some (.inr k)
def zcc (i:Int) (m:ze) (out:List Int) (k:Int):Option Int:=zX (fun s=>zbs i m out s) k
def zbr (m:ze) (out:List Int) (i:Int):Option (((List Int)×Int)⊕(List Int)):=if (decide (i<(m.Fields.length:Int))) then (zcc i m out 0>>=fun q=>cut out 0 q>>=fun v2=>app 8 ([]:List Int) v2>>=fun v3=>app 8 v3 ([i]:List Int)>>=fun v4=>cut out q (out.length:Int)>>=fun v5=>app 8 v4 v5>>=fun v6=>some (.inl (v6,(i64.wrap (i+1))))) else some (.inr out)
def zcb (m:ze) (out:List Int) (i:Int):Option (List Int):=zX (fun s=>zbr m s.1 s.2) (out,i)
def zeF (m:ze):Option (List Int):=zcb m [] 0>>=fun q2=>some q2
theorem zlk {i:Int} {m:ze} {out:List Int} {k:Int} {k':Int} (h:zbs i m out k=some (.inl k')):zcc i m out k=zcc i m out k':=zB h
theorem zhe {i:Int} {m:ze} {out:List Int} {k:Int} {wW:Int} (h:zbs i m out k=some (.inr wW)):zcc i m out k=some wW:=zC h
theorem zli {m:ze} {out:List Int} {i:Int} {out':List Int} {i':Int} (h:zbr m out i=some (.inl (out',i'))):zcb m out i=zcb m out' i':=zB h
theorem zlj {m:ze} {out:List Int} {i:Int} {wW:List Int} (h:zbr m out i=some (.inr wW)):zcb m out i=some wW:=zC h
def zfd (sv:List ze):Option Bool:=zfa sv>>=fun rv=>some (rv.2.2==0)
def zgE (k:Int):Option (Int×Int):=((if (k==1) then some (k==1) else (if (k==2) then some (k==2) else if (k==3) then some (k==3) else if (k==4) then some (k==4) else if (k==5) then some (k==5) else if (k==6) then some (k==6) else if (k==7) then some (k==7) else some (k==8)) :Option Bool))>>=fun p=>if p then some (0,0) else ((if (k==9) then some (k==9) else (if (k==10) then some (k==10) else some (k==11)) :Option Bool))>>=fun p2=>if p2 then some (4,0) else if (k==12) then if (k==12) then some (8,0) else (some (0,2)) else if (k==13) then if (k==13) then some (8,0) else (some (0,2)) else if (k==14) then some (8,0) else some (0,2)
def ziU (b:List UInt8):Option (Int×Int):=zgs b>>=fun rv=>if ((rv.2.2 !=0)|| (rv.2.1 !=(b.length:Int))) then some (0,12) else some (rv.1,0)
def ziT (k:Int) (b:List UInt8):Option (Int×Int):=zgE k>>=fun rv=>if (rv.2 !=0) then some (0,rv.2) else if (rv.1==0) then (ziU b>>=fun wQ=>some (wQ.1,wQ.2)) else if (rv.1 !=(b.length:Int)) then some (0,12) else zni b>>=fun wV=>some (wV,0)
def zkn (k:Int) (b:List UInt8):Option (Int×Int):=ziT k b>>=fun rv=>if (rv.2 !=0) then some (0,rv.2) else zhf k rv.1>>=fun wQ=>some (wQ.1,wQ.2)
def zjG (k:Int) (wv:Int):Option ((List UInt8)×Int):=zgE k>>=fun rv=>if (rv.2 !=0) then some ([],rv.2) else zhf k wv>>=fun wQ=>if (rv.1==0) then (zie ([]:List UInt8) wQ.1>>=fun wV=>some (wV,wQ.2)) else zjS wQ.1 rv.1>>=fun kc=>some (kc,wQ.2)
def zhj (k:Int) (wv:Int):Option Int:=zgE k>>=fun rv=>if ((rv.2 !=0)|| (rv.1 !=0)) then some rv.1 else zhf k wv>>=fun wQ=>znh wQ.1>>=fun wV=>some wV
def zeo (k:Int) (b:List UInt8):Option (Int×Int):=zbe k>>=fun rv=>if (!rv) then some (0,2) else zdh k>>=fun wQ=>zfC wQ b>>=fun wV=>if (!wV) then some (0,12) else zfz b>>=fun kc=>zdh k>>=fun rv5=>if (rv5==0) then (zaD b 0>>=fun rv6=>zdJ k rv6.1>>=fun rv7=>some (rv7,0)) else zdJ k kc>>=fun rv8=>some (rv8,0)
def zla (k:Int):Option Int:=zhj k 0>>=fun rv=>some rv
def znH (wide:Int) (b:List UInt8):Option (Int×Int):=if (wide==1) then (zix b>>=fun rv=>some (rv.1,rv.2)) else if (decide (wide>(b.length:Int))) then some (0,3) else some (wide,0)
def zbZ {σ:Type} (kf:(Rnd σ ((List UInt8)×Int))) (rv:Int) (wR:List UInt8) (sg2:σ):Option (((List UInt8)×σ)⊕(σ⊕σ)):=if (decide ((wR.length:Int)>0)) then (znH rv wR>>=fun wQ=>cut wR 0 wQ.1>>=fun v3=>kf sg2 (v3,wQ.2)>>=fun y2=>if ((!y2.1)|| (wQ.2 !=0)) then some (.inr (.inr y2.2)) else cut wR wQ.1 (wR.length:Int)>>=fun v5=>some (.inl (v5,y2.2))) else some (.inr (.inl sg2))
def zfu {σ:Type} (kf:(Rnd σ ((List UInt8)×Int))) (rv:Int) (wR:List UInt8) (sg2:σ):Option (σ⊕σ):=zX (fun s=>zbZ kf rv s.1 s.2) (wR,sg2)
def zeO {σ:Type} (v:Int) (v2:List UInt8) (kf:Rnd σ ((List UInt8)×Int)) (sg:σ):Option σ:=zla v>>=fun rv=>if (rv==0) then (kf sg (([]:List UInt8),2)>>=fun y=>some y.2) else (zfu kf rv v2 sg>>=fun q=>match q with | .inl u=>(some u) | .inr u2=>(some u2))
theorem zrh {σ:Type} {kf:(Rnd σ ((List UInt8)×Int))} {rv:Int} {wR:List UInt8} {sg2:σ} {rest':List UInt8} {sg2':σ} (h:zbZ kf rv wR sg2=some (.inl (rest',sg2'))):zfu kf rv wR sg2=zfu kf rv rest' sg2':=zB h
theorem zhG {σ:Type} {kf:(Rnd σ ((List UInt8)×Int))} {rv:Int} {wR:List UInt8} {sg2:σ} {wW:(σ⊕σ)} (h:zbZ kf rv wR sg2=some (.inr wW)):zfu kf rv wR sg2=some wW:=zC h
def zjF (k:Int) (b:List UInt8):Option (Int×(List UInt8)):=some (k,b)
def zdY (k:Int) (f:List Int) (x:List UInt8) (x2:Int):Option ((List Int)⊕(Int×(List Int))):=if (x2 !=0) then some (.inr (x2,f)) else zkn k x>>=fun wQ=>app 8 f ([wQ.1]:List Int)>>=fun v=>some (.inl v)
def znG (k:Int) (b:List UInt8):Option ((List Int)×Int):=zjF k b>>=fun rv=>zeO rv.1 rv.2 (rnd (fun (s:List Int) (x:((List UInt8)×Int))=>zdY k s x.1 x.2)) (.inl [])>>=fun q=>match q with | .inl u=>(some (u,0)) | .inr j=>(some ([],j.1))
def zaV (b:List UInt8) (k:Int) (out:List Int) (wU:Int):Option (((List Int)×Int)⊕((List Int)⊕Int)):=if (decide (wU<(b.length:Int))) then (((if (decide (k<12)) then some 4 else (some 8) :Option Int))>>=fun p=>((if (decide (k<9)) then (zaD b wU>>=fun wQ=>if (wQ.2.2 !=0) then some (.inr wQ.2.2) else some (.inl wQ.2.1)) else (some (.inl p)) :Option (Int⊕Int)))>>=fun p2=>match p2 with | .inl u=>(if (decide ((i64.wrap (wU+u))>(b.length:Int))) then some (.inr (.inr 3)) else app 8 out ([(i64.wrap (wU+u))]:List Int)>>=fun v3=>some (.inl (v3,(i64.wrap (wU+u))))) | .inr u2=>(some (.inr (.inr u2)))) else some (.inr (.inl out))
def zcQ (b:List UInt8) (k:Int) (out:List Int) (wU:Int):Option ((List Int)⊕Int):=zX (fun s=>zaV b k s.1 s.2) (out,wU)
def zep (k:Int) (b:List UInt8):Option ((List Int)×Int):=zbe k>>=fun rv=>if (!rv) then some ([],2) else (zcQ b k [] 0>>=fun q=>match q with | .inl u3=>(some (u3,0)) | .inr u4=>(some ([],u4)))
theorem zmM {b:List UInt8} {k:Int} {out:List Int} {wU:Int} {out':List Int} {atv':Int} (h:zaV b k out wU=some (.inl (out',atv'))):zcQ b k out wU=zcQ b k out' atv':=zB h
theorem zhJ {b:List UInt8} {k:Int} {out:List Int} {wU:Int} {wW:((List Int)⊕Int)} (h:zaV b k out wU=some (.inr wW)):zcQ b k out wU=some wW:=zC h
def zgq (k:Int) (l:List Int) (b:List UInt8) (v:Int):Option (((List UInt8)×Int)⊕(List UInt8)):=if (decide (v<(l.length:Int))) then (idx l v>>=fun x=>zjG k x>>=fun wQ=>app 1 b wQ.1>>=fun v2=>some (.inl (v2,(i64.wrap (v+1))))) else some (.inr b)
def zkl (k:Int) (l:List Int) (b:List UInt8) (v:Int):Option (List UInt8):=zX (fun s=>zgq k l s.1 s.2) (b,v)
def zqi (k:Int) (l:List Int):Option ((List UInt8)×Int):=zla k>>=fun rv=>if (rv==0) then some ([],2) else zkl k l [] 0>>=fun q=>some (q,0)
theorem zvk {k:Int} {l:List Int} {b:List UInt8} {v:Int} {b':List UInt8} {v':Int} (h:zgq k l b v=some (.inl (b',v'))):zkl k l b v=zkl k l b' v':=zB h
theorem zvl {k:Int} {l:List Int} {b:List UInt8} {v:Int} {wW:List UInt8} (h:zgq k l b v=some (.inr wW)):zkl k l b v=some wW:=zC h
def zbG (b:List UInt8) (k:Int) (rv:((List Int)×Int)) (out:List Int) (i:Int):Option (((List Int)×Int)⊕(List Int)):=if (decide (i<(rv.1.length:Int))) then (((if (decide (i>0)) then (idx rv.1 (i64.wrap (i - 1))>>=fun x=>some x) else (some 0) :Option Int))>>=fun p=>idx rv.1 i>>=fun x2=>cut b p x2>>=fun v=>zeo k v>>=fun wQ=>app 8 out ([wQ.1]:List Int)>>=fun v2=>some (.inl (v2,(i64.wrap (i+1))))) else some (.inr out)
def zbH (b:List UInt8) (k:Int) (rv:((List Int)×Int)) (out:List Int) (i:Int):Option (List Int):=zX (fun s=>zbG b k rv s.1 s.2) (out,i)
def zfe (k:Int) (b:List UInt8):Option ((List Int)×Int):=zep k b>>=fun rv=>zbH b k rv [] 0>>=fun q=>some (q,rv.2)
theorem zmb {b:List UInt8} {k:Int} {rv:((List Int)×Int)} {out:List Int} {i:Int} {out':List Int} {i':Int} (h:zbG b k rv out i=some (.inl (out',i'))):zbH b k rv out i=zbH b k rv out' i':=zB h
theorem zfq {b:List UInt8} {k:Int} {rv:((List Int)×Int)} {out:List Int} {i:Int} {wW:List Int} (h:zbG b k rv out i=some (.inr wW)):zbH b k rv out i=some wW:=zC h
def zfM (f:Int) (x:List UInt8) (x2:Int):Option (Int⊕(Int×Int)):=if (x2 !=0) then some (.inr (x2,f)) else some (.inl (i64.wrap (f+1)))
def znF (k:Int) (b:List UInt8):Option (Int×Int):=zjF k b>>=fun rv=>zeO rv.1 rv.2 (rnd (fun (s:Int) (x:((List UInt8)×Int))=>zfM s x.1 x.2)) (.inl 0)>>=fun q=>match q with | .inl u=>(some (u,0)) | .inr j=>(some (0,j.1))
def zjc (f:za) (v:Int):Option Bool:=some (f.Number==v)
def zG (sv:List za) (v:Int) (v2:Int):Option (Int⊕(Unit⊕Int)):=if (decide (v2<(sv.length:Int))) then (idx sv v2>>=fun x=>zjc x v>>=fun rv=>if rv then some (.inr (.inr v2)) else some (.inl (i64.wrap (v2+1)))) else some (.inr (.inl ()))
def zM (sv:List za) (v:Int) (v2:Int):Option (Unit⊕Int):=zX (fun s=>zG sv v s) v2
def zae (sv:List za) (v:Int):Option Int:=zM sv v 0>>=fun q=>match q with | .inl u=>(some (-1)) | .inr u2=>(some u2)
theorem zdC (h:zG sv v v2=some (.inl v2')):zM sv v v2=zM sv v v2':=zB h
theorem zaZ (h:zG sv v v2=some (.inr wW)):zM sv v v2=some wW:=zC h
def zlO (m:ze) (number:Int):Option Int:=zae m.Fields number>>=fun rv=>some rv
def zlP (f:za) (wire:Int):Option Bool:=(if f.Repeated then (if (wire==2) then (zim f.Kind>>=fun rv=>some rv) else some false) else some false)>>=fun g=>some g
def znT (k:Int) (wire:Int):Option Bool:=zkU k>>=fun rv=>some ((rv.2==0)&&(rv.1==wire))
def ziy (m:ze) (hv:zU):Option zW:=zlO m hv.number>>=fun rv=>if (rv==(-1)) then some (⟨(-1),false,0⟩:zW) else idx m.Fields rv>>=fun x=>zlP x hv.wire>>=fun wQ=>(if (!wQ) then (znT x.Kind hv.wire>>=fun wV=>some (!wV)) else some false)>>=fun g=>if g then some (⟨0,false,6⟩:zW) else some (⟨rv,wQ,0⟩:zW)
def znU (m:ze) (b:List UInt8) (km:Int) (met:List (zU×zW)):Option (zi×Int×(List (zU×zW))):=zfK b km>>=fun rv=>if (rv.2 !=0) then some ((⟨(⟨0,0,0,0,0⟩:zj),0,false⟩:zi),rv.2,met) else (((if (!(mget met (⟨rv.1.Number,rv.1.Wire⟩:zU)).isSome) then (ziy m (⟨rv.1.Number,rv.1.Wire⟩:zU)>>=fun wQ=>some ((mput met (⟨rv.1.Number,rv.1.Wire⟩:zU) wQ),wQ.field,wQ.run,wQ.e)) else (some (met,((mget met (⟨rv.1.Number,rv.1.Wire⟩:zU)).getD (⟨0,false,0⟩:zW)).field,((mget met (⟨rv.1.Number,rv.1.Wire⟩:zU)).getD (⟨0,false,0⟩:zW)).run,((mget met (⟨rv.1.Number,rv.1.Wire⟩:zU)).getD (⟨0,false,0⟩:zW)).e)) :Option ((List (zU×zW))×Int×Bool×Int)))>>=fun p=>if (p.2.2.2 !=0) then some ((⟨(⟨0,0,0,0,0⟩:zj),0,false⟩:zi),p.2.2.2,p.1) else some ((⟨rv.1,p.2.1,p.2.2.1⟩:zi),0,p.1))
def zle (m:ze) (b:List UInt8) (km:Int):Option (zi×Int):=znU m b km ([]:List (zU×zW))>>=fun wQ=>some (wQ.1,wQ.2.1)
def zeq (m:ze) (b:List UInt8) (km:Int):Option (zE×Int):=zem b km>>=fun rv=>if (rv.2 !=0) then some ((⟨(⟨0,0,0,0,0⟩:zj),0,false⟩:zE),rv.2) else zfc m rv.1.Number>>=fun wQ=>if (decide (wQ<0)) then some ((⟨rv.1,(-1),false⟩:zE),0) else idx m.Fields wQ>>=fun x=>(if x.Repeated then (zbe x.Kind>>=fun wV=>if wV then some (rv.1.Wire==2) else some false) else some false)>>=fun g=>if g then some ((⟨rv.1,wQ,true⟩:zE),0) else (zdK x.Kind>>=fun kc=>if (!kc) then some true else zdh x.Kind>>=fun rv5=>some (rv5 !=rv.1.Wire))>>=fun g2=>if g2 then some ((⟨(⟨0,0,0,0,0⟩:zj),0,false⟩:zE),6) else some ((⟨rv.1,wQ,false⟩:zE),0)
def zaM (b:List UInt8) (m:ze) (out:List zE) (wU:Int):Option (((List zE)×Int)⊕((List zE)⊕(Int×Int))):=if (decide (wU<(b.length:Int))) then (zeq m b wU>>=fun rv=>if (rv.2 !=0) then some (.inr (.inr (wU,rv.2))) else app 56 out ([rv.1]:List zE)>>=fun v3=>some (.inl (v3,rv.1.R.To))) else some (.inr (.inl out))
def zck (b:List UInt8) (m:ze) (out:List zE) (wU:Int):Option ((List zE)⊕(Int×Int)):=zX (fun s=>zaM b m s.1 s.2) (out,wU)
def zgd (m:ze) (b:List UInt8):Option ((List zE)×Int×Int):=zck b m [] 0>>=fun q=>match q with | .inl u=>(some (u,0,0)) | .inr u2=>(some ([],u2.1,u2.2))
theorem zik {b:List UInt8} {m:ze} {out:List zE} {wU:Int} {out':List zE} {atv':Int} (h:zaM b m out wU=some (.inl (out',atv'))):zck b m out wU=zck b m out' atv':=zB h
theorem zge {b:List UInt8} {m:ze} {out:List zE} {wU:Int} {wW:((List zE)⊕(Int×Int))} (h:zaM b m out wU=some (.inr wW)):zck b m out wU=some wW:=zC h
def zgM (wv:zac) (message:Int) (km:Int) (tov:Int):Option (zi×Int×(List (zm×zi))):=cut wv.b 0 tov>>=fun v=>zfK v km>>=fun rv=>if (rv.2 !=0) then some ((⟨(⟨0,0,0,0,0⟩:zj),0,false⟩:zi),rv.2,wv.met) else (if (!(mget wv.met (⟨message,rv.1.Number,rv.1.Wire⟩:zm)).isSome) then (idx wv.s message>>=fun x=>zle x v km>>=fun wQ=>if (wQ.2 !=0) then some ((⟨(⟨0,0,0,0,0⟩:zj),0,false⟩:zi),wQ.2,wv.met) else some ((⟨rv.1,wQ.1.Field,wQ.1.Run⟩:zi),0,(mput wv.met (⟨message,rv.1.Number,rv.1.Wire⟩:zm) wQ.1))) else (some ((⟨rv.1,(((mget wv.met (⟨message,rv.1.Number,rv.1.Wire⟩:zm)).getD (⟨(⟨0,0,0,0,0⟩:zj),0,false⟩:zi)).Field),(((mget wv.met (⟨message,rv.1.Number,rv.1.Wire⟩:zm)).getD (⟨(⟨0,0,0,0,0⟩:zj),0,false⟩:zi)).Run)⟩:zi),0,wv.met)))
def zks (f:za) (isRun:Bool) (value:List UInt8):Option Int:=if isRun then (znF f.Kind value>>=fun rv=>some rv.2) else (if (f.Kind==15) then (zld value>>=fun wQ=>some (!wQ)) else some false)>>=fun g=>if g then some 7 else if (f.Kind==17) then some 8 else some 0
def zax (d:Int) (message:Int) (xe:zac->Int->zi->Int->Option (zx×(List (zm×zi)))) (tov:Int) (wv:zac) (w7:List (zm×zi)) (kz:Int) (depth:Int):Option (((List (zm×zi))×Int×Int)⊕(((List (zm×zi))×Int)⊕((List (zm×zi))×Int×Int×Int))):=if (decide (kz<tov)) then (zgM (⟨wv.s,wv.b,w7⟩:zac) message kz tov>>=fun wQ=>if (wQ.2.1 !=0) then some (.inr (.inr (wQ.2.2,0,kz,wQ.2.1))) else xe (⟨wv.s,wv.b,wQ.2.2⟩:zac) message wQ.1 d>>=fun kc=>if (kc.1.e !=0) then some (.inr (.inr (kc.2,kc.1.depth,kc.1.place,kc.1.e))) else some (.inl (kc.2,wQ.1.Record.To,(if depth<kc.1.depth then kc.1.depth else depth)))) else some (.inr (.inl (w7,depth)))
def zbI (d:Int) (message:Int) (xe:zac->Int->zi->Int->Option (zx×(List (zm×zi)))) (tov:Int) (wv:zac) (w7:List (zm×zi)) (kz:Int) (depth:Int):Option (((List (zm×zi))×Int)⊕((List (zm×zi))×Int×Int×Int)):=zX (fun s=>zax d message xe tov wv s.1 s.2.1 s.2.2) (w7,kz,depth)
def zej (xn:zac->Int->Int->Int->Int->Option (zx×(List (zm×zi)))) (xe:zac->Int->zi->Int->Option (zx×(List (zm×zi)))) (wv:zac) (message:Int) (km:Int) (tov:Int) (d:Int):Option (zx×(List (zm×zi))):=zbI d message xe tov wv wv.met km 0>>=fun q=>match q with | .inl u=>(some ((⟨u.2,0,0⟩:zx),u.1)) | .inr u2=>(some ((⟨u2.2.1,u2.2.2.1,u2.2.2.2⟩:zx),u2.1))
def zfm (xn:zac->Int->Int->Int->Int->Option (zx×(List (zm×zi)))) (xe:zac->Int->zi->Int->Option (zx×(List (zm×zi)))) (wv:zac) (message:Int) (v:zi) (d:Int):Option (zx×(List (zm×zi))):=if (v.Field==(-1)) then some ((⟨0,0,0⟩:zx),wv.met) else idx wv.s message>>=fun x=>idx x.Fields v.Field>>=fun x2=>if ((x2.Kind==17)&&(decide (d>0))) then (xn wv x2.Of v.Record.At v.Record.To (i64.wrap (d - 1))>>=fun wQ=>some ((⟨(i64.wrap (wQ.1.depth+1)),wQ.1.place,wQ.1.e⟩:zx),wQ.2)) else cut wv.b v.Record.At v.Record.To>>=fun v3=>zks x2 v.Run v3>>=fun wV=>if (wV !=0) then some ((⟨0,v.Record.From,wV⟩:zx),wv.met) else some ((⟨0,0,0⟩:zx),wv.met)
def zad:Nat->(zac->Int->Int->Int->Int->Option (zx×(List (zm×zi))))×(zac->Int->zi->Int->Option (zx×(List (zm×zi)))) | 0=>(fun _ _ _ _ _=>none,fun _ _ _ _=>none) | fuel+1=>(fun wv message km tov d=>zej (zad fuel).1 (zad fuel).2 wv message km tov d,fun wv message v d=>zfm (zad fuel).1 (zad fuel).2 wv message v d)
def zaH (fuel:Nat):zac->Int->Int->Int->Int->Option (zx×(List (zm×zi))):=(zad fuel).1
def zdV (fuel:Nat):zac->Int->zi->Int->Option (zx×(List (zm×zi))):=(zad fuel).2
theorem zmd (h:zax d message xe tov wv w7 kz depth=some (.inl (wv2',fromv2',depth'))):zbI d message xe tov wv w7 kz depth=zbI d message xe tov wv wv2' fromv2' depth':=zB h
theorem zdE (h:zax d message xe tov wv w7 kz depth=some (.inr wW)):zbI d message xe tov wv w7 kz depth=some wW:=zC h
def zjK (sv:List ze) (root:Int) (d:Int):Option Int:=ziX sv>>=fun rv=>if (!rv) then some 9 else (if ((decide (root<0))|| ((decide (root>=(sv.length:Int)))|| ((decide (d<0))|| (decide (d>64))))) then some 2 else some 0)
def zlM (fuel:Nat) (sv:List ze) (root:Int) (b:List UInt8) (d:Int):Option zx:=zjK sv root d>>=fun rv=>if (rv !=0) then some (⟨0,0,rv⟩:zx) else (zaH fuel (⟨sv,b,([]:List (zm×zi))⟩:zac) root 0 (b.length:Int) d>>=fun wV=>some wV.1)
def zkr (fuel:Nat) (sv:List ze) (root:Int) (b:List UInt8) (d:Int):Option (Int×Int):=zlM fuel sv root b d>>=fun rv=>some (rv.place,rv.e)
def zfD (sv:List ze) (root:Int) (d:Int):Option Int:=zfd sv>>=fun rv=>if (!rv) then some 9 else (if ((decide (root<0))|| ((decide (root>=(sv.length:Int)))|| ((decide (d<0))|| (decide (d>64))))) then some 2 else some 0)
def zba (b:List UInt8) (d:Int) (m:Int) (xh:(List ze)->Int->(List UInt8)->Int->Option (Int×Int)) (sv:List ze) (wU:Int):Option (Int⊕(Unit⊕(Int×Int))):=if (decide (wU<(b.length:Int))) then (idx sv m>>=fun x=>zeq x b wU>>=fun rv=>if (rv.2 !=0) then some (.inr (.inr (wU,rv.2))) else cut b rv.1.R.At rv.1.R.To>>=fun v3=>if (decide (rv.1.Field>=0)) then (idx sv m>>=fun x2=>idx x2.Fields rv.1.Field>>=fun x3=>if rv.1.Run then (zep x3.Kind v3>>=fun wQ=>if (wQ.2 !=0) then some (.inr (.inr (wU,wQ.2))) else some (.inl rv.1.R.To)) else (if (x3.Kind==15) then (zcG v3>>=fun wV=>some (!wV)) else some false)>>=fun g=>if g then some (.inr (.inr (wU,7))) else if (x3.Kind==17) then (if (d==0) then some (.inr (.inr (wU,8))) else xh sv x3.Of v3 (i64.wrap (d - 1))>>=fun kc=>if (kc.2 !=0) then some (.inr (.inr ((i64.wrap (rv.1.R.At+kc.1)),kc.2))) else some (.inl rv.1.R.To)) else some (.inl rv.1.R.To)) else some (.inl rv.1.R.To)) else some (.inr (.inl ()))
def zbb (b:List UInt8) (d:Int) (m:Int) (xh:(List ze)->Int->(List UInt8)->Int->Option (Int×Int)) (sv:List ze) (wU:Int):Option (Unit⊕(Int×Int)):=zX (fun s=>zba b d m xh sv s) wU
def zbQ (xh:(List ze)->Int->(List UInt8)->Int->Option (Int×Int)) (sv:List ze) (m:Int) (b:List UInt8) (d:Int):Option (Int×Int):=zbb b d m xh sv 0>>=fun q=>match q with | .inl u=>(some (0,0)) | .inr u2=>(some (u2.1,u2.2))
def zaW:Nat->(List ze)->Int->(List UInt8)->Int->Option (Int×Int) | 0,_,_,_,_=>none | fuel+1,sv,m,b,d=>zbQ (zaW fuel) sv m b d
theorem zmc {b:List UInt8} {d:Int} {m:Int} {xh:(List ze)->Int->(List UInt8)->Int->Option (Int×Int)} {sv:List ze} {wU:Int} {atv':Int} (h:zba b d m xh sv wU=some (.inl atv')):zbb b d m xh sv wU=zbb b d m xh sv atv':=zB h
theorem zfr {b:List UInt8} {d:Int} {m:Int} {xh:(List ze)->Int->(List UInt8)->Int->Option (Int×Int)} {sv:List ze} {wU:Int} {wW:(Unit⊕(Int×Int))} (h:zba b d m xh sv wU=some (.inr wW)):zbb b d m xh sv wU=some wW:=zC h
def zdL (fuel:Nat) (sv:List ze) (root:Int) (b:List UInt8) (d:Int):Option (Int×Int):=zfD sv root d>>=fun rv=>if (rv !=0) then some (0,rv) else zaW fuel sv root b d>>=fun wQ=>some (wQ.1,wQ.2)
def ziY (v:zc):Option Int:=some (i64.wrap ((i64.wrap ((v.Words.length:Int)+(v.Texts.length:Int)))+(v.Subs.length:Int)))
def zhT (ke:Int) (xd:zd->Int->Option Int) (x2:zc) (deep3:Int) (v3:Int):Option ((Int×Int)⊕(Int⊕Int)):=if (decide (v3<(x2.Subs.length:Int))) then (idx x2.Subs v3>>=fun x3=>if (decide (ke<=0)) then some (.inr (.inr 1)) else xd x3 (i64.wrap (ke - 1))>>=fun rv=>if (decide ((if deep3<(i64.wrap (1+rv)) then i64.wrap (1+rv) else deep3)>ke)) then some (.inr (.inr (if deep3<(i64.wrap (1+rv)) then i64.wrap (1+rv) else deep3))) else some (.inl ((if deep3<(i64.wrap (1+rv)) then i64.wrap (1+rv) else deep3),(i64.wrap (v3+1))))) else some (.inr (.inl deep3))
def zgS (ke:Int) (xd:zd->Int->Option Int) (x2:zc) (deep3:Int) (v3:Int):Option (Int⊕Int):=zX (fun s=>zhT ke xd x2 s.1 s.2) (deep3,v3)
def zhS (ke:Int) (xd:zd->Int->Option Int) (x:zd) (deep:Int) (v:Int):Option ((Int×Int)⊕(Int⊕Int)):=if (decide (v<(x.Values.length:Int))) then (idx x.Values v>>=fun x2=>zgS ke xd x2 deep 0>>=fun q=>match q with | .inl u=>(some (.inl (u,(i64.wrap (v+1))))) | .inr u2=>(some (.inr (.inr u2)))) else some (.inr (.inl deep))
def zgR (ke:Int) (xd:zd->Int->Option Int) (x:zd) (deep:Int) (v:Int):Option (Int⊕Int):=zX (fun s=>zhS ke xd x s.1 s.2) (deep,v)
def zoC (xd:zd->Int->Option Int) (x:zd) (ke:Int):Option Int:=zgR ke xd x 0 0>>=fun q2=>match q2 with | .inl u3=>(some u3) | .inr u4=>(some u4)
def zgF:Nat->zd->Int->Option Int | 0,_,_=>none | fuel+1,x,ke=>zoC (zgF fuel) x ke
theorem ztr (h:zhT ke xd x2 deep3 v3=some (.inl (deep3',v3'))):zgS ke xd x2 deep3 v3=zgS ke xd x2 deep3' v3':=zB h
theorem zts (h:zhT ke xd x2 deep3 v3=some (.inr wW)):zgS ke xd x2 deep3 v3=some wW:=zC h
theorem ztp (h:zhS ke xd x deep v=some (.inl (deep',v'))):zgR ke xd x deep v=zgR ke xd x deep' v':=zB h
theorem ztq (h:zhS ke xd x deep v=some (.inr wW)):zgR ke xd x deep v=some wW:=zC h
def zsb (fuel:Nat) (x:zd):Option Int:=zgF fuel x 131072>>=fun rv=>some rv
def zqV (fuel:Nat) (x:zd):Option Bool:=zsb fuel x>>=fun rv=>some (decide (rv<=131072))
def zeS (l:List Str) (v:Int):Option (Int⊕(Unit⊕Unit)):=if (decide (v<(l.length:Int))) then (idx l v>>=fun x=>lenO x>>=fun v2=>zld v2>>=fun rv=>if (!rv) then some (.inr (.inr ())) else some (.inl (i64.wrap (v+1)))) else some (.inr (.inl ()))
def zeT (l:List Str) (v:Int):Option (Unit⊕Unit):=zX (fun s=>zeS l s) v
def znb (l:List Str):Option Bool:=zeT l 0>>=fun q=>match q with | .inl u=>(some true) | .inr u2=>(some false)
theorem zqp (h:zeS l v=some (.inl v')):zeT l v=zeT l v':=zB h
theorem zkq (h:zeS l v=some (.inr wW)):zeT l v=some wW:=zC h
def zlL (m:ze) (text:Str):Option Bool:=lenO text>>=fun v=>zfK v 0>>=fun rv=>if ((rv.2 !=0)|| (rv.1.To !=(text.length:Int))) then some false else zhY m rv.1.Number>>=fun wQ=>some (!wQ.2)
def zbY (k:Int) (l:List Int) (v:Int):Option (Int⊕(Unit⊕Unit)):=if (decide (v<(l.length:Int))) then (idx l v>>=fun x=>zhf k x>>=fun rv=>if ((rv.2 !=0)|| (rv.1 !=x)) then some (.inr (.inr ())) else some (.inl (i64.wrap (v+1)))) else some (.inr (.inl ()))
def zdb (k:Int) (l:List Int) (v:Int):Option (Unit⊕Unit):=zX (fun s=>zbY k l s) v
def ziZ (k:Int) (l:List Int):Option Bool:=zdb k l 0>>=fun q=>match q with | .inl u=>(some true) | .inr u2=>(some false)
theorem zna (h:zbY k l v=some (.inl v')):zdb k l v=zdb k l v':=zB h
theorem zfT (h:zbY k l v=some (.inr wW)):zdb k l v=some wW:=zC h
def zdr (l:List zd) (message:Int) (xi:(List ze)->Int->zd->Option Bool) (sv:List ze) (v2:Int):Option (Int⊕(Unit⊕Unit)):=if (decide (v2<(l.length:Int))) then (idx l v2>>=fun x=>xi sv message x>>=fun rv=>if (!rv) then some (.inr (.inr ())) else some (.inl (i64.wrap (v2+1)))) else some (.inr (.inl ()))
def zds (l:List zd) (message:Int) (xi:(List ze)->Int->zd->Option Bool) (sv:List ze) (v2:Int):Option (Unit⊕Unit):=zX (fun s=>zdr l message xi sv s) v2
def zic (xo:(List ze)->Int->(List zd)->Option Bool) (xj:za->(List ze)->zc->Option Bool) (xi:(List ze)->Int->zd->Option Bool) (sv:List ze) (message:Int) (l:List zd):Option Bool:=if ((decide (message<0))|| (decide (message>=(sv.length:Int)))) then some false else (zds l message xi sv 0>>=fun q=>match q with | .inl u=>(some true) | .inr u2=>(some false))
def zqq (xo:(List ze)->Int->(List zd)->Option Bool) (xj:za->(List ze)->zc->Option Bool) (xi:(List ze)->Int->zd->Option Bool) (f:za) (sv:List ze) (v:zc):Option Bool:=ziY v>>=fun rv=>if ((rv==0)|| ((decide (rv>1))&&(!f.Repeated))) then some false else if (f.Kind==15) then ((if ((v.Texts.length:Int)==rv) then (znb v.Texts>>=fun wQ=>some wQ) else some false)>>=fun g=>some g) else if (f.Kind==16) then some ((v.Texts.length:Int)==rv) else if (f.Kind==17) then ((if ((v.Subs.length:Int)==rv) then (xo sv f.Of v.Subs>>=fun wV=>some wV) else some false)>>=fun g2=>some g2) else (if ((v.Words.length:Int)==rv) then (ziZ f.Kind v.Words>>=fun kc=>some kc) else some false)>>=fun g3=>some g3
def zeu (xj:za->(List ze)->zc->Option Bool) (sv:List ze) (x:zd) (x2:ze) (last:Int) (v:Int):Option ((Int×Int)⊕(Unit⊕Unit)):=if (decide (v<(x.Values.length:Int))) then (idx x.Values v>>=fun x3=>zhY x2 x3.Number>>=fun rv=>(if (!rv.2) then some true else if (decide (x3.Number<=last)) then some true else idx x2.Fields rv.1>>=fun x4=>xj x4 sv x3>>=fun wQ=>some (!wQ))>>=fun g=>if g then some (.inr (.inr ())) else some (.inl (x3.Number,(i64.wrap (v+1))))) else some (.inr (.inl ()))
def zew (xj:za->(List ze)->zc->Option Bool) (sv:List ze) (x:zd) (x2:ze) (last:Int) (v:Int):Option (Unit⊕Unit):=zX (fun s=>zeu xj sv x x2 s.1 s.2) (last,v)
def zev (x:zd) (x2:ze) (v3:Int):Option (Int⊕(Unit⊕Unit)):=if (decide (v3<(x.Unknown.length:Int))) then (idx x.Unknown v3>>=fun x5=>zlL x2 x5>>=fun wV=>if (!wV) then some (.inr (.inr ())) else some (.inl (i64.wrap (v3+1)))) else some (.inr (.inl ()))
def zex (x:zd) (x2:ze) (v3:Int):Option (Unit⊕Unit):=zX (fun s=>zev x x2 s) v3
def zjJ (xo:(List ze)->Int->(List zd)->Option Bool) (xj:za->(List ze)->zc->Option Bool) (xi:(List ze)->Int->zd->Option Bool) (sv:List ze) (message:Int) (x:zd):Option Bool:=idx sv message>>=fun x2=>zew xj sv x x2 0 0>>=fun q=>match q with | .inl u=>(zex x x2 0>>=fun q2=>match q2 with | .inl u2=>(some true) | .inr u3=>(some false)) | .inr u4=>(some false)
def zO:Nat->((List ze)->Int->(List zd)->Option Bool)×(za->(List ze)->zc->Option Bool)×((List ze)->Int->zd->Option Bool) | 0=>(fun _ _ _=>none,fun _ _ _=>none,fun _ _ _=>none) | fuel+1=>(fun sv message l=>zic (zO fuel).1 (zO fuel).2.1 (zO fuel).2.2 sv message l,fun f sv v=>zqq (zO fuel).1 (zO fuel).2.1 (zO fuel).2.2 f sv v,fun sv message x=>zjJ (zO fuel).1 (zO fuel).2.1 (zO fuel).2.2 sv message x)
def zhy (fuel:Nat):(List ze)->Int->(List zd)->Option Bool:=(zO fuel).1
def zjI (fuel:Nat):za->(List ze)->zc->Option Bool:=(zO fuel).2.1
def zfl (fuel:Nat):(List ze)->Int->zd->Option Bool:=(zO fuel).2.2
theorem znN (h:zdr l message xi sv v2=some (.inl v2')):zds l message xi sv v2=zds l message xi sv v2':=zB h
theorem ziv (h:zdr l message xi sv v2=some (.inr wW)):zds l message xi sv v2=some wW:=zC h
theorem zpe (h:zeu xj sv x x2 last v=some (.inl (last',v'))):zew xj sv x x2 last v=zew xj sv x x2 last' v':=zB h
theorem zjk (h:zeu xj sv x x2 last v=some (.inr wW)):zew xj sv x x2 last v=some wW:=zC h
theorem zpf (h:zev x x2 v3=some (.inl v3')):zex x x2 v3=zex x x2 v3':=zB h
theorem zjl (h:zev x x2 v3=some (.inr wW)):zex x x2 v3=some wW:=zC h
def zfE (v:zc):Option Int:=some (i64.wrap ((i64.wrap ((v.Words.length:Int)+(v.Texts.length:Int)))+(v.Subs.length:Int)))
def zsc (fuel:Nat) (sv:List ze) (root:Int) (x:zd):Option Bool:=(zjK sv root 0>>=fun rv=>if (rv==0) then (zqV fuel x>>=fun wQ=>if wQ then (zfl fuel sv root x>>=fun wV=>some wV) else some false) else some false)>>=fun g=>some g
def zhm (xk:zc->Option zc) (rv:List zc) (v:List zc) (v2:Int):Option (((List zc)×Int)⊕(List zc)):=if (decide (v2<(rv.length:Int))) then (idx v v2>>=fun x2=>xk x2>>=fun wV=>idx v v2>>=fun x3=>some (.inl ((v.set (Int.toNat v2) wV),(i64.wrap (v2+1))))) else some (.inr v)
def zgl (xk:zc->Option zc) (rv:List zc) (v:List zc) (v2:Int):Option (List zc):=zX (fun s=>zhm xk rv s.1 s.2) (v,v2)
def znc (xl:zd->Option zd) (xk:zc->Option zc) (x:zd):Option zd:=zcd x.Values>>=fun rv=>zcp x.Unknown>>=fun wQ=>zgl xk rv rv 0>>=fun q=>some (⟨q,wQ⟩:zd)
def zeM (xl:zd->Option zd) (wV:List zd) (v2:List zd) (v3:Int):Option (((List zd)×Int)⊕(List zd)):=if (decide (v3<(wV.length:Int))) then (idx v2 v3>>=fun x=>xl x>>=fun kc=>idx v2 v3>>=fun x2=>some (.inl ((v2.set (Int.toNat v3) kc),(i64.wrap (v3+1))))) else some (.inr v2)
def zdt (xl:zd->Option zd) (wV:List zd) (v2:List zd) (v3:Int):Option (List zd):=zX (fun s=>zeM xl wV s.1 s.2) (v2,v3)
def zid (xl:zd->Option zd) (xk:zc->Option zc) (v:zc):Option zc:=zeg v.Words>>=fun rv=>zcp v.Texts>>=fun wQ=>zdd v.Subs>>=fun wV=>zdt xl wV wV 0>>=fun q=>some (⟨v.Number,rv,wQ,q⟩:zc)
def zav:Nat->(zd->Option zd)×(zc->Option zc) | 0=>(fun _=>none,fun _=>none) | fuel+1=>(fun x=>znc (zav fuel).1 (zav fuel).2 x,fun v=>zid (zav fuel).1 (zav fuel).2 v)
def ziw (fuel:Nat):zd->Option zd:=(zav fuel).1
def zgk (fuel:Nat):zc->Option zc:=(zav fuel).2
theorem zsd (h:zhm xk rv v v2=some (.inl (v',v2'))):zgl xk rv v v2=zgl xk rv v' v2':=zB h
theorem zse (h:zhm xk rv v v2=some (.inr wW)):zgl xk rv v v2=some wW:=zC h
theorem znO (h:zeM xl wV v2 v3=some (.inl (v2',v3'))):zdt xl wV v2 v3=zdt xl wV v2' v3':=zB h
theorem znP (h:zeM xl wV v2 v3=some (.inr wW)):zdt xl wV v2 v3=some wW:=zC h
def zuq (fuel:Nat) (x:zd):Option zd:=zqV fuel x>>=fun rv=>if (!rv) then some (⟨[],[]⟩:zd) else ziw fuel x>>=fun wQ=>some wQ
def zbT (av:zd) (b:zd) (xg:zc->zc->Option Bool) (i:Int):Option (Int⊕(Unit⊕Unit)):=if (decide (i<(av.Values.length:Int))) then (idx av.Values i>>=fun x=>idx b.Values i>>=fun x2=>xg x x2>>=fun rv=>if (!rv) then some (.inr (.inr ())) else some (.inl (i64.wrap (i+1)))) else some (.inr (.inl ()))
def zcR (av:zd) (b:zd) (xg:zc->zc->Option Bool) (i:Int):Option (Unit⊕Unit):=zX (fun s=>zbT av b xg s) i
def zbU (av:zd) (b:zd) (i2:Int):Option (Int⊕(Unit⊕Unit)):=if (decide (i2<(av.Unknown.length:Int))) then (idx av.Unknown i2>>=fun x3=>idx b.Unknown i2>>=fun x4=>if (!(x3==x4)) then some (.inr (.inr ())) else some (.inl (i64.wrap (i2+1)))) else some (.inr (.inl ()))
def zcS (av:zd) (b:zd) (i2:Int):Option (Unit⊕Unit):=zX (fun s=>zbU av b s) i2
def zeG (xf:zd->zd->Option Bool) (xg:zc->zc->Option Bool) (av:zd) (b:zd):Option Bool:=if (((av.Values.length:Int) !=(b.Values.length:Int))|| ((av.Unknown.length:Int) !=(b.Unknown.length:Int))) then some false else (zcR av b xg 0>>=fun q=>match q with | .inl u=>(zcS av b 0>>=fun q2=>match q2 with | .inl u2=>(some true) | .inr u3=>(some false)) | .inr u4=>(some false))
def zaO (av:zc) (b:zc) (i:Int):Option (Int⊕(Unit⊕Unit)):=if (decide (i<(av.Words.length:Int))) then (idx av.Words i>>=fun x=>idx b.Words i>>=fun x2=>if (x !=x2) then some (.inr (.inr ())) else some (.inl (i64.wrap (i+1)))) else some (.inr (.inl ()))
def zbo (av:zc) (b:zc) (i:Int):Option (Unit⊕Unit):=zX (fun s=>zaO av b s) i
def zaP (av:zc) (b:zc) (i2:Int):Option (Int⊕(Unit⊕Unit)):=if (decide (i2<(av.Texts.length:Int))) then (idx av.Texts i2>>=fun x3=>idx b.Texts i2>>=fun x4=>if (!(x3==x4)) then some (.inr (.inr ())) else some (.inl (i64.wrap (i2+1)))) else some (.inr (.inl ()))
def zbp (av:zc) (b:zc) (i2:Int):Option (Unit⊕Unit):=zX (fun s=>zaP av b s) i2
def zaQ (av:zc) (b:zc) (xf:zd->zd->Option Bool) (i3:Int):Option (Int⊕(Unit⊕Unit)):=if (decide (i3<(av.Subs.length:Int))) then (idx av.Subs i3>>=fun x5=>idx b.Subs i3>>=fun x6=>xf x5 x6>>=fun rv=>if (!rv) then some (.inr (.inr ())) else some (.inl (i64.wrap (i3+1)))) else some (.inr (.inl ()))
def zbq (av:zc) (b:zc) (xf:zd->zd->Option Bool) (i3:Int):Option (Unit⊕Unit):=zX (fun s=>zaQ av b xf s) i3
def zcw (xf:zd->zd->Option Bool) (xg:zc->zc->Option Bool) (av:zc) (b:zc):Option Bool:=if ((av.Number !=b.Number)|| (((av.Words.length:Int) !=(b.Words.length:Int))|| (((av.Texts.length:Int) !=(b.Texts.length:Int))|| ((av.Subs.length:Int) !=(b.Subs.length:Int))))) then some false else (zbo av b 0>>=fun q=>match q with | .inl u=>(zbp av b 0>>=fun q2=>match q2 with | .inl u2=>(zbq av b xf 0>>=fun q3=>match q3 with | .inl u3=>(some true) | .inr u4=>(some false)) | .inr u5=>(some false)) | .inr u6=>(some false))
def zY:Nat->(zd->zd->Option Bool)×(zc->zc->Option Bool) | 0=>(fun _ _=>none,fun _ _=>none) | fuel+1=>(fun av b=>zeG (zY fuel).1 (zY fuel).2 av b,fun av b=>zcw (zY fuel).1 (zY fuel).2 av b)
def zbi (fuel:Nat):zd->zd->Option Bool:=(zY fuel).1
def zbt (fuel:Nat):zc->zc->Option Bool:=(zY fuel).2
theorem zmN (h:zbT av b xg i=some (.inl i')):zcR av b xg i=zcR av b xg i':=zB h
theorem zhK (h:zbT av b xg i=some (.inr wW)):zcR av b xg i=some wW:=zC h
theorem zmO (h:zbU av b i2=some (.inl i2')):zcS av b i2=zcS av b i2':=zB h
theorem zhL (h:zbU av b i2=some (.inr wW)):zcS av b i2=some wW:=zC h
theorem zka (h:zaO av b i=some (.inl i')):zbo av b i=zbo av b i':=zB h
theorem zgn (h:zaO av b i=some (.inr wW)):zbo av b i=some wW:=zC h
theorem zkb (h:zaP av b i2=some (.inl i2')):zbp av b i2=zbp av b i2':=zB h
theorem zgo (h:zaP av b i2=some (.inr wW)):zbp av b i2=some wW:=zC h
theorem zkc (h:zaQ av b xf i3=some (.inl i3')):zbq av b xf i3=zbq av b xf i3':=zB h
theorem zgp (h:zaQ av b xf i3=some (.inr wW)):zbq av b xf i3=some wW:=zC h
def zbS (b:List UInt8) (i:Int) (xa:(List ze)->Int->(List UInt8)->Option zd) (rv:((List zE)×Int×Int)) (wQ:List Int) (sv:List ze) (x5:za) (kA:List UInt8) (met:Bool) (k:Int) (f3:List Int) (f4:List Str) (f5:List zd):Option (((List UInt8)×Bool×Int×(List Int)×(List Str)×(List zd))⊕((List UInt8)×Bool×(List Int)×(List Str)×(List zd))):=if (decide (k<(rv.1.length:Int))) then (idx rv.1 k>>=fun x6=>idx wQ i>>=fun x7=>if (x6.Field !=x7) then some (.inl (kA,met,(i64.wrap (k+1)),f3,f4,f5)) else idx rv.1 k>>=fun x8=>idx rv.1 k>>=fun x9=>cut b x8.R.At x9.R.To>>=fun v=>((if (!x5.Repeated) then some ([],[]) else (some (f3,f4)) :Option ((List Int)×(List Str))))>>=fun p=>idx rv.1 k>>=fun x10=>if x10.Run then (zfe x5.Kind v>>=fun wV=>app 8 p.1 wV.1>>=fun v2=>some (.inl (kA,true,(i64.wrap (k+1)),v2,p.2,f5))) else zbe x5.Kind>>=fun kc=>if kc then (zeo x5.Kind v>>=fun rv5=>app 8 p.1 ([rv5.1]:List Int)>>=fun v3=>some (.inl (kA,true,(i64.wrap (k+1)),v3,p.2,f5))) else if ((x5.Kind==17)&&x5.Repeated) then (xa sv x5.Of v>>=fun rv6=>app 48 f5 ([rv6]:List zd)>>=fun v5=>some (.inl (kA,true,(i64.wrap (k+1)),p.1,p.2,v5))) else if (x5.Kind==17) then (app 1 kA v>>=fun v6=>some (.inl (v6,true,(i64.wrap (k+1)),p.1,p.2,f5))) else app 16 p.2 ([v]:List Str)>>=fun v7=>some (.inl (kA,true,(i64.wrap (k+1)),p.1,v7,f5))) else some (.inr (kA,met,f3,f4,f5))
def zdN (b:List UInt8) (i:Int) (xa:(List ze)->Int->(List UInt8)->Option zd) (rv:((List zE)×Int×Int)) (wQ:List Int) (sv:List ze) (x5:za) (kA:List UInt8) (met:Bool) (k:Int) (f3:List Int) (f4:List Str) (f5:List zd):Option ((List UInt8)×Bool×(List Int)×(List Str)×(List zd)):=zX (fun s=>zbS b i xa rv wQ sv x5 s.1 s.2.1 s.2.2.1 s.2.2.2.1 s.2.2.2.2.1 s.2.2.2.2.2) (kA,met,k,f3,f4,f5)
def zbR (b:List UInt8) (xa:(List ze)->Int->(List UInt8)->Option zd) (root:Int) (rv:((List zE)×Int×Int)) (wQ:List Int) (sv:List ze) (i:Int) (f:List zc):Option ((Int×(List zc))⊕(List zc)):=if (decide (i<(wQ.length:Int))) then (idx sv root>>=fun x3=>idx wQ i>>=fun x4=>idx x3.Fields x4>>=fun x5=>zdN b i xa rv wQ sv x5 [] false 0 [] [] []>>=fun q=>((if (q.2.1&&((x5.Kind==17)&&(!x5.Repeated))) then (xa sv x5.Of q.1>>=fun rv7=>some ([rv7]:List zd)) else (some q.2.2.2.2) :Option (List zd)))>>=fun p2=>zfE (⟨x5.Number,q.2.2.1,q.2.2.2.1,p2⟩:zc)>>=fun rv8=>if (decide (rv8>0)) then (app 80 f ([(⟨x5.Number,q.2.2.1,q.2.2.2.1,p2⟩:zc)]:List zc)>>=fun v9=>some (.inl ((i64.wrap (i+1)),v9))) else some (.inl ((i64.wrap (i+1)),f))) else some (.inr f)
def zdM (b:List UInt8) (xa:(List ze)->Int->(List UInt8)->Option zd) (root:Int) (rv:((List zE)×Int×Int)) (wQ:List Int) (sv:List ze) (i:Int) (f:List zc):Option (List zc):=zX (fun s=>zbR b xa root rv wQ sv s.1 s.2) (i,f)
def zaX (b:List UInt8) (rv:((List zE)×Int×Int)) (k2:Int) (f12:List Str):Option ((Int×(List Str))⊕(List Str)):=if (decide (k2<(rv.1.length:Int))) then (idx rv.1 k2>>=fun x11=>if (decide (x11.Field<0)) then (idx rv.1 k2>>=fun x12=>idx rv.1 k2>>=fun x13=>cut b x12.R.From x13.R.To>>=fun v10=>app 16 f12 ([v10]:List Str)>>=fun v11=>some (.inl ((i64.wrap (k2+1)),v11))) else some (.inl ((i64.wrap (k2+1)),f12))) else some (.inr f12)
def zdO (b:List UInt8) (rv:((List zE)×Int×Int)) (k2:Int) (f12:List Str):Option (List Str):=zX (fun s=>zaX b rv s.1 s.2) (k2,f12)
def zfF (xa:(List ze)->Int->(List UInt8)->Option zd) (sv:List ze) (root:Int) (b:List UInt8):Option zd:=idx sv root>>=fun x=>zgd x b>>=fun rv=>idx sv root>>=fun x2=>zeF x2>>=fun wQ=>zdM b xa root rv wQ sv 0 []>>=fun q2=>zdO b rv 0 []>>=fun q3=>some (⟨q2,q3⟩:zd)
def zcC:Nat->(List ze)->Int->(List UInt8)->Option zd | 0,_,_,_=>none | fuel+1,sv,root,b=>zfF (zcC fuel) sv root b
theorem ziE {b:List UInt8} {i:Int} {xa:(List ze)->Int->(List UInt8)->Option zd} {rv:((List zE)×Int×Int)} {wQ:List Int} {sv:List ze} {x5:za} {kA:List UInt8} {met:Bool} {k:Int} {f3:List Int} {f4:List Str} {f5:List zd} {joined':List UInt8} {wZ:Bool} {k':Int} {f3':List Int} {f4':List Str} {f5':List zd} (h:zbS b i xa rv wQ sv x5 kA met k f3 f4 f5=some (.inl (joined',wZ,k',f3',f4',f5'))):zdN b i xa rv wQ sv x5 kA met k f3 f4 f5=zdN b i xa rv wQ sv x5 joined' wZ k' f3' f4' f5':=zB h
theorem zod {b:List UInt8} {i:Int} {xa:(List ze)->Int->(List UInt8)->Option zd} {rv:((List zE)×Int×Int)} {wQ:List Int} {sv:List ze} {x5:za} {kA:List UInt8} {met:Bool} {k:Int} {f3:List Int} {f4:List Str} {f5:List zd} {wW:((List UInt8)×Bool×(List Int)×(List Str)×(List zd))} (h:zbS b i xa rv wQ sv x5 kA met k f3 f4 f5=some (.inr wW)):zdN b i xa rv wQ sv x5 kA met k f3 f4 f5=some wW:=zC h
theorem zob {b:List UInt8} {xa:(List ze)->Int->(List UInt8)->Option zd} {root:Int} {rv:((List zE)×Int×Int)} {wQ:List Int} {sv:List ze} {i:Int} {f:List zc} {i':Int} {f':List zc} (h:zbR b xa root rv wQ sv i f=some (.inl (i',f'))):zdM b xa root rv wQ sv i f=zdM b xa root rv wQ sv i' f':=zB h
theorem zoc {b:List UInt8} {xa:(List ze)->Int->(List UInt8)->Option zd} {root:Int} {rv:((List zE)×Int×Int)} {wQ:List Int} {sv:List ze} {i:Int} {f:List zc} {wW:List zc} (h:zbR b xa root rv wQ sv i f=some (.inr wW)):zdM b xa root rv wQ sv i f=some wW:=zC h
theorem ziF {b:List UInt8} {rv:((List zE)×Int×Int)} {k2:Int} {f12:List Str} {k2':Int} {f12':List Str} (h:zaX b rv k2 f12=some (.inl (k2',f12'))):zdO b rv k2 f12=zdO b rv k2' f12':=zB h
theorem zoe {b:List UInt8} {rv:((List zE)×Int×Int)} {k2:Int} {f12:List Str} {wW:List Str} (h:zaX b rv k2 f12=some (.inr wW)):zdO b rv k2 f12=some wW:=zC h
def zgO (k:Int):Option Bool:=zhj k 0>>=fun rv=>some (decide (rv>0))
def zlw (out:List UInt8) (number:Int) (wire:Int) (value:List UInt8):Option (List UInt8):=zjC ([]:List UInt8) number wire value>>=fun rv=>app 1 out rv.1>>=fun v=>some v
def zkW (k:Int):Option Int:=zhj k 0>>=fun rv=>if (rv==4) then some 5 else if (rv==8) then some 1 else some 0
def zlx (out:List UInt8) (f:za) (b:List UInt8):Option (List UInt8):=if ((b.length:Int)==0) then some out else znG f.Kind b>>=fun rv=>zqi f.Kind rv.1>>=fun wQ=>if f.Repeated then (zlw out f.Number 2 wQ.1>>=fun wV=>some wV) else zkW f.Kind>>=fun kc=>zlw out f.Number kc wQ.1>>=fun rv5=>some rv5
def zhg (wv:zP) (message:Int) (b:List UInt8) (km:Int):Option (zj×Int×(List (zh×Int))):=zfK b km>>=fun rv=>if (!(mget wv.met (⟨message,rv.1.Number⟩:zh)).isSome) then (idx wv.s message>>=fun x=>zle x b km>>=fun wQ=>some (rv.1,wQ.1.Field,(mput wv.met (⟨message,rv.1.Number⟩:zh) wQ.1.Field))) else some (rv.1,((mget wv.met (⟨message,rv.1.Number⟩:zh)).getD 0),wv.met)
def zkh (f:za) (before:List UInt8) (b:List UInt8) (rv:zj):Option (List UInt8):=(if f.Repeated then (zgO f.Kind>>=fun wQ=>some (!wQ)) else some false)>>=fun g=>((if g then some rv.From else (some rv.At) :Option Int))>>=fun p=>if (((!f.Repeated)&&(f.Kind !=17))|| ((before.length:Int)==0)) then (cut b p rv.To>>=fun v3=>some v3) else cut b p rv.To>>=fun v4=>app 1 before v4>>=fun v5=>some v5
def zlv (number:Int) (size:Int):Option (List UInt8):=zlA ([]:List UInt8) number ([]:List UInt8)>>=fun rv=>zjG 4 (u64.wrap size)>>=fun wQ=>cut rv 0 (i64.wrap ((rv.length:Int) - 1))>>=fun v=>app 1 v wQ.1>>=fun v2=>some v2
def zcH (b:List UInt8) (f:za) (xb:zP->(List UInt8)->za->(List UInt8)->Option ((List UInt8)×(List (zh×Int)))) (wv:zP) (w7:List (zh×Int)) (kr:List UInt8) (km:Int):Option (((List (zh×Int))×(List UInt8)×Int)⊕((List (zh×Int))×(List UInt8))):=if (decide (km<(b.length:Int))) then (zfK b km>>=fun rv5=>cut b rv5.1.At rv5.1.To>>=fun v=>xb (⟨wv.s,w7⟩:zP) kr f v>>=fun rv6=>some (.inl (rv6.2,rv6.1,rv5.1.To))) else some (.inr (w7,kr))
def zdR (b:List UInt8) (f:za) (xb:zP->(List UInt8)->za->(List UInt8)->Option ((List UInt8)×(List (zh×Int)))) (wv:zP) (w7:List (zh×Int)) (kr:List UInt8) (km:Int):Option ((List (zh×Int))×(List UInt8)):=zX (fun s=>zcH b f xb wv s.1 s.2.1 s.2.2) (w7,kr,km)
def zes (xc:zP->(List UInt8)->za->(List UInt8)->Option ((List UInt8)×(List (zh×Int)))) (xm:zP->(List UInt8)->Int->(List UInt8)->Option ((List UInt8)×(List (zh×Int)))) (xb:zP->(List UInt8)->za->(List UInt8)->Option ((List UInt8)×(List (zh×Int)))) (wv:zP) (out:List UInt8) (f:za) (b:List UInt8):Option ((List UInt8)×(List (zh×Int))):=zgO f.Kind>>=fun rv=>if rv then (zlx out f b>>=fun wQ=>some (wQ,wv.met)) else if (!f.Repeated) then (xb wv out f b>>=fun kc=>some (kc.1,kc.2)) else zdR b f xb wv wv.met out 0>>=fun q=>some (q.2,q.1)
def zbm (b:List UInt8) (message:Int) (wv:zP) (x:ze) (w7:List (zh×Int)) (ko:List (Int×(List UInt8))) (wR:List UInt8) (km:Int):Option (((List (zh×Int))×(List (Int×(List UInt8)))×(List UInt8)×Int)⊕((List (zh×Int))×(List (Int×(List UInt8)))×(List UInt8))):=if (decide (km<(b.length:Int))) then (zhg (⟨wv.s,w7⟩:zP) message b km>>=fun wQ=>if (wQ.2.1==(-1)) then (cut b wQ.1.From wQ.1.To>>=fun v=>app 1 wR v>>=fun v2=>some (.inl (wQ.2.2,ko,v2,wQ.1.To))) else idx x.Fields wQ.2.1>>=fun x2=>zkh x2 ((mget ko wQ.1.Number).getD []) b wQ.1>>=fun v3=>some (.inl (wQ.2.2,(mput ko wQ.1.Number v3),wR,wQ.1.To))) else some (.inr (w7,ko,wR))
def zbW (b:List UInt8) (message:Int) (wv:zP) (x:ze) (w7:List (zh×Int)) (ko:List (Int×(List UInt8))) (wR:List UInt8) (km:Int):Option ((List (zh×Int))×(List (Int×(List UInt8)))×(List UInt8)):=zX (fun s=>zbm b message wv x s.1 s.2.1 s.2.2.1 s.2.2.2) (w7,ko,wR,km)
def zbV (message:Int) (q:((List (zh×Int))×(List (Int×(List UInt8)))×(List UInt8))) (xc:zP->(List UInt8)->za->(List UInt8)->Option ((List UInt8)×(List (zh×Int)))) (v4:List Int) (wv:zP) (x:ze) (wv4:List (zh×Int)) (kr:List UInt8) (v5:Int):Option (((List (zh×Int))×(List UInt8)×Int)⊕((List (zh×Int))×(List UInt8))):=if (decide (v5<(v4.length:Int))) then (idx v4 v5>>=fun x3=>idx x.Fields ((mget wv4 (⟨message,x3⟩:zh)).getD 0)>>=fun x4=>xc (⟨wv.s,wv4⟩:zP) kr x4 ((mget q.2.1 x3).getD [])>>=fun wV=>some (.inl (wV.2,wV.1,(i64.wrap (v5+1))))) else some (.inr (wv4,kr))
def zcX (message:Int) (q:((List (zh×Int))×(List (Int×(List UInt8)))×(List UInt8))) (xc:zP->(List UInt8)->za->(List UInt8)->Option ((List UInt8)×(List (zh×Int)))) (v4:List Int) (wv:zP) (x:ze) (wv4:List (zh×Int)) (kr:List UInt8) (v5:Int):Option ((List (zh×Int))×(List UInt8)):=zX (fun s=>zbV message q xc v4 wv x s.1 s.2.1 s.2.2) (wv4,kr,v5)
def zeH (xc:zP->(List UInt8)->za->(List UInt8)->Option ((List UInt8)×(List (zh×Int)))) (xm:zP->(List UInt8)->Int->(List UInt8)->Option ((List UInt8)×(List (zh×Int)))) (xb:zP->(List UInt8)->za->(List UInt8)->Option ((List UInt8)×(List (zh×Int)))) (wv:zP) (out:List UInt8) (message:Int) (b:List UInt8):Option ((List UInt8)×(List (zh×Int))):=idx wv.s message>>=fun x=>zbW b message wv x wv.met ([]:List (Int×(List UInt8))) [] 0>>=fun q=>znt q.2.1>>=fun v4=>zcX message q xc v4 wv x q.1 out 0>>=fun q2=>app 1 q2.2 q.2.2>>=fun v6=>some (v6,q2.1)
def zet (xc:zP->(List UInt8)->za->(List UInt8)->Option ((List UInt8)×(List (zh×Int)))) (xm:zP->(List UInt8)->Int->(List UInt8)->Option ((List UInt8)×(List (zh×Int)))) (xb:zP->(List UInt8)->za->(List UInt8)->Option ((List UInt8)×(List (zh×Int)))) (wv:zP) (out:List UInt8) (f:za) (b:List UInt8):Option ((List UInt8)×(List (zh×Int))):=if (f.Kind !=17) then (zlw out f.Number 2 b>>=fun rv=>some (rv,wv.met)) else xm wv out f.Of b>>=fun wV=>zlv f.Number (i64.wrap ((wV.1.length:Int) - (out.length:Int)))>>=fun kc=>insO wV.1 (out.length:Int) kc>>=fun v=>some (v,wV.2)
def zF:Nat->(zP->(List UInt8)->za->(List UInt8)->Option ((List UInt8)×(List (zh×Int))))×(zP->(List UInt8)->Int->(List UInt8)->Option ((List UInt8)×(List (zh×Int))))×(zP->(List UInt8)->za->(List UInt8)->Option ((List UInt8)×(List (zh×Int)))) | 0=>(fun _ _ _ _=>none,fun _ _ _ _=>none,fun _ _ _ _=>none) | fuel+1=>(fun wv out f b=>zes (zF fuel).1 (zF fuel).2.1 (zF fuel).2.2 wv out f b,fun wv out message b=>zeH (zF fuel).1 (zF fuel).2.1 (zF fuel).2.2 wv out message b,fun wv out f b=>zet (zF fuel).1 (zF fuel).2.1 (zF fuel).2.2 wv out f b)
def zeA (fuel:Nat):zP->(List UInt8)->za->(List UInt8)->Option ((List UInt8)×(List (zh×Int))):=(zF fuel).1
def zbK (fuel:Nat):zP->(List UInt8)->Int->(List UInt8)->Option ((List UInt8)×(List (zh×Int))):=(zF fuel).2.1
def zhX (fuel:Nat):zP->(List UInt8)->za->(List UInt8)->Option ((List UInt8)×(List (zh×Int))):=(zF fuel).2.2
theorem zop {b:List UInt8} {f:za} {xb:zP->(List UInt8)->za->(List UInt8)->Option ((List UInt8)×(List (zh×Int)))} {wv:zP} {w7:List (zh×Int)} {kr:List UInt8} {km:Int} {wv2':List (zh×Int)} {out2':List UInt8} {fromv':Int} (h:zcH b f xb wv w7 kr km=some (.inl (wv2',out2',fromv'))):zdR b f xb wv w7 kr km=zdR b f xb wv wv2' out2' fromv':=zB h
theorem zoq {b:List UInt8} {f:za} {xb:zP->(List UInt8)->za->(List UInt8)->Option ((List UInt8)×(List (zh×Int)))} {wv:zP} {w7:List (zh×Int)} {kr:List UInt8} {km:Int} {wW:((List (zh×Int))×(List UInt8))} (h:zcH b f xb wv w7 kr km=some (.inr wW)):zdR b f xb wv w7 kr km=some wW:=zC h
theorem zhN {b:List UInt8} {message:Int} {wv:zP} {x:ze} {w7:List (zh×Int)} {ko:List (Int×(List UInt8))} {wR:List UInt8} {km:Int} {wv2':List (zh×Int)} {known':List (Int×(List UInt8))} {rest':List UInt8} {fromv':Int} (h:zbm b message wv x w7 ko wR km=some (.inl (wv2',known',rest',fromv'))):zbW b message wv x w7 ko wR km=zbW b message wv x wv2' known' rest' fromv':=zB h
theorem zmU {b:List UInt8} {message:Int} {wv:zP} {x:ze} {w7:List (zh×Int)} {ko:List (Int×(List UInt8))} {wR:List UInt8} {km:Int} {wW:((List (zh×Int))×(List (Int×(List UInt8)))×(List UInt8))} (h:zbm b message wv x w7 ko wR km=some (.inr wW)):zbW b message wv x w7 ko wR km=some wW:=zC h
theorem zmV {message:Int} {q:((List (zh×Int))×(List (Int×(List UInt8)))×(List UInt8))} {xc:zP->(List UInt8)->za->(List UInt8)->Option ((List UInt8)×(List (zh×Int)))} {v4:List Int} {wv:zP} {x:ze} {wv4:List (zh×Int)} {kr:List UInt8} {v5:Int} {wv4':List (zh×Int)} {out2':List UInt8} {v5':Int} (h:zbV message q xc v4 wv x wv4 kr v5=some (.inl (wv4',out2',v5'))):zcX message q xc v4 wv x wv4 kr v5=zcX message q xc v4 wv x wv4' out2' v5':=zB h
theorem zmW {message:Int} {q:((List (zh×Int))×(List (Int×(List UInt8)))×(List UInt8))} {xc:zP->(List UInt8)->za->(List UInt8)->Option ((List UInt8)×(List (zh×Int)))} {v4:List Int} {wv:zP} {x:ze} {wv4:List (zh×Int)} {kr:List UInt8} {v5:Int} {wW:((List (zh×Int))×(List UInt8))} (h:zbV message q xc v4 wv x wv4 kr v5=some (.inr wW)):zcX message q xc v4 wv x wv4 kr v5=some wW:=zC h
def zki (fuel:Nat) (sv:List ze) (root:Int) (b:List UInt8):Option (List UInt8):=zbK fuel (⟨sv,([]:List (zh×Int))⟩:zP) ([]:List UInt8) root b>>=fun wQ=>some wQ.1
def zjz (fuel:Nat) (sv:List ze) (root:Int) (b:List UInt8) (d:Int):Option ((List UInt8)×Int):=zkr fuel sv root b d>>=fun rv=>if (rv.2 !=0) then some ([],rv.2) else zki fuel sv root b>>=fun wQ=>some (wQ,0)
def zeX (fuel:Nat):Option Bool:=zjz fuel ([(⟨[109],([(⟨[97],1,3,false,false,0⟩:za)]:List za)⟩:ze)]:List ze) 0 ([(8:UInt8),(129:UInt8),(0:UInt8),(8:UInt8),(130:UInt8),(0:UInt8)]:List UInt8) 0>>=fun rv=>(if ((i64.wrap rv.2)==0) then (ziD rv.1 ([(8:UInt8),(2:UInt8)]:List UInt8)>>=fun wQ=>some wQ) else some false)>>=fun g=>some g
def znx (fuel:Nat) (sv:List ze) (root:Int) (av:List UInt8) (b:List UInt8) (d:Int):Option (Bool×Int):=zjz fuel sv root av d>>=fun rv=>if (rv.2 !=0) then some (false,rv.2) else zjz fuel sv root b d>>=fun wQ=>(if (wQ.2==0) then (zmg rv.1 wQ.1>>=fun wV=>some wV) else some false)>>=fun g=>some (g,wQ.2)
def zdF (fuel:Nat) (sv:List ze) (root:Int) (av:List UInt8) (b:List UInt8) (d:Int):Option Bool:=zeX fuel>>=fun rv=>if (!rv) then some false else (zgb sv>>=fun wQ=>if ((!wQ)|| (decide ((i64.wrap ((av.length:Int)+(b.length:Int)))>1500))) then some true else znx fuel sv root av b d>>=fun wV=>zdL fuel sv root av d>>=fun kc=>((if (kc.2==0) then (zdL fuel sv root b d>>=fun rv5=>some rv5.2) else (some kc.2) :Option Int))>>=fun p=>if (p !=0) then some (((i64.wrap wV.2)==p)&&(!wV.1)) else (if ((i64.wrap wV.2)==0) then (zcC fuel sv root av>>=fun rv6=>zcC fuel sv root b>>=fun rv7=>zbi fuel rv6 rv7>>=fun rv8=>some (wV.1==rv8)) else some false)>>=fun g=>some g)
end
end Go.Proofs.YtaglemhabeipfaaGreat
