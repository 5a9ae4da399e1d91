/-
  What the Go functions do, as plain functions. No condition.
-/
import Derived.Test.YtaglemhabeipfaaGreatx1K2
set_option autoImplicit true
set_option relaxedAutoImplicit true
namespace Go.Proofs.YtaglemhabeipfaaGreat
open Go.IntKind (i32 i64 u32 u64 u8)
open Go
set_option linter.unusedVariables false
abbrev Str:=List UInt8
structure zQR where
  a0:Str
  a1:Str
  a2:Str
  a3:Str
  a4:Str
  a5:Str
  a6:Str
  a7:Str
  a8:Str
  a9:Str
  a10:Str
  a11:Str
  a12:Str
  a13:Str
  a14:Str deriving DecidableEq
structure zj where
  Number:Int
  Wire:Int
  From:Int
  At:Int
  To:Int deriving DecidableEq
def zp:Rp zj:=⟨5,true,fun x=>[.int .i64 x.Number,.int .i64 x.Wire,.int .i64 x.From,.int .i64 x.At,.int .i64 x.To],fun _=>rfl,by decide⟩
structure zi where
  Record:zj
  Field:Int
  Run:Bool deriving DecidableEq
def zk:Rp zi:=⟨7,true,fun x=>[.int .i64 x.Record.Number,.int .i64 x.Record.Wire,.int .i64 x.Record.From,.int .i64 x.Record.At,.int .i64 x.Record.To,.int .i64 x.Field,.bool x.Run],fun _=>rfl,by decide⟩
structure zu where
  name:Str
  wire:Int deriving DecidableEq
def zan:Rp zu:=⟨2,true,fun x=>[.str x.name,.int .i64 x.wire],fun _=>rfl,by decide⟩
mutual
structure zh where
  Values:(List ze)
  Unknown:(List Str)
structure ze where
  Number:Int
  Words:(List Int)
  Texts:(List Str)
  Subs:(List zh)
end
mutual
def zhJ:zh->List LV | ⟨x0,x1⟩=>[.sl x0.length 4 (zdq x0),.sl x1.length Rp.str.size (x1.flatMap Rp.str.lv)]
def zhc:List zh->List LV | []=>[] | x::l=>zhJ x++zhc l
def zdD:ze->List LV | ⟨x0,x1,x2,x3⟩=>[.int .i64 x0,.sl x1.length (Rp.int .u64).size (x1.flatMap (Rp.int .u64).lv),.sl x2.length Rp.str.size (x2.flatMap Rp.str.lv),.sl x3.length 2 (zhc x3)]
def zdq:List ze->List LV | []=>[] | x::l=>zdD x++zdq l
end
theorem ztp (l:List zh):zhc l=l.flatMap zhJ:=by
  induction l with
  | nil=>rfl
  | cons x l ih=>rw [zhc,ih,xE]
def zN:Rp zh:=⟨2,true,zhJ,fun x=>by cases x;rfl,by decide⟩
theorem zlE (l:List ze):zdq l=l.flatMap zdD:=by
  induction l with
  | nil=>rfl
  | cons x l ih=>rw [zdq,ih,xE]
def zy:Rp ze:=⟨4,true,zdD,fun x=>by cases x;rfl,by decide⟩
theorem zhb (x:zh):zN.lv x=[.sl x.Values.length zy.size (x.Values.flatMap zy.lv),.sl x.Unknown.length Rp.str.size (x.Unknown.flatMap Rp.str.lv)]:=by
  cases x;simp only [zN,zhJ,zlE,zy]<;>rfl
theorem zbU (x:ze):zy.lv x=[.int .i64 x.Number,.sl x.Words.length (Rp.int .u64).size (x.Words.flatMap (Rp.int .u64).lv),.sl x.Texts.length Rp.str.size (x.Texts.flatMap Rp.str.lv),.sl x.Subs.length zN.size (x.Subs.flatMap zN.lv)]:=by
  cases x;simp only [zy,zdD,ztp,zN]<;>rfl
structure za where
  Name:Str
  Number:Int
  Kind:Int
  Repeated:Bool
  Packed:Bool
  Of:Int deriving DecidableEq
def zb:Rp za:=⟨6,true,fun x=>[.str x.Name,.int .i64 x.Number,.int .i64 x.Kind,.bool x.Repeated,.bool x.Packed,.int .i64 x.Of],fun _=>rfl,by decide⟩
structure zc where
  Name:Str
  Fields:(List za) deriving DecidableEq
def zd:Rp zc:=⟨2,true,fun x=>[.str x.Name,.sl x.Fields.length zb.size (x.Fields.flatMap zb.lv)],fun _=>rfl,by decide⟩
structure zaa where
  Number:Int
  Wire:Int deriving DecidableEq
def zbG:Rp zaa:=⟨2,true,fun x=>[.int .i64 x.Number,.int .i64 x.Wire],fun _=>rfl,by decide⟩
structure zv where
  message:Int
  name:Str deriving DecidableEq
def zC:Rp zv:=⟨2,true,fun x=>[.int .i64 x.message,.str x.name],fun _=>rfl,by decide⟩
structure zg where
  message:Int
  number:Int deriving DecidableEq
def zf:Rp zg:=⟨2,true,fun x=>[.int .i64 x.message,.int .i64 x.number],fun _=>rfl,by decide⟩
structure zav where
  size:Int
  kinds:(List Int)
  names:(List (zv×Bool))
  numbers:(List (zg×Bool))
structure zau where
  Message:Int
  Field:Int
  What:Int deriving DecidableEq
def zet:Rp zau:=⟨3,true,fun x=>[.int .i64 x.Message,.int .i64 x.Field,.int .i64 x.What],fun _=>rfl,by decide⟩
structure zL where
  number:Int
  wire:Int deriving DecidableEq
def zY:Rp zL:=⟨2,true,fun x=>[.int .i64 x.number,.int .i64 x.wire],fun _=>rfl,by decide⟩
structure zQ where
  field:Int
  run:Bool
  e:Int deriving DecidableEq
def zZ:Rp zQ:=⟨3,true,fun x=>[.int .i64 x.field,.bool x.run,.int .u8 x.e],fun _=>rfl,by decide⟩
structure zD where
  R:zj
  Field:Int
  Run:Bool deriving DecidableEq
def zao:Rp zD:=⟨7,true,fun x=>[.int .i64 x.R.Number,.int .i64 x.R.Wire,.int .i64 x.R.From,.int .i64 x.R.At,.int .i64 x.R.To,.int .i64 x.Field,.bool x.Run],fun _=>rfl,by decide⟩
structure zn where
  message:Int
  number:Int
  wire:Int deriving DecidableEq
def zo:Rp zn:=⟨3,true,fun x=>[.int .i64 x.message,.int .i64 x.number,.int .i64 x.wire],fun _=>rfl,by decide⟩
structure zah where
  s:(List zc)
  b:(List UInt8)
  met:(List (zn×zi))
structure zw where
  depth:Int
  place:Int
  e:Int deriving DecidableEq
def zam:Rp zw:=⟨3,true,fun x=>[.int .i64 x.depth,.int .i64 x.place,.int .u8 x.e],fun _=>rfl,by decide⟩
structure zOW where
  a0:Int
  a1:Int deriving DecidableEq
structure zMQ where
  pieces:(List (List UInt8))
  size:Int deriving DecidableEq
structure zS where
  s:(List zc)
  met:(List (zg×Int))
noncomputable section
def zds (sv:List zh):Option (List zh):=app 48 ([]:List zh) sv>>=fun v=>some v
def zct (sv:List ze):Option (List ze):=app 80 ([]:List ze) sv>>=fun v=>some v
def zcP (n:Int):Option (List UInt8):=if (decide (n<0)) then none else if (decide ((i64.wrap (n - (i64.wrap (0 - 0))))>0)) then (mkO 1 (0:UInt8) (i64.wrap (n - (i64.wrap (0 - 0)))) (i64.wrap (n - (i64.wrap (0 - 0))))>>=fun v=>cut v 0 0>>=fun v2=>some v2) else some []
def zaw (k6:List (List UInt8)) (size:Int) (v:Int):Option ((Int×Int)⊕Int):=if (decide (v<(k6.length:Int))) then (idx k6 v>>=fun x=>if (decide ((i64.wrap (size+(x.length:Int)))<0)) then none else some (.inl ((i64.wrap (size+(x.length:Int))),(i64.wrap (v+1))))) else some (.inr size)
def zaN (k6:List (List UInt8)) (size:Int) (v:Int):Option Int:=zW (fun s=>zaw k6 s.1 s.2) (size,v)
def zax (k6:List (List UInt8)) (ja:List UInt8) (v2:Int):Option (((List UInt8)×Int)⊕(List UInt8)):=if (decide (v2<(k6.length:Int))) then (idx k6 v2>>=fun x2=>app 1 ja x2>>=fun v3=>some (.inl (v3,(i64.wrap (v2+1))))) else some (.inr ja)
def zaO (k6:List (List UInt8)) (ja:List UInt8) (v2:Int):Option (List UInt8):=zW (fun s=>zax k6 s.1 s.2) (ja,v2)
def zaJ (k6:List (List UInt8)):Option (List UInt8):=zaN k6 0 0>>=fun q=>zcP q>>=fun rv=>zaO k6 rv 0>>=fun q2=>some q2
theorem zjn (h:zaw k6 size v=some (.inl (size',v'))):zaN k6 size v=zaN k6 size' v':=zz h
theorem zjo (h:zaw k6 size v=some (.inr ko)):zaN k6 size v=some ko:=zA h
theorem zjp (h:zax k6 ja v2=some (.inl (newslice',v2'))):zaO k6 ja v2=zaO k6 newslice' v2':=zz h
theorem zjq (h:zax k6 ja v2=some (.inr ko)):zaO k6 ja v2=some ko:=zA h
def zaK (sv:List Int) (v:Int) (v2:Int):Option (Int⊕(Unit⊕Int)):=if (decide (v2<(sv.length:Int))) then (idx sv v2>>=fun x=>if (v==x) then some (.inr (.inr v2)) else some (.inl (i64.wrap (v2+1)))) else some (.inr (.inl ()))
def zbs (sv:List Int) (v:Int) (v2:Int):Option (Unit⊕Int):=zW (fun s=>zaK sv v s) v2
def zdo (sv:List Int) (v:Int):Option Int:=zbs sv v 0>>=fun q=>match q with | .inl u=>(some (-1)) | .inr u2=>(some u2)
theorem zkB (h:zaK sv v v2=some (.inl v2')):zbs sv v v2=zbs sv v v2':=zz h
theorem zgL (h:zaK sv v v2=some (.inr ko)):zbs sv v v2=some ko:=zA h
def zck (sv:List Int) (v:Int):Option Bool:=zdo sv v>>=fun rv=>some (decide (rv>=0))
def zcE (sv:List Str):Option (List Str):=app 16 ([]:List Str) sv>>=fun v=>some v
def zeC (sv:List Int):Option (List Int):=app 8 ([]:List Int) sv>>=fun v=>some v
def ziU (av:List UInt8) (b:List UInt8):Option Bool:=some (av==b)
def ziT (kA:Int) (n:Int):Option ((Int×Int)⊕Int):=if (kA !=0) then some (.inl ((shrI .u64 kA 7),(i64.wrap (n+1)))) else some (.inr n)
def zkL (kA:Int) (n:Int):Option Int:=zW (fun s=>ziT s.1 s.2) (kA,n)
def zom (wv:Int):Option Int:=zkL (shrI .u64 wv 7) 1>>=fun q=>some q
theorem zwN (h:ziT kA n=some (.inl (wv2',n'))):zkL kA n=zkL wv2' n':=zz h
theorem zwO (h:ziT kA n=some (.inr ko)):zkL kA n=some ko:=zA h
def zeu (v:List UInt8) (wv:Int) (b:List UInt8) (v2:Int):Option (((List UInt8)×Int)⊕(List UInt8)):=if (decide (v2<(v.length:Int))) then (shrO .u64 wv (i64.wrap (8*v2))>>=fun v3=>idx b v2>>=fun x=>zhL (u8.wrap v3)>>=fun y2=>some (.inl ((b.set (Int.toNat v2) y2),(i64.wrap (v2+1))))) else some (.inr b)
def zgB (v:List UInt8) (wv:Int) (b:List UInt8) (v2:Int):Option (List UInt8):=zW (fun s=>zeu v wv s.1 s.2) (b,v2)
def zkM (wv:Int) (n:Int):Option (List UInt8):=mkO 1 (0:UInt8) (if (8:Int)<(if n<0 then 0 else n) then 8 else if n<0 then 0 else n) (if (8:Int)<(if n<0 then 0 else n) then 8 else if n<0 then 0 else n)>>=fun v=>zgB v wv v 0>>=fun q=>some q
theorem ztd {v:List UInt8} {wv:Int} {b:List UInt8} {v2:Int} {b':List UInt8} {v2':Int} (h:zeu v wv b v2=some (.inl (b',v2'))):zgB v wv b v2=zgB v wv b' v2':=zz h
theorem zte {v:List UInt8} {wv:Int} {b:List UInt8} {v2:Int} {ko:List UInt8} (h:zeu v wv b v2=some (.inr ko)):zgB v wv b v2=some ko:=zA h
def zkg (wv:Int):Option Int:=some (u32.wrap wv)
def zkN (wv:Int):Option Int:=zkg wv>>=fun rv=>some (i32.wrap rv)
def zkO (n:Int):Option Int:=some (u64.wrap (i64.wrap n))
def zgU (v:List UInt8) (wv:Int) (v2:Int):Option ((Int×Int)⊕Int):=if (decide (v2<(v.length:Int))) then (idx v v2>>=fun x=>shlO .u64 (u64.wrap (x.toNat:Int)) (i64.wrap (8*v2))>>=fun v3=>some (.inl ((orI .u64 wv v3),(i64.wrap (v2+1))))) else some (.inr wv)
def zia (v:List UInt8) (wv:Int) (v2:Int):Option Int:=zW (fun s=>zgU v s.1 s.2) (wv,v2)
def zon (b:List UInt8):Option Int:=cut b 0 (if (8:Int)<(b.length:Int) then 8 else (b.length:Int))>>=fun v=>zia v 0 0>>=fun q=>some q
theorem zvm (h:zgU v wv v2=some (.inl (wv',v2'))):zia v wv v2=zia v wv' v2':=zz h
theorem zvn (h:zgU v wv v2=some (.inr ko)):zia v wv v2=some ko:=zA h
def zby (n:Int) (kA:Int) (out:List UInt8) (i:Int):Option ((Int×(List UInt8)×Int)⊕(List UInt8)):=if ((decide (i<n))&&(decide (i<8))) then (zhL (u8.wrap (Int.tmod kA 256))>>=fun y=>app 1 out ([y]:List UInt8)>>=fun v2=>some (.inl ((u64.wrap (Int.tdiv kA 256)),v2,(i64.wrap (i+1))))) else (some (.inr out))
def zco (n:Int) (kA:Int) (out:List UInt8) (i:Int):Option (List UInt8):=zW (fun s=>zby n s.1 s.2.1 s.2.2) (kA,out,i)
def zdH (wv:Int) (n:Int):Option (List UInt8):=zco n wv [] 0>>=fun q=>some q
theorem zmb {n:Int} {kA:Int} {out:List UInt8} {i:Int} {wv2':Int} {kV:List UInt8} {i':Int} (h:zby n kA out i=some (.inl (wv2',kV,i'))):zco n kA out i=zco n wv2' kV i':=zz h
theorem zmc {n:Int} {kA:Int} {out:List UInt8} {i:Int} {ko:List UInt8} (h:zby n kA out i=some (.inr ko)):zco n kA out i=some ko:=zA h
def zdw (av:List UInt8) (b:List UInt8):Option Bool:=some (av==b)
def zcb (b:List UInt8) (wv:Int) (place:Int) (i:Int):Option ((Int×Int×Int)⊕Int):=if ((decide (i<(b.length:Int)))&&(decide (i<8))) then (idx b i>>=fun x=>some (.inl ((u64.wrap (wv+(u64.wrap ((u64.wrap (x.toNat:Int))*place)))),(u64.wrap (place*256)),(i64.wrap (i+1))))) else some (.inr wv)
def zdb (b:List UInt8) (wv:Int) (place:Int) (i:Int):Option Int:=zW (fun s=>zcb b s.1 s.2.1 s.2.2) (wv,place,i)
def zfX (b:List UInt8):Option Int:=zdb b 0 1 0>>=fun q=>some q
theorem znG {b:List UInt8} {wv:Int} {place:Int} {i:Int} {wv':Int} {place':Int} {i':Int} (h:zcb b wv place i=some (.inl (wv',place',i'))):zdb b wv place i=zdb b wv' place' i':=zz h
theorem znH {b:List UInt8} {wv:Int} {place:Int} {i:Int} {ko:Int} (h:zcb b wv place i=some (.inr ko)):zdb b wv place i=some ko:=zA h
def zeW (wv:Int):Option Int:=if (decide ((i64.wrap (Int.tmod wv 4294967296))>=2147483648)) then some (i64.wrap ((i64.wrap (Int.tmod wv 4294967296)) - 4294967296)) else some (i64.wrap (Int.tmod wv 4294967296))
def zfW (n:Int):Option Int:=if (decide (n>=0)) then some (u64.wrap n) else some (u64.wrap (18446744073709551615 - (u64.wrap (i64.wrap (0 - (i64.wrap (n+1)))))))
def zeH (v:List UInt8) (wv:Int) (v2:Int):Option ((Int×Int)⊕(Unit⊕(Int×Int×Int))):=if (decide (v2<(v.length:Int))) then (idx v v2>>=fun x=>if ((v2==9)&&(decide ((x.toNat:Int)>1))) then some (.inr (.inr (0,0,4))) else shlO .u64 (u64.wrap (andI .u8 (x.toNat:Int) 127)) (i64.wrap (7*v2))>>=fun v4=>if (decide ((x.toNat:Int)<128)) then some (.inr (.inr ((orI .u64 wv v4),(i64.wrap (v2+1)),0))) else some (.inl ((orI .u64 wv v4),(i64.wrap (v2+1))))) else some (.inr (.inl ()))
def zgO (v:List UInt8) (wv:Int) (v2:Int):Option (Unit⊕(Int×Int×Int)):=zW (fun s=>zeH v s.1 s.2) (wv,v2)
def zgR (b:List UInt8):Option (Int×Int×Int):=cut b 0 (if (10:Int)<(b.length:Int) then 10 else (b.length:Int))>>=fun v=>zgO v 0 0>>=fun q=>match q with | .inl u=>(some (0,0,3)) | .inr u2=>(some (u2.1,u2.2.1,u2.2.2))
theorem ztJ (h:zeH v wv v2=some (.inl (wv',v2'))):zgO v wv v2=zgO v wv' v2':=zz h
theorem ziQ (h:zeH v wv v2=some (.inr ko)):zgO v wv v2=some ko:=zA h
def zgt (kA:Int) (l:List UInt8):Option ((Int×(List UInt8))⊕(Int×(List UInt8))):=if (decide (kA>=128)) then (zhL (orI .u8 (u8.wrap kA) 128)>>=fun y=>app 1 l ([y]:List UInt8)>>=fun v3=>some (.inl ((shrI .u64 kA 7),v3))) else some (.inr (kA,l))
def ziE (kA:Int) (l:List UInt8):Option (Int×(List UInt8)):=zW (fun s=>zgt s.1 s.2) (kA,l)
def ziP (b:List UInt8) (wv:Int):Option (List UInt8):=zom wv>>=fun rv=>mkO 1 (0:UInt8) 0 (i64.wrap ((b.length:Int)+rv))>>=fun v=>app 1 v b>>=fun v2=>ziE wv v2>>=fun q=>zhL (u8.wrap q.1)>>=fun y2=>app 1 q.2 ([y2]:List UInt8)>>=fun v4=>some v4
theorem zuY {kA:Int} {l:List UInt8} {wv2':Int} {l':List UInt8} (h:zgt kA l=some (.inl (wv2',l'))):ziE kA l=ziE wv2' l':=zz h
theorem zuZ {kA:Int} {l:List UInt8} {ko:(Int×(List UInt8))} (h:zgt kA l=some (.inr ko)):ziE kA l=some ko:=zA h
def zfq (xo:Int->Option (List UInt8)) (wv:Int):Option (List UInt8):=if (decide (wv<128)) then (zhL (u8.wrap wv)>>=fun y=>some ([y]:List UInt8)) else zhL (u8.wrap (u64.wrap (128+(Int.tmod wv 128))))>>=fun y2=>xo (u64.wrap (Int.tdiv wv 128))>>=fun rv=>app 1 ([y2]:List UInt8) rv>>=fun v=>some v
def zcp:Nat->Int->Option (List UInt8) | 0,_=>none | fuel+1,wv=>zfq (zcp fuel) wv
def zbu (kp:Int) (b:List UInt8) (n:Int):Option (Int⊕Int):=(if (decide ((i64.wrap (kp+n))<(b.length:Int))) then (if (decide (n<10)) then (idx b (i64.wrap (kp+n))>>=fun x=>some (decide ((x.toNat:Int)>=128))) else some false) else some false)>>=fun g=>if g then some (.inl (i64.wrap (n+1))) else some (.inr n)
def zdd (kp:Int) (b:List UInt8) (n:Int):Option Int:=zW (fun s=>zbu kp b s) n
def zdc (kp:Int) (b:List UInt8) (wv:Int) (i:Int):Option ((Int×Int)⊕Int):=if (decide (i>=0)) then (idx b (i64.wrap (kp+i))>>=fun x3=>some (.inl ((u64.wrap ((u64.wrap (128*wv))+(u64.wrap (Int.tmod (x3.toNat:Int) 128)))),(i64.wrap (i - 1))))) else some (.inr wv)
def zde (kp:Int) (b:List UInt8) (wv:Int) (i:Int):Option Int:=zW (fun s=>zdc kp b s.1 s.2) (wv,i)
def zaH (b:List UInt8) (kp:Int):Option (Int×Int×Int):=zdd kp b 0>>=fun q=>if (q==10) then some (0,0,4) else if ((i64.wrap (kp+q))==(b.length:Int)) then some (0,0,3) else (if (q==9) then (idx b (i64.wrap (kp+q))>>=fun x2=>some (decide ((x2.toNat:Int)>1))) else some false)>>=fun g2=>if g2 then some (0,0,4) else zde kp b 0 q>>=fun q2=>some (q2,(i64.wrap (q+1)),0)
theorem znI (h:zbu kp b n=some (.inl n')):zdd kp b n=zdd kp b n':=zz h
theorem zgn (h:zbu kp b n=some (.inr ko)):zdd kp b n=some ko:=zA h
theorem znJ (h:zdc kp b wv i=some (.inl (wv',i'))):zde kp b wv i=zde kp b wv' i':=zz h
theorem znK (h:zdc kp b wv i=some (.inr ko)):zde kp b wv i=some ko:=zA h
def zjl (b:List UInt8):Option (Int×Int):=zgR b>>=fun rv=>some (rv.2.1,rv.2.2)
def ziA (wire:Int):Option Bool:=if (wire==0) then if (wire==0) then some true else (some false) else if (wire==1) then if (wire==1) then some true else (some false) else if (wire==2) then if (wire==2) then some true else (some false) else if (wire==5) then some true else some false
def zlT (t:zaa):Option Bool:=(if (decide (t.Number>=1)) then (if (decide (t.Number<=536870911)) then (ziA t.Wire>>=fun rv=>some rv) else some false) else some false)>>=fun g=>some g
def zrE (b:List UInt8):Option (zaa×Int×Int):=zgR b>>=fun rv=>if (rv.2.2 !=0) then some ((⟨0,0⟩:zaa),0,rv.2.2) else (zlT (⟨(i64.wrap (if (536870912:Int)<(shrI .u64 rv.1 3) then 536870912 else shrI .u64 rv.1 3)),(i64.wrap (andI .u64 rv.1 7))⟩:zaa)>>=fun kj=>if (!kj) then some ((⟨0,0⟩:zaa),0,5) else (some ((⟨(i64.wrap (if (536870912:Int)<(shrI .u64 rv.1 3) then 536870912 else shrI .u64 rv.1 3)),(i64.wrap (andI .u64 rv.1 7))⟩:zaa),rv.2.1,0)))
def zrF (t:zaa):Option Int:=some (orI .u64 (shlI .u64 (u64.wrap t.Number) 3) (u64.wrap t.Wire))
def zpI (b:List UInt8) (t:zaa):Option ((List UInt8)×Int):=zlT t>>=fun rv=>if (!rv) then some ([],2) else zrF t>>=fun kj=>ziP b kj>>=fun kr=>some (kr,0)
def zfr (number:Int) (wire:Int):Option Bool:=some ((decide (number>=1))&&((decide (number<=536870911))&&((wire==0)|| ((wire==1)|| ((wire==2)|| (wire==5))))))
def zgE (fuel:Nat) (number:Int) (wire:Int):Option (List UInt8):=zcp fuel (u64.wrap (i64.wrap ((i64.wrap (8*number))+wire)))>>=fun rv=>some rv
def zfY (b:List UInt8) (kp:Int):Option (Int×Int×Int×Int):=zaH b kp>>=fun rv=>if (rv.2.2 !=0) then some (0,0,0,rv.2.2) else (if (decide (rv.1>4294967295)) then some true else zfr (i64.wrap (u64.wrap (Int.tdiv rv.1 8))) (i64.wrap (Int.tmod rv.1 8))>>=fun kj=>some (!kj))>>=fun g=>if g then some (0,0,0,5) else some ((i64.wrap (u64.wrap (Int.tdiv rv.1 8))),(i64.wrap (Int.tmod rv.1 8)),rv.2.1,0)
def zuX (c:Int):Option (Int×Int):=if ((shrI .u8 c 7)==0) then some (1,(u32.wrap c)) else if ((shrI .u8 c 5)==6) then some (2,(u32.wrap (andI .u8 c 31))) else if ((shrI .u8 c 4)==14) then some (3,(u32.wrap (andI .u8 c 15))) else if ((shrI .u8 c 3)==30) then some (4,(u32.wrap (andI .u8 c 7))) else some (0,0)
def zoX (wv:Int):Option Int:=if ((shrI .u32 wv 7)==0) then some 1 else if ((shrI .u32 wv 11)==0) then some 2 else if ((shrI .u32 wv 11)==27) then some 0 else if ((shrI .u32 wv 16)==0) then some 3 else if (decide (wv<=1114111)) then some 4 else some 0
def zgQ (v2:List UInt8) (wv:Int) (v3:Int):Option ((Int×Int)⊕(Int⊕Unit)):=if (decide (v3<(v2.length:Int))) then (idx v2 v3>>=fun x2=>if ((shrI .u8 (x2.toNat:Int) 6) !=2) then some (.inr (.inr ())) else some (.inl ((orI .u32 (shlI .u32 wv 6) (u32.wrap (andI .u8 (x2.toNat:Int) 63))),(i64.wrap (v3+1))))) else some (.inr (.inl wv))
def zcF (v2:List UInt8) (wv:Int) (v3:Int):Option (Int⊕Unit):=zW (fun s=>zgQ v2 s.1 s.2) (wv,v3)
def zoW (b:List UInt8):Option Int:=if ((b.length:Int)==0) then some 0 else (idx b 0>>=fun x=>zuX (x.toNat:Int)>>=fun rv=>if ((rv.1==0)|| (decide (rv.1>(b.length:Int)))) then some 0 else (cut b 1 rv.1>>=fun v2=>zcF v2 rv.2 0>>=fun q=>match q with | .inl u=>(zoX u>>=fun kj=>if (rv.1 !=kj) then some 0 else some rv.1) | .inr u2=>(some 0)))
theorem zwW (h:zgQ v2 wv v3=some (.inl (wv',v3'))):zcF v2 wv v3=zcF v2 wv' v3':=zz h
theorem zpS (h:zgQ v2 wv v3=some (.inr ko)):zcF v2 wv v3=some ko:=zA h
def zhX (b:List UInt8) (kp:Int) (points:Int) (size:Int):Option ((Int×Int×Int)⊕(Int×Int)):=if (decide (size>0)) then (cut b (i64.wrap (kp+size)) (b.length:Int)>>=fun v=>zoW v>>=fun kj=>some (.inl ((i64.wrap (kp+size)),(i64.wrap (points+1)),kj))) else some (.inr (kp,points))
def zhY (b:List UInt8) (kp:Int) (points:Int) (size:Int):Option (Int×Int):=zW (fun s=>zhX b s.1 s.2.1 s.2.2) (kp,points,size)
def zrK (b:List UInt8):Option (Int×Int):=zoW b>>=fun rv=>zhY b 0 0 rv>>=fun q=>some (q.1,q.2)
theorem zwX (h:zhX b kp points size=some (.inl (atv',points',size'))):zhY b kp points size=zhY b atv' points' size':=zz h
theorem zwY (h:zhX b kp points size=some (.inr ko)):zhY b kp points size=some ko:=zA h
def zoV (b:List UInt8):Option Int:=zrK b>>=fun rv=>some rv.1
def zlV (b:List UInt8):Option Bool:=zoV b>>=fun rv=>some (rv==(b.length:Int))
def zgF (rv:Int):Option (List UInt8):=if ((decide (rv<0))|| ((decide (rv>1114111))|| ((decide (rv>=55296))&&(decide (rv<=57343))))) then some [] else if (decide (rv<128)) then (zhL (u8.wrap rv)>>=fun y=>some ([y]:List UInt8)) else if (decide (rv<2048)) then (zhL (u8.wrap (i64.wrap (192+(i64.wrap (Int.tdiv rv 64)))))>>=fun y2=>zhL (u8.wrap (i64.wrap (128+(Int.tmod rv 64))))>>=fun y3=>some ([y2,y3]:List UInt8)) else if (decide (rv<65536)) then (zhL (u8.wrap (i64.wrap (224+(i64.wrap (Int.tdiv rv 4096)))))>>=fun y4=>zhL (u8.wrap (i64.wrap (128+(Int.tmod (i64.wrap (Int.tdiv rv 64)) 64))))>>=fun y5=>zhL (u8.wrap (i64.wrap (128+(Int.tmod rv 64))))>>=fun y6=>some ([y4,y5,y6]:List UInt8)) else zhL (u8.wrap (i64.wrap (240+(i64.wrap (Int.tdiv rv 262144)))))>>=fun y7=>zhL (u8.wrap (i64.wrap (128+(Int.tmod (i64.wrap (Int.tdiv rv 4096)) 64))))>>=fun y8=>zhL (u8.wrap (i64.wrap (128+(Int.tmod (i64.wrap (Int.tdiv rv 64)) 64))))>>=fun y9=>zhL (u8.wrap (i64.wrap (128+(Int.tmod rv 64))))>>=fun y10=>some ([y7,y8,y9,y10]:List UInt8)
def zcc (kp:Int) (b:List UInt8) (n:Int) (kj:Int) (i:Int):Option ((Int×Int)⊕Int):=if (decide (i<n)) then (idx b (i64.wrap (kp+i))>>=fun x3=>some (.inl ((i64.wrap ((i64.wrap (64*kj))+(Int.tmod (i64.wrap (x3.toNat:Int)) 64))),(i64.wrap (i+1))))) else some (.inr kj)
def zaW (kp:Int) (b:List UInt8) (n:Int) (kj:Int) (i:Int):Option Int:=zW (fun s=>zcc kp b n s.1 s.2) (kj,i)
def zdg (kp:Int) (b:List UInt8) (n:Int):Option (Int⊕(Unit⊕Int)):=if ((decide (n<=4))&&(decide ((i64.wrap (kp+n))<=(b.length:Int)))) then (idx b kp>>=fun x=>((if (decide (n>1)) then (idx ([0,0,32,16,8]:List Int) n>>=fun x2=>remI (i64.wrap (x.toNat:Int)) x2>>=fun v3=>some v3) else (some (i64.wrap (x.toNat:Int))) :Option Int))>>=fun p=>zaW kp b n p 1>>=fun q=>zgF q>>=fun kE=>cut b kp (i64.wrap (kp+n))>>=fun v4=>if (kE==v4) then some (.inr (.inr n)) else some (.inl (i64.wrap (n+1)))) else some (.inr (.inl ()))
def zew (kp:Int) (b:List UInt8) (n:Int):Option (Unit⊕Int):=zW (fun s=>zdg kp b s) n
def zfZ (b:List UInt8) (kp:Int):Option Int:=zew kp b 1>>=fun q2=>match q2 with | .inl u=>(some 0) | .inr u2=>(some u2)
theorem znM (h:zcc kp b n kj i=some (.inl (rv2',i'))):zaW kp b n kj i=zaW kp b n rv2' i':=zz h
theorem znN (h:zcc kp b n kj i=some (.inr ko)):zaW kp b n kj i=some ko:=zA h
theorem znL (h:zdg kp b n=some (.inl n')):zew kp b n=zew kp b n':=zz h
theorem zgo (h:zdg kp b n=some (.inr ko)):zew kp b n=some ko:=zA h
def zbI (b:List UInt8) (kK:Int) (kp:Int) (count:Int):Option ((Int×Int)⊕(Int×Int)):=zfZ b kp>>=fun rv=>if ((rv==0)|| (decide ((i64.wrap (kp+rv))>kK))) then some (.inr (kp,count)) else some (.inl ((i64.wrap (kp+rv)),(i64.wrap (count+1))))
def zcG (b:List UInt8) (kK:Int) (kp:Int) (count:Int):Option (Int×Int):=zW (fun s=>zbI b kK s.1 s.2) (kp,count)
def zfs (b:List UInt8) (kK:Int):Option (Int×Int):=zcG b kK 0 0>>=fun q=>some (q.1,q.2)
theorem zmP (h:zbI b kK kp count=some (.inl (atv',count'))):zcG b kK kp count=zcG b kK atv' count':=zz h
theorem zmQ (h:zbI b kK kp count=some (.inr ko)):zcG b kK kp count=some ko:=zA h
def zcV (b:List UInt8):Option Bool:=zfs b (b.length:Int)>>=fun rv=>some (rv.1==(b.length:Int))
def zje (wire:Int) (b:List UInt8):Option (Int×Int×Int):=if (wire==0) then (zjl b>>=fun rv=>some (0,rv.1,rv.2)) else (((if (wire==1) then some (0,0,8) else (if (wire==5) then some (0,0,4) else if (wire==2) then (zgR b>>=fun kj=>some (kj.2.1,kj.2.2,kj.1)) else some (0,0,0)) :Option (Int×Int×Int)))>>=fun p=>if (p.2.1 !=0) then some (0,0,p.2.1) else if (decide (p.2.2>(u64.wrap (i64.wrap ((b.length:Int) - p.1))))) then some (0,0,3) else some (p.1,(i64.wrap (p.1+(i64.wrap p.2.2))),0))
def zgk (b:List UInt8) (kJ:Int):Option (zj×Int):=if ((decide (kJ<0))|| (decide (kJ>=(b.length:Int)))) then some ((⟨0,0,0,0,0⟩:zj),2) else (cut b kJ (b.length:Int)>>=fun v2=>zrE v2>>=fun rv=>if (rv.2.2 !=0) then some ((⟨0,0,0,0,0⟩:zj),rv.2.2) else (cut b (i64.wrap (kJ+rv.2.1)) (b.length:Int)>>=fun v3=>zje rv.1.Wire v3>>=fun kj=>if (kj.2.2 !=0) then some ((⟨0,0,0,0,0⟩:zj),kj.2.2) else (some ((⟨rv.1.Number,rv.1.Wire,kJ,(i64.wrap ((i64.wrap (kJ+rv.2.1))+kj.1)),(i64.wrap ((i64.wrap (kJ+rv.2.1))+kj.2.1))⟩:zj),0))))
def zkZ (wire:Int) (value:List UInt8):Option Bool:=if (wire==2) then some true else zje wire value>>=fun rv=>some ((rv.2.2==0)&&(rv.2.1==(value.length:Int)))
def zku (b:List UInt8) (number:Int) (wire:Int) (value:List UInt8):Option ((List UInt8)×Int):=zpI ([]:List UInt8) (⟨number,wire⟩:zaa)>>=fun rv=>(if (rv.2 !=0) then some true else zkZ wire value>>=fun kj=>some (!kj))>>=fun g=>if g then some ([],2) else if (wire==2) then (ziP rv.1 (u64.wrap (value.length:Int))>>=fun kr=>zaJ ([b,kr,value]:List (List UInt8))>>=fun kE=>some (kE,0)) else zaJ ([b,rv.1,value]:List (List UInt8))>>=fun rv5=>some (rv5,0)
def zmA (b:List UInt8) (number:Int) (value:List UInt8):Option (List UInt8):=zku b number 2 value>>=fun rv=>if (rv.2 !=0) then (zaJ ([b]:List (List UInt8))>>=fun kj=>some kj) else some rv.1
def zdh (fuel:Nat) (number:Int) (wire:Int) (value:List UInt8):Option (List UInt8):=zgE fuel number wire>>=fun rv=>if (wire==2) then (zcp fuel (u64.wrap (value.length:Int))>>=fun kj=>app 1 rv kj>>=fun v=>app 1 v value>>=fun v2=>some v2) else app 1 rv value>>=fun v3=>some v3
def zga (wire:Int) (value:List UInt8):Option Bool:=if (wire==0) then (zaH value 0>>=fun rv=>some ((rv.2.2==0)&&(rv.2.1==(value.length:Int)))) else (some ((wire==2)|| (if (wire==1) then ((value.length:Int)==8)|| ((wire==5)&&((value.length:Int)==4)) else (wire==5)&&((value.length:Int)==4))))
def zdx (b:List UInt8) (kJ:Int):Option (zj×Int):=if ((decide (kJ<0))|| (decide (kJ>=(b.length:Int)))) then some ((⟨0,0,0,0,0⟩:zj),2) else (zfY b kJ>>=fun rv=>if (rv.2.2.2 !=0) then some ((⟨0,0,0,0,0⟩:zj),rv.2.2.2) else (((if (rv.2.1==5) then some 4 else (some 8) :Option Int))>>=fun p=>((if (rv.2.1==0) then (zaH b (i64.wrap (kJ+rv.2.2.1))>>=fun kj=>if (kj.2.2 !=0) then some (.inr kj.2.2) else some (.inl kj.2.1)) else (some (.inl p)) :Option (Int⊕Int)))>>=fun p2=>match p2 with | .inl u=>(((if (rv.2.1==2) then (zaH b (i64.wrap (kJ+rv.2.2.1))>>=fun kr=>if (kr.2.2 !=0) then some (.inr kr.2.2) else if (decide (kr.1>(u64.wrap (i64.wrap ((i64.wrap ((b.length:Int) - (i64.wrap (kJ+rv.2.2.1)))) - kr.2.1))))) then some (.inr 3) else some (.inl ((i64.wrap ((i64.wrap ((b.length:Int) - (i64.wrap (kJ+rv.2.2.1)))) - kr.2.1)),(i64.wrap kr.1),(i64.wrap ((i64.wrap (kJ+rv.2.2.1))+kr.2.1))))) else (some (.inl ((i64.wrap ((b.length:Int) - (i64.wrap (kJ+rv.2.2.1)))),u,(i64.wrap (kJ+rv.2.2.1))))) :Option ((Int×Int×Int)⊕Int)))>>=fun p3=>match p3 with | .inl u2=>(if (decide (u2.2.1>u2.1)) then some ((⟨0,0,0,0,0⟩:zj),3) else some ((⟨rv.1,rv.2.1,kJ,u2.2.2,(i64.wrap (u2.2.2+u2.2.1))⟩:zj),0)) | .inr u3=>(some ((⟨0,0,0,0,0⟩:zj),u3))) | .inr u4=>(some ((⟨0,0,0,0,0⟩:zj),u4))))
def zbh (b:List UInt8) (out:List zj) (kp:Int):Option (((List zj)×Int)⊕((List zj)⊕(Int×Int))):=if (decide (kp<(b.length:Int))) then (zdx b kp>>=fun rv=>if (rv.2 !=0) then some (.inr (.inr (kp,rv.2))) else app 40 out ([rv.1]:List zj)>>=fun v3=>some (.inl (v3,rv.1.To))) else some (.inr (.inl out))
def zbJ (b:List UInt8) (out:List zj) (kp:Int):Option ((List zj)⊕(Int×Int)):=zW (fun s=>zbh b s.1 s.2) (out,kp)
def zft (b:List UInt8):Option ((List zj)×Int×Int):=zbJ b [] 0>>=fun q=>match q with | .inl u=>(some (u,0,0)) | .inr u2=>(some ([],u2.1,u2.2))
theorem zmR {b:List UInt8} {out:List zj} {kp:Int} {kV:List zj} {atv':Int} (h:zbh b out kp=some (.inl (kV,atv'))):zbJ b out kp=zbJ b kV atv':=zz h
theorem zij {b:List UInt8} {out:List zj} {kp:Int} {ko:((List zj)⊕(Int×Int))} (h:zbh b out kp=some (.inr ko)):zbJ b out kp=some ko:=zA h
def zps (wv:Int):Option Int:=some (if (1:Int)<wv then 1 else wv)
def zhO (k:Int) (wv:Int):Option (Int×Int):=((if (k==1) then some (k==1) else (some (k==8)) :Option Bool))>>=fun p=>if p then (zkN wv>>=fun rv=>zkO rv>>=fun kj=>some (kj,0)) else ((if (k==3) then some (k==3) else (if (k==5) then some (k==5) else if (k==9) then some (k==9) else if (k==10) then some (k==10) else some (k==11)) :Option Bool))>>=fun p2=>if p2 then (zkg wv>>=fun kr=>some ((u64.wrap kr),0)) else if (k==7) then (zps wv>>=fun kE=>some (kE,0)) else ((if (k==2) then some (k==2) else (if (k==4) then some (k==4) else if (k==6) then some (k==6) else if (k==12) then some (k==12) else if (k==13) then some (k==13) else some (k==14)) :Option Bool))>>=fun p3=>if p3 then some (wv,0) else some (0,2)
def zmq:Option (List (Int×zu)):=some (mput (mput (mput (mput (mput (mput (mput (mput (mput (mput (mput (mput (mput (mput (mput (mput (mput ([]:List (Int×zu)) 1 (⟨[105,110,116,51,50],0⟩:zu)) 2 (⟨[105,110,116,54,52],0⟩:zu)) 3 (⟨[117,105,110,116,51,50],0⟩:zu)) 4 (⟨[117,105,110,116,54,52],0⟩:zu)) 5 (⟨[115,105,110,116,51,50],0⟩:zu)) 6 (⟨[115,105,110,116,54,52],0⟩:zu)) 7 (⟨[98,111,111,108],0⟩:zu)) 8 (⟨[101,110,117,109],0⟩:zu)) 9 (⟨[102,105,120,101,100,51,50],5⟩:zu)) 10 (⟨[115,102,105,120,101,100,51,50],5⟩:zu)) 11 (⟨[102,108,111,97,116],5⟩:zu)) 12 (⟨[102,105,120,101,100,54,52],1⟩:zu)) 13 (⟨[115,102,105,120,101,100,54,52],1⟩:zu)) 14 (⟨[100,111,117,98,108,101],1⟩:zu)) 15 (⟨[115,116,114,105,110,103],2⟩:zu)) 16 (⟨[98,121,116,101,115],2⟩:zu)) 17 (⟨[109,101,115,115,97,103,101],2⟩:zu))
def zqR:Option (List Int):=zmq>>=fun rv=>zoA rv>>=fun v=>some v
def zlM (k:Int):Option (Int×Int):=zmq>>=fun rv=>if (!(mget rv k).isSome) then some (0,2) else some (((mget rv k).getD (⟨[],0⟩:zu)).wire,0)
def zed (k:Int):Option Bool:=some ((decide (k>=1))&&(decide (k<=17)))
def ziY (k:Int):Option Bool:=zlM k>>=fun rv=>some ((rv.2==0)&&(rv.1 !=2))
def zcC (k:Int):Option Int:=if (decide (k>=15)) then some 2 else if (decide (k>=12)) then some 1 else if (decide (k>=9)) then some 5 else some 0
def zaF (k:Int):Option Bool:=some ((decide (k>=1))&&(decide (k<=14)))
def zcW (k:Int) (wv:Int):Option Int:=((if (k==1) then some (k==1) else (some (k==8)) :Option Bool))>>=fun p=>if p then (zeW wv>>=fun rv=>zfW rv>>=fun kj=>some kj) else ((if (k==3) then some (k==3) else (if (k==5) then some (k==5) else if (k==9) then some (k==9) else if (k==10) then some (k==10) else some (k==11)) :Option Bool))>>=fun p2=>if p2 then some (Int.tmod wv 4294967296) else if (k==7) then if (decide (wv>0)) then some 1 else (some 0) else some wv
def zgK (c:Int):Option Bool:=some ((decide (c>=48))&&(decide (c<=57)))
def zho (c:Int):Option Bool:=some (if (decide (c>=97)) then (decide (c<=122))|| (if (decide (c>=65)) then (decide (c<=90))|| (c==95) else c==95) else (if (decide (c>=65)) then (decide (c<=90))|| (c==95) else c==95))
def zem (name:Str) (v2:Int):Option (Int⊕(Unit⊕Unit)):=if (decide (v2<(name.length:Int))) then ((idx name v2>>=fun c2=>zho (c2.toNat:Int)>>=fun kj=>if (!kj) then (idx name v2>>=fun c3=>zgK (c3.toNat:Int)>>=fun kr=>some (!kr)) else some false)>>=fun g2=>if g2 then some (.inr (.inr ())) else some (.inl (i64.wrap (v2+1)))) else some (.inr (.inl ()))
def zfk (name:Str) (v2:Int):Option (Unit⊕Unit):=zW (fun s=>zem name s) v2
def zhx (name:Str):Option Bool:=(if (name==[]) then some true else if (decide ((name.length:Int)>60)) then some true else idx name 0>>=fun c=>zgK (c.toNat:Int)>>=fun rv=>some rv)>>=fun g=>if g then some false else (zfk name 0>>=fun q=>match q with | .inl u=>(some true) | .inr u2=>(some false))
theorem zrB (h:zem name v2=some (.inl v2')):zfk name v2=zfk name v2':=zz h
theorem zld (h:zem name v2=some (.inr ko)):zfk name v2=some ko:=zA h
def zhp (n:Int):Option Bool:=some ((decide (n>=1))&&((decide (n<=536870911))&&((decide (n<19000))|| (decide (n>19999)))))
def zhU (f:za):Option Bool:=(if f.Repeated then (ziY f.Kind>>=fun rv=>some rv) else some false)>>=fun g=>some g
def zfE (c:zav) (f:za):Option Bool:=if (f.Kind==17) then some ((decide (f.Of>=0))&&(decide (f.Of<c.size))) else some (f.Of==0)
def zfD (c:zav) (message:Int) (f:za):Option (Int×(List (zv×Bool))×(List (zg×Bool))):=zhx f.Name>>=fun rv=>if (!rv) then some (5,c.names,c.numbers) else if ((mget c.names (⟨message,f.Name⟩:zv)).getD false) then some (6,c.names,c.numbers) else zhp f.Number>>=fun kj=>if (!kj) then some (7,c.names,c.numbers) else if ((mget c.numbers (⟨message,f.Number⟩:zg)).getD false) then some (8,c.names,c.numbers) else zck c.kinds f.Kind>>=fun kr=>if (!kr) then some (9,c.names,c.numbers) else (if f.Packed then (zhU f>>=fun kE=>some (!kE)) else some false)>>=fun g=>if g then some (10,c.names,c.numbers) else zfE c f>>=fun rv5=>if (!rv5) then some (11,c.names,c.numbers) else some (0,(mput c.names (⟨message,f.Name⟩:zv) true),(mput c.numbers (⟨message,f.Number⟩:zg) true))
def zeA (c:zav) (m:zc):Option (Int×(List (zv×Bool))×(List (zg×Bool))):=zhx m.Name>>=fun rv=>if (!rv) then some (2,c.names,c.numbers) else if ((mget c.names (⟨(-1),m.Name⟩:zv)).getD false) then some (3,c.names,c.numbers) else if (decide ((m.Fields.length:Int)>200)) then some (4,c.names,c.numbers) else some (0,(mput c.names (⟨(-1),m.Name⟩:zv) true),c.numbers)
def zcz (i:Int) (sv:List zc) (n3:Int) (k:Int):Option ((Int×Int)⊕Int):=idx sv i>>=fun x3=>if (decide (k<(x3.Fields.length:Int))) then (idx sv i>>=fun x4=>idx x4.Fields k>>=fun x5=>some (.inl ((i64.wrap (n3+(i64.wrap (Int.tdiv (x5.Name.length:Int) 100)))),(i64.wrap (k+1))))) else some (.inr n3)
def zdG (i:Int) (sv:List zc) (n3:Int) (k:Int):Option Int:=zW (fun s=>zcz i sv s.1 s.2) (n3,k)
def zcy (sv:List zc) (n:Int) (i:Int):Option ((Int×Int)⊕Int):=if (decide (i<(sv.length:Int))) then (idx sv i>>=fun x=>idx sv i>>=fun x2=>zdG i sv (i64.wrap ((i64.wrap ((i64.wrap (n+1))+(i64.wrap (Int.tdiv (x.Name.length:Int) 100))))+(x2.Fields.length:Int))) 0>>=fun q=>some (.inl (q,(i64.wrap (i+1))))) else some (.inr n)
def zdF (sv:List zc) (n:Int) (i:Int):Option Int:=zW (fun s=>zcy sv s.1 s.2) (n,i)
def zgD (sv:List zc):Option Bool:=zdF sv 0 0>>=fun q2=>some (decide (q2<=500))
theorem zoq (h:zcz i sv n3 k=some (.inl (n3',k'))):zdG i sv n3 k=zdG i sv n3' k':=zz h
theorem zor (h:zcz i sv n3 k=some (.inr ko)):zdG i sv n3 k=some ko:=zA h
theorem zoo (h:zcy sv n i=some (.inl (n',i'))):zdF sv n i=zdF sv n' i':=zz h
theorem zop (h:zcy sv n i=some (.inr ko)):zdF sv n i=some ko:=zA h
def zcT (rv:List Int) (sv:List zc) (v2:Int) (x:zc) (v3:Int) (f6:List (zv×Bool)) (f7:List (zg×Bool)):Option ((Int×(List (zv×Bool))×(List (zg×Bool)))⊕(((List (zv×Bool))×(List (zg×Bool)))⊕(Int×Int))):=if (decide (v3<(x.Fields.length:Int))) then (idx x.Fields v3>>=fun x2=>zfD (⟨(sv.length:Int),rv,f6,f7⟩:zav) v2 x2>>=fun rv5=>if (rv5.1 !=0) then some (.inr (.inr (v3,rv5.1))) else some (.inl ((i64.wrap (v3+1)),rv5.2.1,rv5.2.2))) else some (.inr (.inl (f6,f7)))
def zdT (rv:List Int) (sv:List zc) (v2:Int) (x:zc) (v3:Int) (f6:List (zv×Bool)) (f7:List (zg×Bool)):Option (((List (zv×Bool))×(List (zg×Bool)))⊕(Int×Int)):=zW (fun s=>zcT rv sv v2 x s.1 s.2.1 s.2.2) (v3,f6,f7)
def zbn (rv:List Int) (sv:List zc) (v2:Int) (f:List (zv×Bool)) (f2:List (zg×Bool)):Option ((Int×(List (zv×Bool))×(List (zg×Bool)))⊕(Unit⊕(Int×Int×Int))):=if (decide (v2<(sv.length:Int))) then (idx sv v2>>=fun x=>zeA (⟨(sv.length:Int),rv,f,f2⟩:zav) x>>=fun kr=>if (kr.1 !=0) then some (.inr (.inr (v2,(-1),kr.1))) else (zdT rv sv v2 x 0 kr.2.1 kr.2.2>>=fun q=>match q with | .inl u=>(some (.inl ((i64.wrap (v2+1)),u.1,u.2))) | .inr u2=>(some (.inr (.inr (v2,u2.1,u2.2)))))) else some (.inr (.inl ()))
def zfT (rv:List Int) (sv:List zc) (v2:Int) (f:List (zv×Bool)) (f2:List (zg×Bool)):Option (Unit⊕(Int×Int×Int)):=zW (fun s=>zbn rv sv s.1 s.2.1 s.2.2) (v2,f,f2)
def zjL (sv:List zc):Option (zau×Int):=if ((decide ((sv.length:Int)<1))|| (decide ((sv.length:Int)>100))) then some ((⟨(-1),(-1),1⟩:zau),9) else (zqR>>=fun rv=>zfT rv sv 0 ([]:List (zv×Bool)) ([]:List (zg×Bool))>>=fun q2=>match q2 with | .inl u3=>(some ((⟨0,0,0⟩:zau),0)) | .inr u4=>(some ((⟨u4.1,u4.2.1,u4.2.2⟩:zau),9)))
theorem zsJ {f6:List (zv×Bool)} {f7:List (zg×Bool)} (h:zcT rv sv v2 x v3 f6 f7=some (.inl (v3',f6',f7'))):zdT rv sv v2 x v3 f6 f7=zdT rv sv v2 x v3' f6' f7':=zz h
theorem zlx {f6:List (zv×Bool)} {f7:List (zg×Bool)} (h:zcT rv sv v2 x v3 f6 f7=some (.inr ko)):zdT rv sv v2 x v3 f6 f7=some ko:=zA h
theorem zsI {f2:List (zg×Bool)} (h:zbn rv sv v2 f f2=some (.inl (v2',f',f2'))):zfT rv sv v2 f f2=zfT rv sv v2' f' f2':=zz h
theorem zeZ {f2:List (zg×Bool)} (h:zbn rv sv v2 f f2=some (.inr ko)):zfT rv sv v2 f f2=some ko:=zA h
def zjM (sv:List zc):Option Bool:=zjL sv>>=fun rv=>some (rv.2==0)
def zcd (sv:Str) (i:Int):Option (Int⊕(Unit⊕Unit)):=if (decide (i<(sv.length:Int))) then (idx sv i>>=fun c=>if (!(if (decide ((c.toNat:Int)>=65)) then (decide ((c.toNat:Int)<=90))|| (if (decide ((c.toNat:Int)>=97)) then (decide ((c.toNat:Int)<=122))|| (((c.toNat:Int)==95)|| ((decide (i>0))&&((decide ((c.toNat:Int)>=48))&&(decide ((c.toNat:Int)<=57))))) else (((c.toNat:Int)==95)|| ((decide (i>0))&&((decide ((c.toNat:Int)>=48))&&(decide ((c.toNat:Int)<=57)))))) else (if (decide ((c.toNat:Int)>=97)) then (decide ((c.toNat:Int)<=122))|| (((c.toNat:Int)==95)|| ((decide (i>0))&&((decide ((c.toNat:Int)>=48))&&(decide ((c.toNat:Int)<=57))))) else (((c.toNat:Int)==95)|| ((decide (i>0))&&((decide ((c.toNat:Int)>=48))&&(decide ((c.toNat:Int)<=57)))))))) then some (.inr (.inr ())) else some (.inl (i64.wrap (i+1)))) else some (.inr (.inl ()))
def zdi (sv:Str) (i:Int):Option (Unit⊕Unit):=zW (fun s=>zcd sv s) i
def zeI (sv:Str):Option Bool:=zdi sv 0>>=fun q=>match q with | .inl u=>(some ((decide ((sv.length:Int)>=1))&&(decide ((sv.length:Int)<=60)))) | .inr u2=>(some false)
theorem znO (h:zcd sv i=some (.inl i')):zdi sv i=zdi sv i':=zz h
theorem ziu (h:zcd sv i=some (.inr ko)):zdi sv i=some ko:=zA h
def zbN (i:Int) (k:Int) (sv:List zc) (x2:za) (name:Bool) (number:Bool) (j:Int):Option ((Bool×Bool×Int)⊕(Bool×Bool)):=if (decide (j<k)) then ((if name then some true else idx sv i>>=fun x3=>idx x3.Fields j>>=fun x4=>some (x4.Name==x2.Name))>>=fun g=>(if number then some true else idx sv i>>=fun x5=>idx x5.Fields j>>=fun x6=>some (x6.Number==x2.Number))>>=fun g2=>some (.inl (g,g2,(i64.wrap (j+1))))) else some (.inr (name,number))
def zcJ (i:Int) (k:Int) (sv:List zc) (x2:za) (name:Bool) (number:Bool) (j:Int):Option (Bool×Bool):=zW (fun s=>zbN i k sv x2 s.1 s.2.1 s.2.2) (name,number,j)
def zfv (sv:List zc) (i:Int) (k:Int):Option Int:=idx sv i>>=fun x=>idx x.Fields k>>=fun x2=>zcJ i k sv x2 false false 0>>=fun q=>zeI x2.Name>>=fun rv=>if (!rv) then some 5 else (if q.1 then some 6 else (if ((decide (x2.Number<1))|| ((decide (x2.Number>536870911))|| ((decide (x2.Number>=19000))&&(decide (x2.Number<20000))))) then some 7 else (if q.2 then some 8 else (zed x2.Kind>>=fun kj=>if (!kj) then some 9 else ((if x2.Packed then (if x2.Repeated then (zaF x2.Kind>>=fun kr=>some (!kr)) else some (!false)) else some false)>>=fun g3=>if g3 then some 10 else (if (if (x2.Kind==17) then (decide (x2.Of<0))|| ((decide (x2.Of>=(sv.length:Int)))|| ((x2.Kind !=17)&&(x2.Of !=0))) else (x2.Kind !=17)&&(x2.Of !=0)) then some 11 else some 0))))))
theorem zmW (h:zbN i k sv x2 name number j=some (.inl (name',number',j'))):zcJ i k sv x2 name number j=zcJ i k sv x2 name' number' j':=zz h
theorem zmX (h:zbN i k sv x2 name number j=some (.inr ko)):zcJ i k sv x2 name number j=some ko:=zA h
def zbL (i:Int) (sv:List zc) (twice:Bool) (k:Int):Option ((Bool×Int)⊕Bool):=if (decide (k<i)) then ((if twice then some true else idx sv k>>=fun x=>idx sv i>>=fun x2=>some (x.Name==x2.Name))>>=fun g=>some (.inl (g,(i64.wrap (k+1))))) else some (.inr twice)
def zcH (i:Int) (sv:List zc) (twice:Bool) (k:Int):Option Bool:=zW (fun s=>zbL i sv s.1 s.2) (twice,k)
def zbM (i:Int) (sv:List zc) (k2:Int):Option (Int⊕(Unit⊕(Int×Int))):=idx sv i>>=fun x5=>if (decide (k2<(x5.Fields.length:Int))) then (zfv sv i k2>>=fun kj=>if (decide (kj>0)) then some (.inr (.inr (k2,kj))) else some (.inl (i64.wrap (k2+1)))) else some (.inr (.inl ()))
def zcI (i:Int) (sv:List zc) (k2:Int):Option (Unit⊕(Int×Int)):=zW (fun s=>zbM i sv s) k2
def zbK (sv:List zc) (i:Int):Option (Int⊕(Unit⊕(Int×Int×Int))):=if (decide (i<(sv.length:Int))) then (zcH i sv false 0>>=fun q=>idx sv i>>=fun x3=>zeI x3.Name>>=fun rv=>if (!rv) then some (.inr (.inr (i,(-1),2))) else (if q then some (.inr (.inr (i,(-1),3))) else (idx sv i>>=fun x4=>if (decide ((x4.Fields.length:Int)>200)) then some (.inr (.inr (i,(-1),4))) else (zcI i sv 0>>=fun q2=>match q2 with | .inl u=>(some (.inl (i64.wrap (i+1)))) | .inr u2=>(some (.inr (.inr (i,u2.1,u2.2)))))))) else some (.inr (.inl ()))
def zdY (sv:List zc) (i:Int):Option (Unit⊕(Int×Int×Int)):=zW (fun s=>zbK sv s) i
def zfu (sv:List zc):Option (Int×Int×Int):=if (((sv.length:Int)==0)|| (decide ((sv.length:Int)>100))) then some ((-1),(-1),1) else (zdY sv 0>>=fun q3=>match q3 with | .inl u3=>(some (0,0,0)) | .inr u4=>(some (u4.1,u4.2.1,u4.2.2)))
theorem zmT (h:zbL i sv twice k=some (.inl (twice',k'))):zcH i sv twice k=zcH i sv twice' k':=zz h
theorem zmU (h:zbL i sv twice k=some (.inr ko)):zcH i sv twice k=some ko:=zA h
theorem zmV (h:zbM i sv k2=some (.inl k2')):zcI i sv k2=zcI i sv k2':=zz h
theorem zik (h:zbM i sv k2=some (.inr ko)):zcI i sv k2=some ko:=zA h
theorem zmS (h:zbK sv i=some (.inl i')):zdY sv i=zdY sv i':=zz h
theorem zcv (h:zbK sv i=some (.inr ko)):zdY sv i=some ko:=zA h
def zjK (f:za) (v:Int):Option Bool:=some (f.Number==v)
def zI (sv:List za) (v:Int) (v2:Int):Option (Int⊕(Unit⊕Int)):=if (decide (v2<(sv.length:Int))) then (idx sv v2>>=fun x=>zjK x v>>=fun rv=>if rv then some (.inr (.inr v2)) else some (.inl (i64.wrap (v2+1)))) else some (.inr (.inl ()))
def zJ (sv:List za) (v:Int) (v2:Int):Option (Unit⊕Int):=zW (fun s=>zI sv v s) v2
def zbr (sv:List za) (v:Int):Option Int:=zJ sv v 0>>=fun q=>match q with | .inl u=>(some (-1)) | .inr u2=>(some u2)
theorem zdn (h:zI sv v v2=some (.inl v2')):zJ sv v v2=zJ sv v v2':=zz h
theorem zaP (h:zI sv v v2=some (.inr ko)):zJ sv v v2=some ko:=zA h
def zgu (m:zc) (v:Int):Option (Int×Bool):=zbr m.Fields v>>=fun rv=>some ((if rv<0 then 0 else rv),(decide (rv>=0)))
def ziJ (m:zc) (number:Int):Option (Int×Bool):=zgu m number>>=fun rv=>some (rv.1,rv.2)
def zbO (m:zc) (number:Int) (i:Int):Option (Int⊕(Unit⊕Int)):=if (decide (i<(m.Fields.length:Int))) then (idx m.Fields i>>=fun x=>if (x.Number==number) then some (.inr (.inr i)) else some (.inl (i64.wrap (i+1)))) else some (.inr (.inl ()))
def zdZ (m:zc) (number:Int) (i:Int):Option (Unit⊕Int):=zW (fun s=>zbO m number s) i
def zee (m:zc) (number:Int):Option Int:=zdZ m number 0>>=fun q=>match q with | .inl u=>(some (-1)) | .inr u2=>(some u2)
theorem zmY (h:zbO m number i=some (.inl i')):zdZ m number i=zdZ m number i':=zz h
theorem zil (h:zbO m number i=some (.inr ko)):zdZ m number i=some ko:=zA h
def zbB (i:Int) (m:zc) (out:List Int) (k:Int):Option (Int⊕Int):=(if (decide (k<(out.length:Int))) then (idx out k>>=fun x=>idx m.Fields x>>=fun x2=>idx m.Fields i>>=fun x3=>some (decide (x2.Number<=x3.Number))) else some false)>>=fun g=>if g then some (.inl (i64.wrap (k+1))) else some (.inr k)
def zcr (i:Int) (m:zc) (out:List Int) (k:Int):Option Int:=zW (fun s=>zbB i m out s) k
def zbA (m:zc) (out:List Int) (i:Int):Option (((List Int)×Int)⊕(List Int)):=if (decide (i<(m.Fields.length:Int))) then (zcr i m out 0>>=fun q=>cut out 0 q>>=fun v2=>app 8 ([]:List Int) v2>>=fun v3=>app 8 v3 ([i]:List Int)>>=fun v4=>cut out q (out.length:Int)>>=fun v5=>app 8 v4 v5>>=fun v6=>some (.inl (v6,(i64.wrap (i+1))))) else some (.inr out)
def zcq (m:zc) (out:List Int) (i:Int):Option (List Int):=zW (fun s=>zbA m s.1 s.2) (out,i)
def zeX (m:zc):Option (List Int):=zcq m [] 0>>=fun q2=>some q2
theorem zmf {i:Int} {m:zc} {out:List Int} {k:Int} {k':Int} (h:zbB i m out k=some (.inl k')):zcr i m out k=zcr i m out k':=zz h
theorem zhN {i:Int} {m:zc} {out:List Int} {k:Int} {ko:Int} (h:zbB i m out k=some (.inr ko)):zcr i m out k=some ko:=zA h
theorem zmd {m:zc} {out:List Int} {i:Int} {kV:List Int} {i':Int} (h:zbA m out i=some (.inl (kV,i'))):zcq m out i=zcq m kV i':=zz h
theorem zme {m:zc} {out:List Int} {i:Int} {ko:List Int} (h:zbA m out i=some (.inr ko)):zcq m out i=some ko:=zA h
def zfw (sv:List zc):Option Bool:=zfu sv>>=fun rv=>some (rv.2.2==0)
def zhh (k:Int):Option (Int×Int):=((if (k==1) then some (k==1) else (if (k==2) then some (k==2) else if (k==3) then some (k==3) else if (k==4) then some (k==4) else if (k==5) then some (k==5) else if (k==6) then some (k==6) else if (k==7) then some (k==7) else some (k==8)) :Option Bool))>>=fun p=>if p then some (0,0) else ((if (k==9) then some (k==9) else (if (k==10) then some (k==10) else some (k==11)) :Option Bool))>>=fun p2=>if p2 then some (4,0) else if (k==12) then if (k==12) then some (8,0) else (some (0,2)) else if (k==13) then if (k==13) then some (8,0) else (some (0,2)) else if (k==14) then some (8,0) else some (0,2)
def zjJ (b:List UInt8):Option (Int×Int):=zgR b>>=fun rv=>if ((rv.2.2 !=0)|| (rv.2.1 !=(b.length:Int))) then some (0,12) else some (rv.1,0)
def zjI (k:Int) (b:List UInt8):Option (Int×Int):=zhh k>>=fun rv=>if (rv.2 !=0) then some (0,rv.2) else if (rv.1==0) then (zjJ b>>=fun kj=>some (kj.1,kj.2)) else if (rv.1 !=(b.length:Int)) then some (0,12) else zon b>>=fun kr=>some (kr,0)
def zlc (k:Int) (b:List UInt8):Option (Int×Int):=zjI k b>>=fun rv=>if (rv.2 !=0) then some (0,rv.2) else zhO k rv.1>>=fun kj=>some (kj.1,kj.2)
def zkA (k:Int) (wv:Int):Option ((List UInt8)×Int):=zhh k>>=fun rv=>if (rv.2 !=0) then some ([],rv.2) else zhO k wv>>=fun kj=>if (rv.1==0) then (ziP ([]:List UInt8) kj.1>>=fun kr=>some (kr,kj.2)) else zkM kj.1 rv.1>>=fun kE=>some (kE,kj.2)
def zhT (k:Int) (wv:Int):Option Int:=zhh k>>=fun rv=>if ((rv.2 !=0)|| (rv.1 !=0)) then some rv.1 else zhO k wv>>=fun kj=>zom kj.1>>=fun kr=>some kr
def zfi (fuel:Nat) (k:Int) (wv:Int):Option (List UInt8):=zcW k wv>>=fun rv=>if (decide (k>=12)) then (zdH rv 8>>=fun kj=>some kj) else if (decide (k>=9)) then (zdH rv 4>>=fun kr=>some kr) else zcp fuel rv>>=fun kE=>some kE
def zeJ (k:Int) (b:List UInt8):Option (Int×Int):=zaF k>>=fun rv=>if (!rv) then some (0,2) else zcC k>>=fun kj=>zga kj b>>=fun kr=>if (!kr) then some (0,12) else zfX b>>=fun kE=>zcC k>>=fun rv5=>if (rv5==0) then (zaH b 0>>=fun rv6=>zcW k rv6.1>>=fun rv7=>some (rv7,0)) else zcW k kE>>=fun rv8=>some (rv8,0)
def zlS (k:Int):Option Int:=zhT k 0>>=fun rv=>some rv
def zoM (wide:Int) (b:List UInt8):Option (Int×Int):=if (wide==1) then (zjl b>>=fun rv=>some (rv.1,rv.2)) else if (decide (wide>(b.length:Int))) then some (0,3) else some (wide,0)
def zcm {σ:Type} (kf:(Rnd σ ((List UInt8)×Int))) (rv:Int) (kl:List UInt8) (sg2:σ):Option (((List UInt8)×σ)⊕(σ⊕σ)):=if (decide ((kl.length:Int)>0)) then (zoM rv kl>>=fun kj=>cut kl 0 kj.1>>=fun v3=>kf sg2 (v3,kj.2)>>=fun y2=>if ((!y2.1)|| (kj.2 !=0)) then some (.inr (.inr y2.2)) else cut kl kj.1 (kl.length:Int)>>=fun v5=>some (.inl (v5,y2.2))) else some (.inr (.inl sg2))
def zfS {σ:Type} (kf:(Rnd σ ((List UInt8)×Int))) (rv:Int) (kl:List UInt8) (sg2:σ):Option (σ⊕σ):=zW (fun s=>zcm kf rv s.1 s.2) (kl,sg2)
def zff {σ:Type} (v:Int) (v2:List UInt8) (kf:Rnd σ ((List UInt8)×Int)) (sg:σ):Option σ:=zlS v>>=fun rv=>if (rv==0) then (kf sg (([]:List UInt8),2)>>=fun y=>some y.2) else (zfS kf rv v2 sg>>=fun q=>match q with | .inl u=>(some u) | .inr u2=>(some u2))
theorem zsH {σ:Type} {kf:(Rnd σ ((List UInt8)×Int))} {rv:Int} {kl:List UInt8} {sg2:σ} {rest':List UInt8} {sg2':σ} (h:zcm kf rv kl sg2=some (.inl (rest',sg2'))):zfS kf rv kl sg2=zfS kf rv rest' sg2':=zz h
theorem zis {σ:Type} {kf:(Rnd σ ((List UInt8)×Int))} {rv:Int} {kl:List UInt8} {sg2:σ} {ko:(σ⊕σ)} (h:zcm kf rv kl sg2=some (.inr ko)):zfS kf rv kl sg2=some ko:=zA h
def zky (k:Int) (b:List UInt8):Option (Int×(List UInt8)):=some (k,b)
def zes (k:Int) (f:List Int) (x:List UInt8) (x2:Int):Option ((List Int)⊕(Int×(List Int))):=if (x2 !=0) then some (.inr (x2,f)) else zlc k x>>=fun kj=>app 8 f ([kj.1]:List Int)>>=fun v=>some (.inl v)
def zoL (k:Int) (b:List UInt8):Option ((List Int)×Int):=zky k b>>=fun rv=>zff rv.1 rv.2 (rnd (fun (s:List Int) (x:((List UInt8)×Int))=>zes k s x.1 x.2)) (.inl [])>>=fun q=>match q with | .inl u=>(some (u,0)) | .inr j=>(some ([],j.1))
def zaX (b:List UInt8) (k:Int) (out:List Int) (kp:Int):Option (((List Int)×Int)⊕((List Int)⊕Int)):=if (decide (kp<(b.length:Int))) then (((if (decide (k<12)) then some 4 else (some 8) :Option Int))>>=fun p=>((if (decide (k<9)) then (zaH b kp>>=fun kj=>if (kj.2.2 !=0) then some (.inr kj.2.2) else some (.inl kj.2.1)) else (some (.inl p)) :Option (Int⊕Int)))>>=fun p2=>match p2 with | .inl u=>(if (decide ((i64.wrap (kp+u))>(b.length:Int))) then some (.inr (.inr 3)) else app 8 out ([(i64.wrap (kp+u))]:List Int)>>=fun v3=>some (.inl (v3,(i64.wrap (kp+u))))) | .inr u2=>(some (.inr (.inr u2)))) else some (.inr (.inl out))
def zdj (b:List UInt8) (k:Int) (out:List Int) (kp:Int):Option ((List Int)⊕Int):=zW (fun s=>zaX b k s.1 s.2) (out,kp)
def zeK (k:Int) (b:List UInt8):Option ((List Int)×Int):=zaF k>>=fun rv=>if (!rv) then some ([],2) else (zdj b k [] 0>>=fun q=>match q with | .inl u3=>(some (u3,0)) | .inr u4=>(some ([],u4)))
theorem znP {b:List UInt8} {k:Int} {out:List Int} {kp:Int} {kV:List Int} {atv':Int} (h:zaX b k out kp=some (.inl (kV,atv'))):zdj b k out kp=zdj b k kV atv':=zz h
theorem ziv {b:List UInt8} {k:Int} {out:List Int} {kp:Int} {ko:((List Int)⊕Int)} (h:zaX b k out kp=some (.inr ko)):zdj b k out kp=some ko:=zA h
def zgP (k:Int) (l:List Int) (b:List UInt8) (v:Int):Option (((List UInt8)×Int)⊕(List UInt8)):=if (decide (v<(l.length:Int))) then (idx l v>>=fun x=>zkA k x>>=fun kj=>app 1 b kj.1>>=fun v2=>some (.inl (v2,(i64.wrap (v+1))))) else some (.inr b)
def zlb (k:Int) (l:List Int) (b:List UInt8) (v:Int):Option (List UInt8):=zW (fun s=>zgP k l s.1 s.2) (b,v)
def zrA (k:Int) (l:List Int):Option ((List UInt8)×Int):=zlS k>>=fun rv=>if (rv==0) then some ([],2) else zlb k l [] 0>>=fun q=>some (q,0)
theorem zwP {k:Int} {l:List Int} {b:List UInt8} {v:Int} {b':List UInt8} {v':Int} (h:zgP k l b v=some (.inl (b',v'))):zlb k l b v=zlb k l b' v':=zz h
theorem zwQ {k:Int} {l:List Int} {b:List UInt8} {v:Int} {ko:List UInt8} (h:zgP k l b v=some (.inr ko)):zlb k l b v=some ko:=zA h
def zce (fuel:Nat) (k:Int) (l:List Int) (out:List UInt8) (i:Int):Option (((List UInt8)×Int)⊕(List UInt8)):=if (decide (i<(l.length:Int))) then (idx l i>>=fun x=>zfi fuel k x>>=fun rv=>app 1 out rv>>=fun v=>some (.inl (v,(i64.wrap (i+1))))) else some (.inr out)
def zex (fuel:Nat) (k:Int) (l:List Int) (out:List UInt8) (i:Int):Option (List UInt8):=zW (fun s=>zce fuel k l s.1 s.2) (out,i)
def zgc (fuel:Nat) (k:Int) (l:List Int):Option (List UInt8):=zex fuel k l [] 0>>=fun q=>some q
theorem znQ {fuel:Nat} {k:Int} {l:List Int} {out:List UInt8} {i:Int} {kV:List UInt8} {i':Int} (h:zce fuel k l out i=some (.inl (kV,i'))):zex fuel k l out i=zex fuel k l kV i':=zz h
theorem znR {fuel:Nat} {k:Int} {l:List Int} {out:List UInt8} {i:Int} {ko:List UInt8} (h:zce fuel k l out i=some (.inr ko)):zex fuel k l out i=some ko:=zA h
def zbP (b:List UInt8) (k:Int) (rv:((List Int)×Int)) (out:List Int) (i:Int):Option (((List Int)×Int)⊕(List Int)):=if (decide (i<(rv.1.length:Int))) then (((if (decide (i>0)) then (idx rv.1 (i64.wrap (i - 1))>>=fun x=>some x) else (some 0) :Option Int))>>=fun p=>idx rv.1 i>>=fun x2=>cut b p x2>>=fun v=>zeJ k v>>=fun kj=>app 8 out ([kj.1]:List Int)>>=fun v2=>some (.inl (v2,(i64.wrap (i+1))))) else some (.inr out)
def zbQ (b:List UInt8) (k:Int) (rv:((List Int)×Int)) (out:List Int) (i:Int):Option (List Int):=zW (fun s=>zbP b k rv s.1 s.2) (out,i)
def zfx (k:Int) (b:List UInt8):Option ((List Int)×Int):=zeK k b>>=fun rv=>zbQ b k rv [] 0>>=fun q=>some (q,rv.2)
theorem zmZ {b:List UInt8} {k:Int} {rv:((List Int)×Int)} {out:List Int} {i:Int} {kV:List Int} {i':Int} (h:zbP b k rv out i=some (.inl (kV,i'))):zbQ b k rv out i=zbQ b k rv kV i':=zz h
theorem zfL {b:List UInt8} {k:Int} {rv:((List Int)×Int)} {out:List Int} {i:Int} {ko:List Int} (h:zbP b k rv out i=some (.inr ko)):zbQ b k rv out i=some ko:=zA h
def zgm (f:Int) (x:List UInt8) (x2:Int):Option (Int⊕(Int×Int)):=if (x2 !=0) then some (.inr (x2,f)) else some (.inl (i64.wrap (f+1)))
def zoK (k:Int) (b:List UInt8):Option (Int×Int):=zky k b>>=fun rv=>zff rv.1 rv.2 (rnd (fun (s:Int) (x:((List UInt8)×Int))=>zgm s x.1 x.2)) (.inl 0)>>=fun q=>match q with | .inl u=>(some (u,0)) | .inr j=>(some (0,j.1))
def zjR (f:za) (v:Int):Option Bool:=some (f.Number==v)
def zG (sv:List za) (v:Int) (v2:Int):Option (Int⊕(Unit⊕Int)):=if (decide (v2<(sv.length:Int))) then (idx sv v2>>=fun x=>zjR x v>>=fun rv=>if rv then some (.inr (.inr v2)) else some (.inl (i64.wrap (v2+1)))) else some (.inr (.inl ()))
def zO (sv:List za) (v:Int) (v2:Int):Option (Unit⊕Int):=zW (fun s=>zG sv v s) v2
def zak (sv:List za) (v:Int):Option Int:=zO sv v 0>>=fun q=>match q with | .inl u=>(some (-1)) | .inr u2=>(some u2)
theorem zdV (h:zG sv v v2=some (.inl v2')):zO sv v v2=zO sv v v2':=zz h
theorem zbf (h:zG sv v v2=some (.inr ko)):zO sv v v2=some ko:=zA h
def zmM (m:zc) (number:Int):Option Int:=zak m.Fields number>>=fun rv=>some rv
def zmN (f:za) (wire:Int):Option Bool:=(if f.Repeated then (if (wire==2) then (ziY f.Kind>>=fun rv=>some rv) else some false) else some false)>>=fun g=>some g
def zoY (k:Int) (wire:Int):Option Bool:=zlM k>>=fun rv=>some ((rv.2==0)&&(rv.1==wire))
def zjm (m:zc) (hv:zL):Option zQ:=zmM m hv.number>>=fun rv=>if (rv==(-1)) then some (⟨(-1),false,0⟩:zQ) else idx m.Fields rv>>=fun x=>zmN x hv.wire>>=fun kj=>(if (!kj) then (zoY x.Kind hv.wire>>=fun kr=>some (!kr)) else some false)>>=fun g=>if g then some (⟨0,false,6⟩:zQ) else some (⟨rv,kj,0⟩:zQ)
def zlX (m:zc) (b:List UInt8) (kJ:Int) (met:List (zL×zQ)):Option (zi×Int×(List (zL×zQ))):=zgk b kJ>>=fun rv=>if (rv.2 !=0) then some ((⟨(⟨0,0,0,0,0⟩:zj),0,false⟩:zi),rv.2,met) else (((if (!(mget met (⟨rv.1.Number,rv.1.Wire⟩:zL)).isSome) then (zjm m (⟨rv.1.Number,rv.1.Wire⟩:zL)>>=fun kj=>some ((mput met (⟨rv.1.Number,rv.1.Wire⟩:zL) kj),kj.field,kj.run,kj.e)) else (some (met,((mget met (⟨rv.1.Number,rv.1.Wire⟩:zL)).getD (⟨0,false,0⟩:zQ)).field,((mget met (⟨rv.1.Number,rv.1.Wire⟩:zL)).getD (⟨0,false,0⟩:zQ)).run,((mget met (⟨rv.1.Number,rv.1.Wire⟩:zL)).getD (⟨0,false,0⟩:zQ)).e)) :Option ((List (zL×zQ))×Int×Bool×Int)))>>=fun p=>if (p.2.2.2 !=0) then some ((⟨(⟨0,0,0,0,0⟩:zj),0,false⟩:zi),p.2.2.2,p.1) else some ((⟨rv.1,p.2.1,p.2.2.1⟩:zi),0,p.1))
def zfh (b:List UInt8) (m:zc) (l:List zi) (met:List (zL×zQ)) (kJ:Int):Option (((List zi)×(List (zL×zQ))×Int)⊕((List zi)⊕(Int×Int))):=if (decide (kJ<(b.length:Int))) then (zlX m b kJ met>>=fun kj=>if (kj.2.1 !=0) then some (.inr (.inr (kJ,kj.2.1))) else app 56 l ([kj.1]:List zi)>>=fun v=>some (.inl (v,kj.2.2,kj.1.Record.To))) else some (.inr (.inl l))
def zhZ (b:List UInt8) (m:zc) (l:List zi) (met:List (zL×zQ)) (kJ:Int):Option ((List zi)⊕(Int×Int)):=zW (fun s=>zfh b m s.1 s.2.1 s.2.2) (l,met,kJ)
def zrO (m:zc) (b:List UInt8):Option ((List zi)×Int×Int):=zhZ b m [] ([]:List (zL×zQ)) 0>>=fun q=>match q with | .inl u=>(some (u,0,0)) | .inr u2=>(some ([],u2.1,u2.2))
theorem zpT (h:zfh b m l met kJ=some (.inl (l',kw,fromv'))):zhZ b m l met kJ=zhZ b m l' kw fromv':=zz h
theorem zls (h:zfh b m l met kJ=some (.inr ko)):zhZ b m l met kJ=some ko:=zA h
def zlW (m:zc) (b:List UInt8) (kJ:Int):Option (zi×Int):=zlX m b kJ ([]:List (zL×zQ))>>=fun kj=>some (kj.1,kj.2.1)
def zeL (m:zc) (b:List UInt8) (kJ:Int):Option (zD×Int):=zdx b kJ>>=fun rv=>if (rv.2 !=0) then some ((⟨(⟨0,0,0,0,0⟩:zj),0,false⟩:zD),rv.2) else zee m rv.1.Number>>=fun kj=>if (decide (kj<0)) then some ((⟨rv.1,(-1),false⟩:zD),0) else idx m.Fields kj>>=fun x=>(if x.Repeated then (zaF x.Kind>>=fun kr=>if kr then some (rv.1.Wire==2) else some false) else some false)>>=fun g=>if g then some ((⟨rv.1,kj,true⟩:zD),0) else (zed x.Kind>>=fun kE=>if (!kE) then some true else zcC x.Kind>>=fun rv5=>some (rv5 !=rv.1.Wire))>>=fun g2=>if g2 then some ((⟨(⟨0,0,0,0,0⟩:zj),0,false⟩:zD),6) else some ((⟨rv.1,kj,false⟩:zD),0)
def zaR (b:List UInt8) (m:zc) (out:List zD) (kp:Int):Option (((List zD)×Int)⊕((List zD)⊕(Int×Int))):=if (decide (kp<(b.length:Int))) then (zeL m b kp>>=fun rv=>if (rv.2 !=0) then some (.inr (.inr (kp,rv.2))) else app 56 out ([rv.1]:List zD)>>=fun v3=>some (.inl (v3,rv.1.R.To))) else some (.inr (.inl out))
def zcA (b:List UInt8) (m:zc) (out:List zD) (kp:Int):Option ((List zD)⊕(Int×Int)):=zW (fun s=>zaR b m s.1 s.2) (out,kp)
def zgG (m:zc) (b:List UInt8):Option ((List zD)×Int×Int):=zcA b m [] 0>>=fun q=>match q with | .inl u=>(some (u,0,0)) | .inr u2=>(some ([],u2.1,u2.2))
theorem ziW {b:List UInt8} {m:zc} {out:List zD} {kp:Int} {kV:List zD} {atv':Int} (h:zaR b m out kp=some (.inl (kV,atv'))):zcA b m out kp=zcA b m kV atv':=zz h
theorem zgH {b:List UInt8} {m:zc} {out:List zD} {kp:Int} {ko:((List zD)⊕(Int×Int))} (h:zaR b m out kp=some (.inr ko)):zcA b m out kp=some ko:=zA h
def ziR (number:Int) (rv:((List zi)×Int×Int)) (l:List zi) (v:Int):Option (((List zi)×Int)⊕(List zi)):=if (decide (v<(rv.1.length:Int))) then (idx rv.1 v>>=fun x=>if (x.Record.Number==number) then (app 56 l ([x]:List zi)>>=fun v2=>some (.inl (v2,(i64.wrap (v+1))))) else some (.inl (l,(i64.wrap (v+1))))) else some (.inr l)
def zkF (number:Int) (rv:((List zi)×Int×Int)) (l:List zi) (v:Int):Option (List zi):=zW (fun s=>ziR number rv s.1 s.2) (l,v)
def zvb (m:zc) (b:List UInt8) (number:Int):Option (List zi):=zrO m b>>=fun rv=>zkF number rv [] 0>>=fun q=>some q
theorem zzS {number:Int} {rv:((List zi)×Int×Int)} {l:List zi} {v:Int} {l':List zi} {v':Int} (h:ziR number rv l v=some (.inl (l',v'))):zkF number rv l v=zkF number rv l' v':=zz h
theorem zzT {number:Int} {rv:((List zi)×Int×Int)} {l:List zi} {v:Int} {ko:List zi} (h:ziR number rv l v=some (.inr ko)):zkF number rv l v=some ko:=zA h
def zhq (wv:zah) (message:Int) (kJ:Int) (tov:Int):Option (zi×Int×(List (zn×zi))):=cut wv.b 0 tov>>=fun v=>zgk v kJ>>=fun rv=>if (rv.2 !=0) then some ((⟨(⟨0,0,0,0,0⟩:zj),0,false⟩:zi),rv.2,wv.met) else (if (!(mget wv.met (⟨message,rv.1.Number,rv.1.Wire⟩:zn)).isSome) then (idx wv.s message>>=fun x=>zlW x v kJ>>=fun kj=>if (kj.2 !=0) then some ((⟨(⟨0,0,0,0,0⟩:zj),0,false⟩:zi),kj.2,wv.met) else some ((⟨rv.1,kj.1.Field,kj.1.Run⟩:zi),0,(mput wv.met (⟨message,rv.1.Number,rv.1.Wire⟩:zn) kj.1))) else (some ((⟨rv.1,(((mget wv.met (⟨message,rv.1.Number,rv.1.Wire⟩:zn)).getD (⟨(⟨0,0,0,0,0⟩:zj),0,false⟩:zi)).Field),(((mget wv.met (⟨message,rv.1.Number,rv.1.Wire⟩:zn)).getD (⟨(⟨0,0,0,0,0⟩:zj),0,false⟩:zi)).Run)⟩:zi),0,wv.met)))
def zlg (f:za) (isRun:Bool) (value:List UInt8):Option Int:=if isRun then (zoK f.Kind value>>=fun rv=>some rv.2) else (if (f.Kind==15) then (zlV value>>=fun kj=>some (!kj)) else some false)>>=fun g=>if g then some 7 else if (f.Kind==17) then some 8 else some 0
def zaC (d:Int) (message:Int) (xg:zah->Int->zi->Int->Option (zw×(List (zn×zi)))) (tov:Int) (wv:zah) (kA:List (zn×zi)) (k7:Int) (depth:Int):Option (((List (zn×zi))×Int×Int)⊕(((List (zn×zi))×Int)⊕((List (zn×zi))×Int×Int×Int))):=if (decide (k7<tov)) then (zhq (⟨wv.s,wv.b,kA⟩:zah) message k7 tov>>=fun kj=>if (kj.2.1 !=0) then some (.inr (.inr (kj.2.2,0,k7,kj.2.1))) else xg (⟨wv.s,wv.b,kj.2.2⟩:zah) message kj.1 d>>=fun kE=>if (kE.1.e !=0) then some (.inr (.inr (kE.2,kE.1.depth,kE.1.place,kE.1.e))) else some (.inl (kE.2,kj.1.Record.To,(if depth<kE.1.depth then kE.1.depth else depth)))) else some (.inr (.inl (kA,depth)))
def zbT (d:Int) (message:Int) (xg:zah->Int->zi->Int->Option (zw×(List (zn×zi)))) (tov:Int) (wv:zah) (kA:List (zn×zi)) (k7:Int) (depth:Int):Option (((List (zn×zi))×Int)⊕((List (zn×zi))×Int×Int×Int)):=zW (fun s=>zaC d message xg tov wv s.1 s.2.1 s.2.2) (kA,k7,depth)
def zeG (xn:zah->Int->Int->Int->Int->Option (zw×(List (zn×zi)))) (xg:zah->Int->zi->Int->Option (zw×(List (zn×zi)))) (wv:zah) (message:Int) (kJ:Int) (tov:Int) (d:Int):Option (zw×(List (zn×zi))):=zbT d message xg tov wv wv.met kJ 0>>=fun q=>match q with | .inl u=>(some ((⟨u.2,0,0⟩:zw),u.1)) | .inr u2=>(some ((⟨u2.2.1,u2.2.2.1,u2.2.2.2⟩:zw),u2.1))
def zfG (xn:zah->Int->Int->Int->Int->Option (zw×(List (zn×zi)))) (xg:zah->Int->zi->Int->Option (zw×(List (zn×zi)))) (wv:zah) (message:Int) (v:zi) (d:Int):Option (zw×(List (zn×zi))):=if (v.Field==(-1)) then some ((⟨0,0,0⟩:zw),wv.met) else idx wv.s message>>=fun x=>idx x.Fields v.Field>>=fun x2=>if ((x2.Kind==17)&&(decide (d>0))) then (xn wv x2.Of v.Record.At v.Record.To (i64.wrap (d - 1))>>=fun kj=>some ((⟨(i64.wrap (kj.1.depth+1)),kj.1.place,kj.1.e⟩:zw),kj.2)) else cut wv.b v.Record.At v.Record.To>>=fun v3=>zlg x2 v.Run v3>>=fun kr=>if (kr !=0) then some ((⟨0,v.Record.From,kr⟩:zw),wv.met) else some ((⟨0,0,0⟩:zw),wv.met)
def zaj:Nat->(zah->Int->Int->Int->Int->Option (zw×(List (zn×zi))))×(zah->Int->zi->Int->Option (zw×(List (zn×zi)))) | 0=>(fun _ _ _ _ _=>none,fun _ _ _ _=>none) | fuel+1=>(fun wv message kJ tov d=>zeG (zaj fuel).1 (zaj fuel).2 wv message kJ tov d,fun wv message v d=>zfG (zaj fuel).1 (zaj fuel).2 wv message v d)
def zaL (fuel:Nat):zah->Int->Int->Int->Int->Option (zw×(List (zn×zi))):=(zaj fuel).1
def zeo (fuel:Nat):zah->Int->zi->Int->Option (zw×(List (zn×zi))):=(zaj fuel).2
theorem znh (h:zaC d message xg tov wv kA k7 depth=some (.inl (wv2',fromv2',depth'))):zbT d message xg tov wv kA k7 depth=zbT d message xg tov wv wv2' fromv2' depth':=zz h
theorem zdX (h:zaC d message xg tov wv kA k7 depth=some (.inr ko)):zbT d message xg tov wv kA k7 depth=some ko:=zA h
def zkE (sv:List zc) (root:Int) (d:Int):Option Int:=zjM sv>>=fun rv=>if (!rv) then some 9 else (if ((decide (root<0))|| ((decide (root>=(sv.length:Int)))|| ((decide (d<0))|| (decide (d>64))))) then some 2 else some 0)
def zmK (fuel:Nat) (sv:List zc) (root:Int) (b:List UInt8) (d:Int):Option zw:=zkE sv root d>>=fun rv=>if (rv !=0) then some (⟨0,0,rv⟩:zw) else (zaL fuel (⟨sv,b,([]:List (zn×zi))⟩:zah) root 0 (b.length:Int) d>>=fun kr=>some kr.1)
def zjk (fuel:Nat) (sv:List zc) (root:Int) (b:List UInt8) (d:Int):Option (Int×Int):=zmK fuel sv root b d>>=fun rv=>some (rv.place,rv.e)
def zgd (sv:List zc) (root:Int) (d:Int):Option Int:=zfw sv>>=fun rv=>if (!rv) then some 9 else (if ((decide (root<0))|| ((decide (root>=(sv.length:Int)))|| ((decide (d<0))|| (decide (d>64))))) then some 2 else some 0)
def zbi (b:List UInt8) (d:Int) (m:Int) (xh:(List zc)->Int->(List UInt8)->Int->Option (Int×Int)) (sv:List zc) (kp:Int):Option (Int⊕(Unit⊕(Int×Int))):=if (decide (kp<(b.length:Int))) then (idx sv m>>=fun x=>zeL x b kp>>=fun rv=>if (rv.2 !=0) then some (.inr (.inr (kp,rv.2))) else cut b rv.1.R.At rv.1.R.To>>=fun v3=>if (decide (rv.1.Field>=0)) then (idx sv m>>=fun x2=>idx x2.Fields rv.1.Field>>=fun x3=>if rv.1.Run then (zeK x3.Kind v3>>=fun kj=>if (kj.2 !=0) then some (.inr (.inr (kp,kj.2))) else some (.inl rv.1.R.To)) else (if (x3.Kind==15) then (zcV v3>>=fun kr=>some (!kr)) else some false)>>=fun g=>if g then some (.inr (.inr (kp,7))) else if (x3.Kind==17) then (if (d==0) then some (.inr (.inr (kp,8))) else xh sv x3.Of v3 (i64.wrap (d - 1))>>=fun kE=>if (kE.2 !=0) then some (.inr (.inr ((i64.wrap (rv.1.R.At+kE.1)),kE.2))) else some (.inl rv.1.R.To)) else some (.inl rv.1.R.To)) else some (.inl rv.1.R.To)) else some (.inr (.inl ()))
def zbj (b:List UInt8) (d:Int) (m:Int) (xh:(List zc)->Int->(List UInt8)->Int->Option (Int×Int)) (sv:List zc) (kp:Int):Option (Unit⊕(Int×Int)):=zW (fun s=>zbi b d m xh sv s) kp
def zcf (xh:(List zc)->Int->(List UInt8)->Int->Option (Int×Int)) (sv:List zc) (m:Int) (b:List UInt8) (d:Int):Option (Int×Int):=zbj b d m xh sv 0>>=fun q=>match q with | .inl u=>(some (0,0)) | .inr u2=>(some (u2.1,u2.2))
def zaZ:Nat->(List zc)->Int->(List UInt8)->Int->Option (Int×Int) | 0,_,_,_,_=>none | fuel+1,sv,m,b,d=>zcf (zaZ fuel) sv m b d
theorem zna {b:List UInt8} {d:Int} {m:Int} {xh:(List zc)->Int->(List UInt8)->Int->Option (Int×Int)} {sv:List zc} {kp:Int} {atv':Int} (h:zbi b d m xh sv kp=some (.inl atv')):zbj b d m xh sv kp=zbj b d m xh sv atv':=zz h
theorem zfM {b:List UInt8} {d:Int} {m:Int} {xh:(List zc)->Int->(List UInt8)->Int->Option (Int×Int)} {sv:List zc} {kp:Int} {ko:(Unit⊕(Int×Int))} (h:zbi b d m xh sv kp=some (.inr ko)):zbj b d m xh sv kp=some ko:=zA h
def zfy (fuel:Nat) (sv:List zc) (root:Int) (b:List UInt8) (d:Int):Option (Int×Int):=zgd sv root d>>=fun rv=>if (rv !=0) then some (0,rv) else zaZ fuel sv root b d>>=fun kj=>some (kj.1,kj.2)
def zjN (v:ze):Option Int:=some (i64.wrap ((i64.wrap ((v.Words.length:Int)+(v.Texts.length:Int)))+(v.Subs.length:Int)))
def ziD (kK:Int) (xd:zh->Int->Option Int) (x2:ze) (deep3:Int) (v3:Int):Option ((Int×Int)⊕(Int⊕Int)):=if (decide (v3<(x2.Subs.length:Int))) then (idx x2.Subs v3>>=fun x3=>if (decide (kK<=0)) then some (.inr (.inr 1)) else xd x3 (i64.wrap (kK - 1))>>=fun rv=>if (decide ((if deep3<(i64.wrap (1+rv)) then i64.wrap (1+rv) else deep3)>kK)) then some (.inr (.inr (if deep3<(i64.wrap (1+rv)) then i64.wrap (1+rv) else deep3))) else some (.inl ((if deep3<(i64.wrap (1+rv)) then i64.wrap (1+rv) else deep3),(i64.wrap (v3+1))))) else some (.inr (.inl deep3))
def zhz (kK:Int) (xd:zh->Int->Option Int) (x2:ze) (deep3:Int) (v3:Int):Option (Int⊕Int):=zW (fun s=>ziD kK xd x2 s.1 s.2) (deep3,v3)
def ziC (kK:Int) (xd:zh->Int->Option Int) (x:zh) (deep:Int) (v:Int):Option ((Int×Int)⊕(Int⊕Int)):=if (decide (v<(x.Values.length:Int))) then (idx x.Values v>>=fun x2=>zhz kK xd x2 deep 0>>=fun q=>match q with | .inl u=>(some (.inl (u,(i64.wrap (v+1))))) | .inr u2=>(some (.inr (.inr u2)))) else some (.inr (.inl deep))
def zhy (kK:Int) (xd:zh->Int->Option Int) (x:zh) (deep:Int) (v:Int):Option (Int⊕Int):=zW (fun s=>ziC kK xd x s.1 s.2) (deep,v)
def zpJ (xd:zh->Int->Option Int) (x:zh) (kK:Int):Option Int:=zhy kK xd x 0 0>>=fun q2=>match q2 with | .inl u3=>(some u3) | .inr u4=>(some u4)
def zhi:Nat->zh->Int->Option Int | 0,_,_=>none | fuel+1,x,kK=>zpJ (zhi fuel) x kK
theorem zuV (h:ziD kK xd x2 deep3 v3=some (.inl (deep3',v3'))):zhz kK xd x2 deep3 v3=zhz kK xd x2 deep3' v3':=zz h
theorem zuW (h:ziD kK xd x2 deep3 v3=some (.inr ko)):zhz kK xd x2 deep3 v3=some ko:=zA h
theorem zuT (h:ziC kK xd x deep v=some (.inl (deep',v'))):zhy kK xd x deep v=zhy kK xd x deep' v':=zz h
theorem zuU (h:ziC kK xd x deep v=some (.inr ko)):zhy kK xd x deep v=some ko:=zA h
def ztD (fuel:Nat) (x:zh):Option Int:=zhi fuel x 131072>>=fun rv=>some rv
def zsu (fuel:Nat) (x:zh):Option Bool:=ztD fuel x>>=fun rv=>some (decide (rv<=131072))
def zfl (l:List Str) (v:Int):Option (Int⊕(Unit⊕Unit)):=if (decide (v<(l.length:Int))) then (idx l v>>=fun x=>lenO x>>=fun v2=>zlV v2>>=fun rv=>if (!rv) then some (.inr (.inr ())) else some (.inl (i64.wrap (v+1)))) else some (.inr (.inl ()))
def zfm (l:List Str) (v:Int):Option (Unit⊕Unit):=zW (fun s=>zfl l s) v
def zof (l:List Str):Option Bool:=zfm l 0>>=fun q=>match q with | .inl u=>(some true) | .inr u2=>(some false)
theorem zrI (h:zfl l v=some (.inl v')):zfm l v=zfm l v':=zz h
theorem zlf (h:zfl l v=some (.inr ko)):zfm l v=some ko:=zA h
def zmJ (m:zc) (text:Str):Option Bool:=lenO text>>=fun v=>zgk v 0>>=fun rv=>if ((rv.2 !=0)|| (rv.1.To !=(text.length:Int))) then some false else ziJ m rv.1.Number>>=fun kj=>some (!kj.2)
def zcl (k:Int) (l:List Int) (v:Int):Option (Int⊕(Unit⊕Unit)):=if (decide (v<(l.length:Int))) then (idx l v>>=fun x=>zhO k x>>=fun rv=>if ((rv.2 !=0)|| (rv.1 !=x)) then some (.inr (.inr ())) else some (.inl (i64.wrap (v+1)))) else some (.inr (.inl ()))
def zdp (k:Int) (l:List Int) (v:Int):Option (Unit⊕Unit):=zW (fun s=>zcl k l s) v
def zjO (k:Int) (l:List Int):Option Bool:=zdp k l 0>>=fun q=>match q with | .inl u=>(some true) | .inr u2=>(some false)
theorem zoe (h:zcl k l v=some (.inl v')):zdp k l v=zdp k l v':=zz h
theorem zgs (h:zcl k l v=some (.inr ko)):zdp k l v=some ko:=zA h
def zdJ (l:List zh) (message:Int) (xi:(List zc)->Int->zh->Option Bool) (sv:List zc) (v2:Int):Option (Int⊕(Unit⊕Unit)):=if (decide (v2<(l.length:Int))) then (idx l v2>>=fun x=>xi sv message x>>=fun rv=>if (!rv) then some (.inr (.inr ())) else some (.inl (i64.wrap (v2+1)))) else some (.inr (.inl ()))
def zdK (l:List zh) (message:Int) (xi:(List zc)->Int->zh->Option Bool) (sv:List zc) (v2:Int):Option (Unit⊕Unit):=zW (fun s=>zdJ l message xi sv s) v2
def ziN (xp:(List zc)->Int->(List zh)->Option Bool) (xj:za->(List zc)->ze->Option Bool) (xi:(List zc)->Int->zh->Option Bool) (sv:List zc) (message:Int) (l:List zh):Option Bool:=if ((decide (message<0))|| (decide (message>=(sv.length:Int)))) then some false else (zdK l message xi sv 0>>=fun q=>match q with | .inl u=>(some true) | .inr u2=>(some false))
def zrJ (xp:(List zc)->Int->(List zh)->Option Bool) (xj:za->(List zc)->ze->Option Bool) (xi:(List zc)->Int->zh->Option Bool) (f:za) (sv:List zc) (v:ze):Option Bool:=zjN v>>=fun rv=>if ((rv==0)|| ((decide (rv>1))&&(!f.Repeated))) then some false else if (f.Kind==15) then ((if ((v.Texts.length:Int)==rv) then (zof v.Texts>>=fun kj=>some kj) else some false)>>=fun g=>some g) else if (f.Kind==16) then some ((v.Texts.length:Int)==rv) else if (f.Kind==17) then ((if ((v.Subs.length:Int)==rv) then (xp sv f.Of v.Subs>>=fun kr=>some kr) else some false)>>=fun g2=>some g2) else (if ((v.Words.length:Int)==rv) then (zjO f.Kind v.Words>>=fun kE=>some kE) else some false)>>=fun g3=>some g3
def zeP (xj:za->(List zc)->ze->Option Bool) (sv:List zc) (x:zh) (x2:zc) (last:Int) (v:Int):Option ((Int×Int)⊕(Unit⊕Unit)):=if (decide (v<(x.Values.length:Int))) then (idx x.Values v>>=fun x3=>ziJ x2 x3.Number>>=fun rv=>(if (!rv.2) then some true else if (decide (x3.Number<=last)) then some true else idx x2.Fields rv.1>>=fun x4=>xj x4 sv x3>>=fun kj=>some (!kj))>>=fun g=>if g then some (.inr (.inr ())) else some (.inl (x3.Number,(i64.wrap (v+1))))) else some (.inr (.inl ()))
def zeR (xj:za->(List zc)->ze->Option Bool) (sv:List zc) (x:zh) (x2:zc) (last:Int) (v:Int):Option (Unit⊕Unit):=zW (fun s=>zeP xj sv x x2 s.1 s.2) (last,v)
def zeQ (x:zh) (x2:zc) (v3:Int):Option (Int⊕(Unit⊕Unit)):=if (decide (v3<(x.Unknown.length:Int))) then (idx x.Unknown v3>>=fun x5=>zmJ x2 x5>>=fun kr=>if (!kr) then some (.inr (.inr ())) else some (.inl (i64.wrap (v3+1)))) else some (.inr (.inl ()))
def zeS (x:zh) (x2:zc) (v3:Int):Option (Unit⊕Unit):=zW (fun s=>zeQ x x2 s) v3
def zkD (xp:(List zc)->Int->(List zh)->Option Bool) (xj:za->(List zc)->ze->Option Bool) (xi:(List zc)->Int->zh->Option Bool) (sv:List zc) (message:Int) (x:zh):Option Bool:=idx sv message>>=fun x2=>zeR xj sv x x2 0 0>>=fun q=>match q with | .inl u=>(zeS x x2 0>>=fun q2=>match q2 with | .inl u2=>(some true) | .inr u3=>(some false)) | .inr u4=>(some false)
def zR:Nat->((List zc)->Int->(List zh)->Option Bool)×(za->(List zc)->ze->Option Bool)×((List zc)->Int->zh->Option Bool) | 0=>(fun _ _ _=>none,fun _ _ _=>none,fun _ _ _=>none) | fuel+1=>(fun sv message l=>ziN (zR fuel).1 (zR fuel).2.1 (zR fuel).2.2 sv message l,fun f sv v=>zrJ (zR fuel).1 (zR fuel).2.1 (zR fuel).2.2 f sv v,fun sv message x=>zkD (zR fuel).1 (zR fuel).2.1 (zR fuel).2.2 sv message x)
def zig (fuel:Nat):(List zc)->Int->(List zh)->Option Bool:=(zR fuel).1
def zkC (fuel:Nat):za->(List zc)->ze->Option Bool:=(zR fuel).2.1
def zfF (fuel:Nat):(List zc)->Int->zh->Option Bool:=(zR fuel).2.2
theorem zoS (h:zdJ l message xi sv v2=some (.inl v2')):zdK l message xi sv v2=zdK l message xi sv v2':=zz h
theorem zji (h:zdJ l message xi sv v2=some (.inr ko)):zdK l message xi sv v2=some ko:=zA h
theorem zqn (h:zeP xj sv x x2 last v=some (.inl (last',v'))):zeR xj sv x x2 last v=zeR xj sv x x2 last' v':=zz h
theorem zka (h:zeP xj sv x x2 last v=some (.inr ko)):zeR xj sv x x2 last v=some ko:=zA h
theorem zqo (h:zeQ x x2 v3=some (.inl v3')):zeS x x2 v3=zeS x x2 v3':=zz h
theorem zkb (h:zeQ x x2 v3=some (.inr ko)):zeS x x2 v3=some ko:=zA h
def zge (v:ze):Option Int:=some (i64.wrap ((i64.wrap ((v.Words.length:Int)+(v.Texts.length:Int)))+(v.Subs.length:Int)))
def ztE (fuel:Nat) (sv:List zc) (root:Int) (x:zh):Option Bool:=(zkE sv root 0>>=fun rv=>if (rv==0) then (zsu fuel x>>=fun kj=>if kj then (zfF fuel sv root x>>=fun kr=>some kr) else some false) else some false)>>=fun g=>some g
def zhW (xk:ze->Option ze) (rv:List ze) (v:List ze) (v2:Int):Option (((List ze)×Int)⊕(List ze)):=if (decide (v2<(rv.length:Int))) then (idx v v2>>=fun x2=>xk x2>>=fun kr=>idx v v2>>=fun x3=>some (.inl ((v.set (Int.toNat v2) kr),(i64.wrap (v2+1))))) else some (.inr v)
def zgN (xk:ze->Option ze) (rv:List ze) (v:List ze) (v2:Int):Option (List ze):=zW (fun s=>zhW xk rv s.1 s.2) (v,v2)
def zog (xl:zh->Option zh) (xk:ze->Option ze) (x:zh):Option zh:=zct x.Values>>=fun rv=>zcE x.Unknown>>=fun kj=>zgN xk rv rv 0>>=fun q=>some (⟨q,kj⟩:zh)
def zfc (xl:zh->Option zh) (kr:List zh) (v2:List zh) (v3:Int):Option (((List zh)×Int)⊕(List zh)):=if (decide (v3<(kr.length:Int))) then (idx v2 v3>>=fun x=>xl x>>=fun kE=>idx v2 v3>>=fun x2=>some (.inl ((v2.set (Int.toNat v3) kE),(i64.wrap (v3+1))))) else some (.inr v2)
def zdL (xl:zh->Option zh) (kr:List zh) (v2:List zh) (v3:Int):Option (List zh):=zW (fun s=>zfc xl kr s.1 s.2) (v2,v3)
def ziO (xl:zh->Option zh) (xk:ze->Option ze) (v:ze):Option ze:=zeC v.Words>>=fun rv=>zcE v.Texts>>=fun kj=>zds v.Subs>>=fun kr=>zdL xl kr kr 0>>=fun q=>some (⟨v.Number,rv,kj,q⟩:ze)
def zaA:Nat->(zh->Option zh)×(ze->Option ze) | 0=>(fun _=>none,fun _=>none) | fuel+1=>(fun x=>zog (zaA fuel).1 (zaA fuel).2 x,fun v=>ziO (zaA fuel).1 (zaA fuel).2 v)
def zjj (fuel:Nat):zh->Option zh:=(zaA fuel).1
def zgM (fuel:Nat):ze->Option ze:=(zaA fuel).2
theorem ztF (h:zhW xk rv v v2=some (.inl (v',v2'))):zgN xk rv v v2=zgN xk rv v' v2':=zz h
theorem ztG (h:zhW xk rv v v2=some (.inr ko)):zgN xk rv v v2=some ko:=zA h
theorem zoT (h:zfc xl kr v2 v3=some (.inl (v2',v3'))):zdL xl kr v2 v3=zdL xl kr v2' v3':=zz h
theorem zoU (h:zfc xl kr v2 v3=some (.inr ko)):zdL xl kr v2 v3=some ko:=zA h
def zvZ (fuel:Nat) (x:zh):Option zh:=zsu fuel x>>=fun rv=>if (!rv) then some (⟨[],[]⟩:zh) else zjj fuel x>>=fun kj=>some kj
def zch (b:List UInt8) (i:Int) (xa:(List zc)->Int->(List UInt8)->Option zh) (rv:((List zD)×Int×Int)) (kj:List Int) (sv:List zc) (x5:za) (k9:List UInt8) (met:Bool) (k:Int) (f3:List Int) (f4:List Str) (f5:List zh):Option (((List UInt8)×Bool×Int×(List Int)×(List Str)×(List zh))⊕((List UInt8)×Bool×(List Int)×(List Str)×(List zh))):=if (decide (k<(rv.1.length:Int))) then (idx rv.1 k>>=fun x6=>idx kj i>>=fun x7=>if (x6.Field !=x7) then some (.inl (k9,met,(i64.wrap (k+1)),f3,f4,f5)) else idx rv.1 k>>=fun x8=>idx rv.1 k>>=fun x9=>cut b x8.R.At x9.R.To>>=fun v=>((if (!x5.Repeated) then some ([],[]) else (some (f3,f4)) :Option ((List Int)×(List Str))))>>=fun p=>idx rv.1 k>>=fun x10=>if x10.Run then (zfx x5.Kind v>>=fun kr=>app 8 p.1 kr.1>>=fun v2=>some (.inl (k9,true,(i64.wrap (k+1)),v2,p.2,f5))) else zaF x5.Kind>>=fun kE=>if kE then (zeJ x5.Kind v>>=fun rv5=>app 8 p.1 ([rv5.1]:List Int)>>=fun v3=>some (.inl (k9,true,(i64.wrap (k+1)),v3,p.2,f5))) else if ((x5.Kind==17)&&x5.Repeated) then (xa sv x5.Of v>>=fun rv6=>app 48 f5 ([rv6]:List zh)>>=fun v5=>some (.inl (k9,true,(i64.wrap (k+1)),p.1,p.2,v5))) else if (x5.Kind==17) then (app 1 k9 v>>=fun v6=>some (.inl (v6,true,(i64.wrap (k+1)),p.1,p.2,f5))) else app 16 p.2 ([v]:List Str)>>=fun v7=>some (.inl (k9,true,(i64.wrap (k+1)),p.1,v7,f5))) else some (.inr (k9,met,f3,f4,f5))
def zeg (b:List UInt8) (i:Int) (xa:(List zc)->Int->(List UInt8)->Option zh) (rv:((List zD)×Int×Int)) (kj:List Int) (sv:List zc) (x5:za) (k9:List UInt8) (met:Bool) (k:Int) (f3:List Int) (f4:List Str) (f5:List zh):Option ((List UInt8)×Bool×(List Int)×(List Str)×(List zh)):=zW (fun s=>zch b i xa rv kj sv x5 s.1 s.2.1 s.2.2.1 s.2.2.2.1 s.2.2.2.2.1 s.2.2.2.2.2) (k9,met,k,f3,f4,f5)
def zcg (b:List UInt8) (xa:(List zc)->Int->(List UInt8)->Option zh) (root:Int) (rv:((List zD)×Int×Int)) (kj:List Int) (sv:List zc) (i:Int) (f:List ze):Option ((Int×(List ze))⊕(List ze)):=if (decide (i<(kj.length:Int))) then (idx sv root>>=fun x3=>idx kj i>>=fun x4=>idx x3.Fields x4>>=fun x5=>zeg b i xa rv kj sv x5 [] false 0 [] [] []>>=fun q=>((if (q.2.1&&((x5.Kind==17)&&(!x5.Repeated))) then (xa sv x5.Of q.1>>=fun rv7=>some ([rv7]:List zh)) else (some q.2.2.2.2) :Option (List zh)))>>=fun p2=>zge (⟨x5.Number,q.2.2.1,q.2.2.2.1,p2⟩:ze)>>=fun rv8=>if (decide (rv8>0)) then (app 80 f ([(⟨x5.Number,q.2.2.1,q.2.2.2.1,p2⟩:ze)]:List ze)>>=fun v9=>some (.inl ((i64.wrap (i+1)),v9))) else some (.inl ((i64.wrap (i+1)),f))) else some (.inr f)
def zef (b:List UInt8) (xa:(List zc)->Int->(List UInt8)->Option zh) (root:Int) (rv:((List zD)×Int×Int)) (kj:List Int) (sv:List zc) (i:Int) (f:List ze):Option (List ze):=zW (fun s=>zcg b xa root rv kj sv s.1 s.2) (i,f)
def zba (b:List UInt8) (rv:((List zD)×Int×Int)) (k2:Int) (f12:List Str):Option ((Int×(List Str))⊕(List Str)):=if (decide (k2<(rv.1.length:Int))) then (idx rv.1 k2>>=fun x11=>if (decide (x11.Field<0)) then (idx rv.1 k2>>=fun x12=>idx rv.1 k2>>=fun x13=>cut b x12.R.From x13.R.To>>=fun v10=>app 16 f12 ([v10]:List Str)>>=fun v11=>some (.inl ((i64.wrap (k2+1)),v11))) else some (.inl ((i64.wrap (k2+1)),f12))) else some (.inr f12)
def zeh (b:List UInt8) (rv:((List zD)×Int×Int)) (k2:Int) (f12:List Str):Option (List Str):=zW (fun s=>zba b rv s.1 s.2) (k2,f12)
def zgf (xa:(List zc)->Int->(List UInt8)->Option zh) (sv:List zc) (root:Int) (b:List UInt8):Option zh:=idx sv root>>=fun x=>zgG x b>>=fun rv=>idx sv root>>=fun x2=>zeX x2>>=fun kj=>zef b xa root rv kj sv 0 []>>=fun q2=>zeh b rv 0 []>>=fun q3=>some (⟨q2,q3⟩:zh)
def zdN:Nat->(List zc)->Int->(List UInt8)->Option zh | 0,_,_,_=>none | fuel+1,sv,root,b=>zgf (zdN fuel) sv root b
theorem zjs {b:List UInt8} {i:Int} {xa:(List zc)->Int->(List UInt8)->Option zh} {rv:((List zD)×Int×Int)} {kj:List Int} {sv:List zc} {x5:za} {k9:List UInt8} {met:Bool} {k:Int} {f3:List Int} {f4:List Str} {f5:List zh} {joined':List UInt8} {kw:Bool} {k':Int} {f3':List Int} {f4':List Str} {f5':List zh} (h:zch b i xa rv kj sv x5 k9 met k f3 f4 f5=some (.inl (joined',kw,k',f3',f4',f5'))):zeg b i xa rv kj sv x5 k9 met k f3 f4 f5=zeg b i xa rv kj sv x5 joined' kw k' f3' f4' f5':=zz h
theorem zph {b:List UInt8} {i:Int} {xa:(List zc)->Int->(List UInt8)->Option zh} {rv:((List zD)×Int×Int)} {kj:List Int} {sv:List zc} {x5:za} {k9:List UInt8} {met:Bool} {k:Int} {f3:List Int} {f4:List Str} {f5:List zh} {ko:((List UInt8)×Bool×(List Int)×(List Str)×(List zh))} (h:zch b i xa rv kj sv x5 k9 met k f3 f4 f5=some (.inr ko)):zeg b i xa rv kj sv x5 k9 met k f3 f4 f5=some ko:=zA h
theorem zpf {b:List UInt8} {xa:(List zc)->Int->(List UInt8)->Option zh} {root:Int} {rv:((List zD)×Int×Int)} {kj:List Int} {sv:List zc} {i:Int} {f:List ze} {i':Int} {f':List ze} (h:zcg b xa root rv kj sv i f=some (.inl (i',f'))):zef b xa root rv kj sv i f=zef b xa root rv kj sv i' f':=zz h
theorem zpg {b:List UInt8} {xa:(List zc)->Int->(List UInt8)->Option zh} {root:Int} {rv:((List zD)×Int×Int)} {kj:List Int} {sv:List zc} {i:Int} {f:List ze} {ko:List ze} (h:zcg b xa root rv kj sv i f=some (.inr ko)):zef b xa root rv kj sv i f=some ko:=zA h
theorem zjt {b:List UInt8} {rv:((List zD)×Int×Int)} {k2:Int} {f12:List Str} {k2':Int} {f12':List Str} (h:zba b rv k2 f12=some (.inl (k2',f12'))):zeh b rv k2 f12=zeh b rv k2' f12':=zz h
theorem zpi {b:List UInt8} {rv:((List zD)×Int×Int)} {k2:Int} {f12:List Str} {ko:List Str} (h:zba b rv k2 f12=some (.inr ko)):zeh b rv k2 f12=some ko:=zA h
def zbC (xf:(List zc)->za->ze->Option (List UInt8)) (root:Int) (sv:List zc) (x:zh) (out:List UInt8) (i:Int):Option (((List UInt8)×Int)⊕(List UInt8)):=if (decide (i<(x.Values.length:Int))) then (idx sv root>>=fun x2=>idx sv root>>=fun x3=>idx x.Values i>>=fun x4=>zee x3 x4.Number>>=fun rv=>idx x2.Fields rv>>=fun x5=>idx x.Values i>>=fun x6=>xf sv x5 x6>>=fun kj=>app 1 out kj>>=fun v=>some (.inl (v,(i64.wrap (i+1))))) else some (.inr out)
def zcs (xf:(List zc)->za->ze->Option (List UInt8)) (root:Int) (sv:List zc) (x:zh) (out:List UInt8) (i:Int):Option (List UInt8):=zW (fun s=>zbC xf root sv x s.1 s.2) (out,i)
def zbD (x:zh) (out3:List UInt8) (i2:Int):Option (((List UInt8)×Int)⊕(List UInt8)):=if (decide (i2<(x.Unknown.length:Int))) then (idx x.Unknown i2>>=fun x7=>app 1 out3 x7>>=fun v2=>some (.inl (v2,(i64.wrap (i2+1))))) else some (.inr out3)
def zdy (x:zh) (out3:List UInt8) (i2:Int):Option (List UInt8):=zW (fun s=>zbD x s.1 s.2) (out3,i2)
def zea (xe:(List zc)->Int->zh->Option (List UInt8)) (xf:(List zc)->za->ze->Option (List UInt8)) (sv:List zc) (root:Int) (x:zh):Option (List UInt8):=zcs xf root sv x [] 0>>=fun q=>zdy x q 0>>=fun q2=>some q2
def zbR (fuel:Nat) (f:za) (v:ze) (out:List UInt8) (i:Int):Option (((List UInt8)×Int)⊕(List UInt8)):=if (decide (i<(v.Texts.length:Int))) then (idx v.Texts i>>=fun x2=>lenO x2>>=fun v3=>zdh fuel f.Number 2 v3>>=fun rv8=>app 1 out rv8>>=fun v4=>some (.inl (v4,(i64.wrap (i+1))))) else some (.inr out)
def zcK (fuel:Nat) (f:za) (v:ze) (out:List UInt8) (i:Int):Option (List UInt8):=zW (fun s=>zbR fuel f v s.1 s.2) (out,i)
def zbS (fuel:Nat) (f:za) (xe:(List zc)->Int->zh->Option (List UInt8)) (sv:List zc) (v:ze) (out3:List UInt8) (i2:Int):Option (((List UInt8)×Int)⊕(List UInt8)):=if (decide (i2<(v.Subs.length:Int))) then (idx v.Subs i2>>=fun x3=>xe sv f.Of x3>>=fun rv9=>zdh fuel f.Number 2 rv9>>=fun rv10=>app 1 out3 rv10>>=fun v5=>some (.inl (v5,(i64.wrap (i2+1))))) else some (.inr out3)
def zeb (fuel:Nat) (f:za) (xe:(List zc)->Int->zh->Option (List UInt8)) (sv:List zc) (v:ze) (out3:List UInt8) (i2:Int):Option (List UInt8):=zW (fun s=>zbS fuel f xe sv v s.1 s.2) (out3,i2)
def zey (fuel:Nat) (xe:(List zc)->Int->zh->Option (List UInt8)) (xf:(List zc)->za->ze->Option (List UInt8)) (sv:List zc) (f:za) (v:ze):Option (List UInt8):=zaF f.Kind>>=fun rv=>if (rv&&f.Repeated) then (zgc fuel f.Kind v.Words>>=fun kj=>zdh fuel f.Number 2 kj>>=fun kr=>some kr) else zaF f.Kind>>=fun kE=>if kE then (zcC f.Kind>>=fun rv5=>idx v.Words 0>>=fun x=>zfi fuel f.Kind x>>=fun rv6=>zdh fuel f.Number rv5 rv6>>=fun rv7=>some rv7) else zcK fuel f v [] 0>>=fun q=>zeb fuel f xe sv v q 0>>=fun q2=>some q2
def zac:Nat->((List zc)->Int->zh->Option (List UInt8))×((List zc)->za->ze->Option (List UInt8)) | 0=>(fun _ _ _=>none,fun _ _ _=>none) | fuel+1=>(fun sv root x=>zea (zac fuel).1 (zac fuel).2 sv root x,fun sv f v=>zey fuel (zac fuel).1 (zac fuel).2 sv f v)
def zbH (fuel:Nat):(List zc)->Int->zh->Option (List UInt8):=(zac fuel).1
def zei (fuel:Nat):(List zc)->za->ze->Option (List UInt8):=(zac fuel).2
theorem zmg {xf:(List zc)->za->ze->Option (List UInt8)} {root:Int} {sv:List zc} {x:zh} {out:List UInt8} {i:Int} {kV:List UInt8} {i':Int} (h:zbC xf root sv x out i=some (.inl (kV,i'))):zcs xf root sv x out i=zcs xf root sv x kV i':=zz h
theorem zmh {xf:(List zc)->za->ze->Option (List UInt8)} {root:Int} {sv:List zc} {x:zh} {out:List UInt8} {i:Int} {ko:List UInt8} (h:zbC xf root sv x out i=some (.inr ko)):zcs xf root sv x out i=some ko:=zA h
theorem zmi {x:zh} {out3:List UInt8} {i2:Int} {out3':List UInt8} {i2':Int} (h:zbD x out3 i2=some (.inl (out3',i2'))):zdy x out3 i2=zdy x out3' i2':=zz h
theorem zmj {x:zh} {out3:List UInt8} {i2:Int} {ko:List UInt8} (h:zbD x out3 i2=some (.inr ko)):zdy x out3 i2=some ko:=zA h
theorem znb {fuel:Nat} {f:za} {v:ze} {out:List UInt8} {i:Int} {kV:List UInt8} {i':Int} (h:zbR fuel f v out i=some (.inl (kV,i'))):zcK fuel f v out i=zcK fuel f v kV i':=zz h
theorem znc {fuel:Nat} {f:za} {v:ze} {out:List UInt8} {i:Int} {ko:List UInt8} (h:zbR fuel f v out i=some (.inr ko)):zcK fuel f v out i=some ko:=zA h
theorem znd {fuel:Nat} {f:za} {xe:(List zc)->Int->zh->Option (List UInt8)} {sv:List zc} {v:ze} {out3:List UInt8} {i2:Int} {out3':List UInt8} {i2':Int} (h:zbS fuel f xe sv v out3 i2=some (.inl (out3',i2'))):zeb fuel f xe sv v out3 i2=zeb fuel f xe sv v out3' i2':=zz h
theorem zne {fuel:Nat} {f:za} {xe:(List zc)->Int->zh->Option (List UInt8)} {sv:List zc} {v:ze} {out3:List UInt8} {i2:Int} {ko:List UInt8} (h:zbS fuel f xe sv v out3 i2=some (.inr ko)):zeb fuel f xe sv v out3 i2=some ko:=zA h
def zhu (k:Int):Option Bool:=zhT k 0>>=fun rv=>some (decide (rv>0))
def zmw (out:List UInt8) (number:Int) (wire:Int) (value:List UInt8):Option (List UInt8):=zku ([]:List UInt8) number wire value>>=fun rv=>app 1 out rv.1>>=fun v=>some v
def zlO (k:Int):Option Int:=zhT k 0>>=fun rv=>if (rv==4) then some 5 else if (rv==8) then some 1 else some 0
def zmx (out:List UInt8) (f:za) (b:List UInt8):Option (List UInt8):=if ((b.length:Int)==0) then some out else zoL f.Kind b>>=fun rv=>zrA f.Kind rv.1>>=fun kj=>if f.Repeated then (zmw out f.Number 2 kj.1>>=fun kr=>some kr) else zlO f.Kind>>=fun kE=>zmw out f.Number kE kj.1>>=fun rv5=>some rv5
def zhP (wv:zS) (message:Int) (b:List UInt8) (kJ:Int):Option (zj×Int×(List (zg×Int))):=zgk b kJ>>=fun rv=>if (!(mget wv.met (⟨message,rv.1.Number⟩:zg)).isSome) then (idx wv.s message>>=fun x=>zlW x b kJ>>=fun kj=>some (rv.1,kj.1.Field,(mput wv.met (⟨message,rv.1.Number⟩:zg) kj.1.Field))) else some (rv.1,((mget wv.met (⟨message,rv.1.Number⟩:zg)).getD 0),wv.met)
def zkY (f:za) (before:List UInt8) (b:List UInt8) (rv:zj):Option (List UInt8):=(if f.Repeated then (zhu f.Kind>>=fun kj=>some (!kj)) else some false)>>=fun g=>((if g then some rv.From else (some rv.At) :Option Int))>>=fun p=>if (((!f.Repeated)&&(f.Kind !=17))|| ((before.length:Int)==0)) then (cut b p rv.To>>=fun v3=>some v3) else cut b p rv.To>>=fun v4=>app 1 before v4>>=fun v5=>some v5
def zmv (number:Int) (size:Int):Option (List UInt8):=zmA ([]:List UInt8) number ([]:List UInt8)>>=fun rv=>zkA 4 (u64.wrap size)>>=fun kj=>cut rv 0 (i64.wrap ((rv.length:Int) - 1))>>=fun v=>app 1 v kj.1>>=fun v2=>some v2
def zcY (b:List UInt8) (f:za) (xb:zS->(List UInt8)->za->(List UInt8)->Option ((List UInt8)×(List (zg×Int)))) (wv:zS) (kA:List (zg×Int)) (kY:List UInt8) (kJ:Int):Option (((List (zg×Int))×(List UInt8)×Int)⊕((List (zg×Int))×(List UInt8))):=if (decide (kJ<(b.length:Int))) then (zgk b kJ>>=fun rv5=>cut b rv5.1.At rv5.1.To>>=fun v=>xb (⟨wv.s,kA⟩:zS) kY f v>>=fun rv6=>some (.inl (rv6.2,rv6.1,rv5.1.To))) else some (.inr (kA,kY))
def zek (b:List UInt8) (f:za) (xb:zS->(List UInt8)->za->(List UInt8)->Option ((List UInt8)×(List (zg×Int)))) (wv:zS) (kA:List (zg×Int)) (kY:List UInt8) (kJ:Int):Option ((List (zg×Int))×(List UInt8)):=zW (fun s=>zcY b f xb wv s.1 s.2.1 s.2.2) (kA,kY,kJ)
def zeN (xc:zS->(List UInt8)->za->(List UInt8)->Option ((List UInt8)×(List (zg×Int)))) (xm:zS->(List UInt8)->Int->(List UInt8)->Option ((List UInt8)×(List (zg×Int)))) (xb:zS->(List UInt8)->za->(List UInt8)->Option ((List UInt8)×(List (zg×Int)))) (wv:zS) (out:List UInt8) (f:za) (b:List UInt8):Option ((List UInt8)×(List (zg×Int))):=zhu f.Kind>>=fun rv=>if rv then (zmx out f b>>=fun kj=>some (kj,wv.met)) else if (!f.Repeated) then (xb wv out f b>>=fun kE=>some (kE.1,kE.2)) else zek b f xb wv wv.met out 0>>=fun q=>some (q.2,q.1)
def zbw (b:List UInt8) (message:Int) (wv:zS) (x:zc) (kA:List (zg×Int)) (kP:List (Int×(List UInt8))) (kl:List UInt8) (kJ:Int):Option (((List (zg×Int))×(List (Int×(List UInt8)))×(List UInt8)×Int)⊕((List (zg×Int))×(List (Int×(List UInt8)))×(List UInt8))):=if (decide (kJ<(b.length:Int))) then (zhP (⟨wv.s,kA⟩:zS) message b kJ>>=fun kj=>if (kj.2.1==(-1)) then (cut b kj.1.From kj.1.To>>=fun v=>app 1 kl v>>=fun v2=>some (.inl (kj.2.2,kP,v2,kj.1.To))) else idx x.Fields kj.2.1>>=fun x2=>zkY x2 ((mget kP kj.1.Number).getD []) b kj.1>>=fun v3=>some (.inl (kj.2.2,(mput kP kj.1.Number v3),kl,kj.1.To))) else some (.inr (kA,kP,kl))
def zcj (b:List UInt8) (message:Int) (wv:zS) (x:zc) (kA:List (zg×Int)) (kP:List (Int×(List UInt8))) (kl:List UInt8) (kJ:Int):Option ((List (zg×Int))×(List (Int×(List UInt8)))×(List UInt8)):=zW (fun s=>zbw b message wv x s.1 s.2.1 s.2.2.1 s.2.2.2) (kA,kP,kl,kJ)
def zci (message:Int) (q:((List (zg×Int))×(List (Int×(List UInt8)))×(List UInt8))) (xc:zS->(List UInt8)->za->(List UInt8)->Option ((List UInt8)×(List (zg×Int)))) (v4:List Int) (wv:zS) (x:zc) (wv4:List (zg×Int)) (kY:List UInt8) (v5:Int):Option (((List (zg×Int))×(List UInt8)×Int)⊕((List (zg×Int))×(List UInt8))):=if (decide (v5<(v4.length:Int))) then (idx v4 v5>>=fun x3=>idx x.Fields ((mget wv4 (⟨message,x3⟩:zg)).getD 0)>>=fun x4=>xc (⟨wv.s,wv4⟩:zS) kY x4 ((mget q.2.1 x3).getD [])>>=fun kr=>some (.inl (kr.2,kr.1,(i64.wrap (v5+1))))) else some (.inr (wv4,kY))
def zdl (message:Int) (q:((List (zg×Int))×(List (Int×(List UInt8)))×(List UInt8))) (xc:zS->(List UInt8)->za->(List UInt8)->Option ((List UInt8)×(List (zg×Int)))) (v4:List Int) (wv:zS) (x:zc) (wv4:List (zg×Int)) (kY:List UInt8) (v5:Int):Option ((List (zg×Int))×(List UInt8)):=zW (fun s=>zci message q xc v4 wv x s.1 s.2.1 s.2.2) (wv4,kY,v5)
def zeY (xc:zS->(List UInt8)->za->(List UInt8)->Option ((List UInt8)×(List (zg×Int)))) (xm:zS->(List UInt8)->Int->(List UInt8)->Option ((List UInt8)×(List (zg×Int)))) (xb:zS->(List UInt8)->za->(List UInt8)->Option ((List UInt8)×(List (zg×Int)))) (wv:zS) (out:List UInt8) (message:Int) (b:List UInt8):Option ((List UInt8)×(List (zg×Int))):=idx wv.s message>>=fun x=>zcj b message wv x wv.met ([]:List (Int×(List UInt8))) [] 0>>=fun q=>zoA q.2.1>>=fun v4=>zdl message q xc v4 wv x q.1 out 0>>=fun q2=>app 1 q2.2 q.2.2>>=fun v6=>some (v6,q2.1)
def zeO (xc:zS->(List UInt8)->za->(List UInt8)->Option ((List UInt8)×(List (zg×Int)))) (xm:zS->(List UInt8)->Int->(List UInt8)->Option ((List UInt8)×(List (zg×Int)))) (xb:zS->(List UInt8)->za->(List UInt8)->Option ((List UInt8)×(List (zg×Int)))) (wv:zS) (out:List UInt8) (f:za) (b:List UInt8):Option ((List UInt8)×(List (zg×Int))):=if (f.Kind !=17) then (zmw out f.Number 2 b>>=fun rv=>some (rv,wv.met)) else xm wv out f.Of b>>=fun kr=>zmv f.Number (i64.wrap ((kr.1.length:Int) - (out.length:Int)))>>=fun kE=>insO kr.1 (out.length:Int) kE>>=fun v=>some (v,kr.2)
def zE:Nat->(zS->(List UInt8)->za->(List UInt8)->Option ((List UInt8)×(List (zg×Int))))×(zS->(List UInt8)->Int->(List UInt8)->Option ((List UInt8)×(List (zg×Int))))×(zS->(List UInt8)->za->(List UInt8)->Option ((List UInt8)×(List (zg×Int)))) | 0=>(fun _ _ _ _=>none,fun _ _ _ _=>none,fun _ _ _ _=>none) | fuel+1=>(fun wv out f b=>zeN (zE fuel).1 (zE fuel).2.1 (zE fuel).2.2 wv out f b,fun wv out message b=>zeY (zE fuel).1 (zE fuel).2.1 (zE fuel).2.2 wv out message b,fun wv out f b=>zeO (zE fuel).1 (zE fuel).2.1 (zE fuel).2.2 wv out f b)
def zeU (fuel:Nat):zS->(List UInt8)->za->(List UInt8)->Option ((List UInt8)×(List (zg×Int))):=(zE fuel).1
def zbV (fuel:Nat):zS->(List UInt8)->Int->(List UInt8)->Option ((List UInt8)×(List (zg×Int))):=(zE fuel).2.1
def ziH (fuel:Nat):zS->(List UInt8)->za->(List UInt8)->Option ((List UInt8)×(List (zg×Int))):=(zE fuel).2.2
theorem zpx {b:List UInt8} {f:za} {xb:zS->(List UInt8)->za->(List UInt8)->Option ((List UInt8)×(List (zg×Int)))} {wv:zS} {kA:List (zg×Int)} {kY:List UInt8} {kJ:Int} {wv2':List (zg×Int)} {out2':List UInt8} {fromv':Int} (h:zcY b f xb wv kA kY kJ=some (.inl (wv2',out2',fromv'))):zek b f xb wv kA kY kJ=zek b f xb wv wv2' out2' fromv':=zz h
theorem zpy {b:List UInt8} {f:za} {xb:zS->(List UInt8)->za->(List UInt8)->Option ((List UInt8)×(List (zg×Int)))} {wv:zS} {kA:List (zg×Int)} {kY:List UInt8} {kJ:Int} {ko:((List (zg×Int))×(List UInt8))} (h:zcY b f xb wv kA kY kJ=some (.inr ko)):zek b f xb wv kA kY kJ=some ko:=zA h
theorem zix {b:List UInt8} {message:Int} {wv:zS} {x:zc} {kA:List (zg×Int)} {kP:List (Int×(List UInt8))} {kl:List UInt8} {kJ:Int} {wv2':List (zg×Int)} {known':List (Int×(List UInt8))} {rest':List UInt8} {fromv':Int} (h:zbw b message wv x kA kP kl kJ=some (.inl (wv2',known',rest',fromv'))):zcj b message wv x kA kP kl kJ=zcj b message wv x wv2' known' rest' fromv':=zz h
theorem znX {b:List UInt8} {message:Int} {wv:zS} {x:zc} {kA:List (zg×Int)} {kP:List (Int×(List UInt8))} {kl:List UInt8} {kJ:Int} {ko:((List (zg×Int))×(List (Int×(List UInt8)))×(List UInt8))} (h:zbw b message wv x kA kP kl kJ=some (.inr ko)):zcj b message wv x kA kP kl kJ=some ko:=zA h
theorem znY {message:Int} {q:((List (zg×Int))×(List (Int×(List UInt8)))×(List UInt8))} {xc:zS->(List UInt8)->za->(List UInt8)->Option ((List UInt8)×(List (zg×Int)))} {v4:List Int} {wv:zS} {x:zc} {wv4:List (zg×Int)} {kY:List UInt8} {v5:Int} {wv4':List (zg×Int)} {out2':List UInt8} {v5':Int} (h:zci message q xc v4 wv x wv4 kY v5=some (.inl (wv4',out2',v5'))):zdl message q xc v4 wv x wv4 kY v5=zdl message q xc v4 wv x wv4' out2' v5':=zz h
theorem znZ {message:Int} {q:((List (zg×Int))×(List (Int×(List UInt8)))×(List UInt8))} {xc:zS->(List UInt8)->za->(List UInt8)->Option ((List UInt8)×(List (zg×Int)))} {v4:List Int} {wv:zS} {x:zc} {wv4:List (zg×Int)} {kY:List UInt8} {v5:Int} {ko:((List (zg×Int))×(List UInt8))} (h:zci message q xc v4 wv x wv4 kY v5=some (.inr ko)):zdl message q xc v4 wv x wv4 kY v5=some ko:=zA h
def zjb (fuel:Nat) (sv:List zc) (root:Int) (b:List UInt8):Option (List UInt8):=zbV fuel (⟨sv,([]:List (zg×Int))⟩:zS) ([]:List UInt8) root b>>=fun kj=>some kj.1
def zja (fuel:Nat) (sv:List zc) (root:Int) (b:List UInt8) (d:Int):Option ((List UInt8)×Int):=zjk fuel sv root b d>>=fun rv=>if (rv.2 !=0) then some ([],rv.2) else zjb fuel sv root b>>=fun kj=>some (kj,0)
def zfp (fuel:Nat):Option Bool:=zja fuel ([(⟨[109],([(⟨[97],1,3,false,false,0⟩:za)]:List za)⟩:zc)]:List zc) 0 ([(8:UInt8),(129:UInt8),(0:UInt8),(8:UInt8),(130:UInt8),(0:UInt8)]:List UInt8) 0>>=fun rv=>(if ((i64.wrap rv.2)==0) then (zdw rv.1 ([(8:UInt8),(2:UInt8)]:List UInt8)>>=fun kj=>some kj) else some false)>>=fun g=>some g
def zgq (b:List UInt8) (rv:((List UInt8)×Int)) (place:Int):Option (Int⊕Int):=(if (decide (place<(if (rv.1.length:Int)<(b.length:Int) then (rv.1.length:Int) else (b.length:Int)))) then (idx b place>>=fun x=>idx rv.1 place>>=fun x2=>some ((x.toNat:Int)==(x2.toNat:Int))) else some false)>>=fun g=>if g then some (.inl (i64.wrap (place+1))) else some (.inr place)
def zht (b:List UInt8) (rv:((List UInt8)×Int)) (place:Int):Option Int:=zW (fun s=>zgq b rv s) place
def zmu (fuel:Nat) (sv:List zc) (root:Int) (b:List UInt8) (d:Int):Option (Int×Int):=zja fuel sv root b d>>=fun rv=>if (rv.2 !=0) then some (0,rv.2) else ziU rv.1 b>>=fun kj=>if kj then some ((-1),0) else zht b rv 0>>=fun q=>some (q,0)
theorem zuv {b:List UInt8} {rv:((List UInt8)×Int)} {place:Int} {place':Int} (h:zgq b rv place=some (.inl place')):zht b rv place=zht b rv place':=zz h
theorem znv {b:List UInt8} {rv:((List UInt8)×Int)} {place:Int} {ko:Int} (h:zgq b rv place=some (.inr ko)):zht b rv place=some ko:=zA h
def zgp (b:List UInt8) (kj:List zi) (own:List UInt8) (v:Int):Option (((List UInt8)×Int)⊕(List UInt8)):=if (decide (v<(kj.length:Int))) then (idx kj v>>=fun x2=>cut b x2.Record.From x2.Record.To>>=fun v2=>app 1 own v2>>=fun v3=>some (.inl (v3,(i64.wrap (v+1))))) else some (.inr own)
def zhs (b:List UInt8) (kj:List zi) (own:List UInt8) (v:Int):Option (List UInt8):=zW (fun s=>zgp b kj s.1 s.2) (own,v)
def zmt (fuel:Nat) (sv:List zc) (root:Int) (b:List UInt8) (d:Int) (number:Int):Option ((List UInt8)×Int):=zjk fuel sv root b d>>=fun rv=>if (rv.2 !=0) then some ([],rv.2) else idx sv root>>=fun x=>zvb x b number>>=fun kj=>zhs b kj [] 0>>=fun q=>zjb fuel sv root q>>=fun kr=>some (kr,0)
theorem zut {b:List UInt8} {kj:List zi} {own:List UInt8} {v:Int} {own':List UInt8} {v':Int} (h:zgp b kj own v=some (.inl (own',v'))):zhs b kj own v=zhs b kj own' v':=zz h
theorem zuu {b:List UInt8} {kj:List zi} {own:List UInt8} {v:Int} {ko:List UInt8} (h:zgp b kj own v=some (.inr ko)):zhs b kj own v=some ko:=zA h
def zsf (fuel:Nat) (sv:List zc) (root:Int) (b:List UInt8) (d:Int):Option Bool:=zja fuel sv root b d>>=fun rv=>(if (rv.2==0) then (ziU rv.1 b>>=fun kj=>some kj) else some false)>>=fun g=>some g
def zgg (fuel:Nat) (sv:List zc) (root:Int) (b:List UInt8):Option (List UInt8):=zdN fuel sv root b>>=fun rv=>zbH fuel sv root rv>>=fun kj=>some kj
def zbl (av:List UInt8) (b:List UInt8) (i:Int):Option (Int⊕Int):=(if (i==(av.length:Int)) then some true else if (i==(b.length:Int)) then some true else idx av i>>=fun x=>idx b i>>=fun x2=>some ((x.toNat:Int) !=(x2.toNat:Int)))>>=fun g=>if g then some (.inr i) else some (.inl (i64.wrap (i+1)))
def zcM (av:List UInt8) (b:List UInt8) (i:Int):Option Int:=zW (fun s=>zbl av b s) i
def zfA (av:List UInt8) (b:List UInt8):Option Int:=zdw av b>>=fun rv=>if rv then some (-1) else zcM av b 0>>=fun q=>some q
theorem zng {av:List UInt8} {b:List UInt8} {i:Int} {i':Int} (h:zbl av b i=some (.inl i')):zcM av b i=zcM av b i':=zz h
theorem zfN {av:List UInt8} {b:List UInt8} {i:Int} {ko:Int} (h:zbl av b i=some (.inr ko)):zcM av b i=some ko:=zA h
def zbk (b:List UInt8) (number:Int) (rv:((List zj)×Int×Int)) (out:List UInt8) (i:Int):Option (((List UInt8)×Int)⊕(List UInt8)):=if (decide (i<(rv.1.length:Int))) then (idx rv.1 i>>=fun x=>if (x.Number==number) then (idx rv.1 i>>=fun x2=>idx rv.1 i>>=fun x3=>cut b x2.From x3.To>>=fun v=>app 1 out v>>=fun v2=>some (.inl (v2,(i64.wrap (i+1))))) else some (.inl (out,(i64.wrap (i+1))))) else some (.inr out)
def zcL (b:List UInt8) (number:Int) (rv:((List zj)×Int×Int)) (out:List UInt8) (i:Int):Option (List UInt8):=zW (fun s=>zbk b number rv s.1 s.2) (out,i)
def zfz (b:List UInt8) (number:Int):Option (List UInt8):=zft b>>=fun rv=>zcL b number rv [] 0>>=fun q=>some q
theorem zim {b:List UInt8} {number:Int} {rv:((List zj)×Int×Int)} {out:List UInt8} {i:Int} {kV:List UInt8} {i':Int} (h:zbk b number rv out i=some (.inl (kV,i'))):zcL b number rv out i=zcL b number rv kV i':=zz h
theorem znf {b:List UInt8} {number:Int} {rv:((List zj)×Int×Int)} {out:List UInt8} {i:Int} {ko:List UInt8} (h:zbk b number rv out i=some (.inr ko)):zcL b number rv out i=some ko:=zA h
def zdv (fuel:Nat) (sv:List zc) (root:Int) (b:List UInt8) (d:Int) (number:Int):Option Bool:=zfp fuel>>=fun rv=>if (!rv) then some false else (zgD sv>>=fun kj=>if ((!kj)|| (decide ((b.length:Int)>1500))) then some true else zja fuel sv root b d>>=fun kr=>zmu fuel sv root b d>>=fun kE=>zmt fuel sv root b d number>>=fun rv5=>zfy fuel sv root b d>>=fun rv6=>if (rv6.2 !=0) then ((if ((i64.wrap kr.2)==rv6.2) then (if ((i64.wrap kE.2)==rv6.2) then (if ((i64.wrap rv5.2)==rv6.2) then (if ((i64.wrap ((i64.wrap ((kr.1.length:Int)+kE.1))+(rv5.1.length:Int)))==0) then (zsf fuel sv root b d>>=fun rv7=>some (!rv7)) else some false) else some false) else some false) else some false)>>=fun g=>some g) else zgg fuel sv root b>>=fun rv8=>(if ((i64.wrap ((i64.wrap ((i64.wrap kr.2)+(i64.wrap kE.2)))+(i64.wrap rv5.2)))==0) then (zdw kr.1 rv8>>=fun rv9=>if rv9 then (zfA b rv8>>=fun rv10=>if (kE.1==rv10) then (zfz rv8 number>>=fun rv11=>zdw rv5.1 rv11>>=fun rv12=>if rv12 then (zsf fuel sv root b d>>=fun rv13=>some (rv13==(decide (kE.1<0)))) else some false) else some false) else some false) else some false)>>=fun g2=>some g2)
end
end Go.Proofs.YtaglemhabeipfaaGreat
