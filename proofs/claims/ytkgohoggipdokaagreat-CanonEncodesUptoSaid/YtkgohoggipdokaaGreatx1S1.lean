/-
  What the Go functions do, as plain functions. No condition.
-/
import Derived.Test.YtkgohoggipdokaaGreatx1K2
set_option autoImplicit true
set_option relaxedAutoImplicit true
namespace Go.Proofs.YtkgohoggipdokaaGreat
open Go.IntKind (i32 i64 u32 u64 u8)
open Go
set_option linter.unusedVariables false
abbrev Str:=List UInt8
structure zHx where
  a0:Str
  a1:Str
  a2:Str
  a3:Str
  a4:Str
  a5:Str
  a6:Str
  a7:Str
  a8:Str
  a9:Str
  a10:Str
  a11:Str
  a12:Str
  a13:Str
  a14:Str deriving DecidableEq
structure zn where
  Number:Int
  Wire:Int
  From:Int
  At:Int
  To:Int deriving DecidableEq
def zN:Rp zn:=⟨5,true,fun x=>[.int .i64 x.Number,.int .i64 x.Wire,.int .i64 x.From,.int .i64 x.At,.int .i64 x.To],fun _=>rfl,by decide⟩
structure zjR where
  Record:zn
  Field:Int
  Run:Bool deriving DecidableEq
structure zo where
  name:Str
  wire:Int deriving DecidableEq
def zan:Rp zo:=⟨2,true,fun x=>[.str x.name,.int .i64 x.wire],fun _=>rfl,by decide⟩
mutual
structure zc where
  Values:(List za)
  Unknown:(List Str)
structure za where
  Number:Int
  Words:(List Int)
  Texts:(List Str)
  Subs:(List zc)
end
mutual
def zgx:zc->List LV | ⟨x0,x1⟩=>[.sl x0.length 4 (zdj x0),.sl x1.length Rp.str.size (x1.flatMap Rp.str.lv)]
def zgc:List zc->List LV | []=>[] | x::l=>zgx x++zgc l
def zdu:za->List LV | ⟨x0,x1,x2,x3⟩=>[.int .i64 x0,.sl x1.length (Rp.int .u64).size (x1.flatMap (Rp.int .u64).lv),.sl x2.length Rp.str.size (x2.flatMap Rp.str.lv),.sl x3.length 2 (zgc x3)]
def zdj:List za->List LV | []=>[] | x::l=>zdu x++zdj l
end
theorem zpz (l:List zc):zgc l=l.flatMap zgx:=by
  induction l with
  | nil=>rfl
  | cons x l ih=>rw [zgc,ih,xN]
def zh:Rp zc:=⟨2,true,zgx,fun x=>by cases x;rfl,by decide⟩
theorem zjF (l:List za):zdj l=l.flatMap zdu:=by
  induction l with
  | nil=>rfl
  | cons x l ih=>rw [zdj,ih,xN]
def zf:Rp za:=⟨4,true,zdu,fun x=>by cases x;rfl,by decide⟩
theorem zaQ (x:zc):zh.lv x=[.sl x.Values.length zf.size (x.Values.flatMap zf.lv),.sl x.Unknown.length Rp.str.size (x.Unknown.flatMap Rp.str.lv)]:=by
  cases x;simp only [zh,zgx,zjF,zf]<;>rfl
theorem zF (x:za):zf.lv x=[.int .i64 x.Number,.sl x.Words.length (Rp.int .u64).size (x.Words.flatMap (Rp.int .u64).lv),.sl x.Texts.length Rp.str.size (x.Texts.flatMap Rp.str.lv),.sl x.Subs.length zh.size (x.Subs.flatMap zh.lv)]:=by
  cases x;simp only [zf,zdu,zpz,zh]<;>rfl
structure zb where
  Name:Str
  Number:Int
  Kind:Int
  Repeated:Bool
  Packed:Bool
  Of:Int deriving DecidableEq
def ze:Rp zb:=⟨6,true,fun x=>[.str x.Name,.int .i64 x.Number,.int .i64 x.Kind,.bool x.Repeated,.bool x.Packed,.int .i64 x.Of],fun _=>rfl,by decide⟩
structure zd where
  Name:Str
  Fields:(List zb) deriving DecidableEq
def zi:Rp zd:=⟨2,true,fun x=>[.str x.Name,.sl x.Fields.length ze.size (x.Fields.flatMap ze.lv)],fun _=>rfl,by decide⟩
structure zP where
  Number:Int
  Wire:Int deriving DecidableEq
def zbP:Rp zP:=⟨2,true,fun x=>[.int .i64 x.Number,.int .i64 x.Wire],fun _=>rfl,by decide⟩
structure zp where
  message:Int
  name:Str deriving DecidableEq
def zD:Rp zp:=⟨2,true,fun x=>[.int .i64 x.message,.str x.name],fun _=>rfl,by decide⟩
structure zr where
  message:Int
  number:Int deriving DecidableEq
def zE:Rp zr:=⟨2,true,fun x=>[.int .i64 x.message,.int .i64 x.number],fun _=>rfl,by decide⟩
structure zax where
  size:Int
  kinds:(List Int)
  names:(List (zp×Bool))
  numbers:(List (zr×Bool))
structure zaw where
  Message:Int
  Field:Int
  What:Int deriving DecidableEq
def zdY:Rp zaw:=⟨3,true,fun x=>[.int .i64 x.Message,.int .i64 x.Field,.int .i64 x.What],fun _=>rfl,by decide⟩
structure zuA where
  number:Int
  wire:Int deriving DecidableEq
structure zuz where
  field:Int
  run:Bool
  e:Int deriving DecidableEq
structure zuy where
  R:zn
  Field:Int
  Run:Bool deriving DecidableEq
structure zie where
  message:Int
  number:Int
  wire:Int deriving DecidableEq
structure zGL where
  s:(List zd)
  b:(List UInt8)
  met:(List (zie×zjR))
structure zBY where
  depth:Int
  place:Int
  e:Int deriving DecidableEq
structure zFR where
  a0:Int
  a1:Int deriving DecidableEq
structure zg where
  pieces:(List (List UInt8))
  size:Int deriving DecidableEq
def zhd:Rp zg:=⟨2,true,fun x=>[.sl x.pieces.length (Rp.list Rp.byte).size (x.pieces.flatMap (Rp.list Rp.byte).lv),.int .i64 x.size],fun _=>rfl,by decide⟩
noncomputable section
def zcI (n:Int):Option (List UInt8):=if (decide (n<0)) then none else if (decide ((i64.wrap (n - (i64.wrap (0 - 0))))>0)) then (mkO 1 (0:UInt8) (i64.wrap (n - (i64.wrap (0 - 0)))) (i64.wrap (n - (i64.wrap (0 - 0))))>>=fun v=>cut v 0 0>>=fun v2=>some v2) else some []
def zaa (wl:List (List UInt8)) (size:Int) (v:Int):Option ((Int×Int)⊕Int):=if (decide (v<(wl.length:Int))) then (idx wl v>>=fun x=>if (decide ((i64.wrap (size+(x.length:Int)))<0)) then none else some (.inl ((i64.wrap (size+(x.length:Int))),(i64.wrap (v+1))))) else some (.inr size)
def zbd (wl:List (List UInt8)) (size:Int) (v:Int):Option Int:=zQ (fun s:(Int×Int)=>zaa wl s.1 s.2) (size,v)
def zab (wl:List (List UInt8)) (wr:List UInt8) (v2:Int):Option (((List UInt8)×Int)⊕(List UInt8)):=if (decide (v2<(wl.length:Int))) then (idx wl v2>>=fun x2=>app 1 wr x2>>=fun v3=>some (.inl (v3,(i64.wrap (v2+1))))) else some (.inr wr)
def zbe (wl:List (List UInt8)) (wr:List UInt8) (v2:Int):Option (List UInt8):=zQ (fun s:((List UInt8)×Int)=>zab wl s.1 s.2) (wr,v2)
def zak (wl:List (List UInt8)):Option (List UInt8):=zbd wl 0 0>>=fun q=>zcI q>>=fun rv=>zbe wl rv 0>>=fun q2=>some q2
theorem zhJ (h:zaa wl size v=some (.inl (size',v'))):zbd wl size v=zbd wl size' v':=zB (vX:=fun s:(Int×Int)=>zaa wl s.1 s.2) h
theorem zhK (h:zaa wl size v=some (.inr vZ)):zbd wl size v=some vZ:=zA (vX:=fun s:(Int×Int)=>zaa wl s.1 s.2) h
theorem zhL (h:zab wl wr v2=some (.inl (newslice',v2'))):zbe wl wr v2=zbe wl newslice' v2':=zB (vX:=fun s:((List UInt8)×Int)=>zab wl s.1 s.2) h
theorem zhM (h:zab wl wr v2=some (.inr vZ)):zbe wl wr v2=some vZ:=zA (vX:=fun s:((List UInt8)×Int)=>zab wl s.1 s.2) h
def zal (sv:List Int) (v:Int) (v2:Int):Option (Int⊕(Unit⊕Int)):=if (decide (v2<(sv.length:Int))) then (idx sv v2>>=fun x=>if (v==x) then some (.inr (.inr v2)) else some (.inl (i64.wrap (v2+1)))) else some (.inr (.inl ()))
def zbE (sv:List Int) (v:Int) (v2:Int):Option (Unit⊕Int):=zQ (fun s:Int=>zal sv v s) v2
def zdg (sv:List Int) (v:Int):Option Int:=zbE sv v 0>>=fun q=>match q with | .inl u=>(some (-1)) | .inr u2=>(some u2)
theorem ziB (h:zal sv v v2=some (.inl v2')):zbE sv v v2=zbE sv v v2':=zB (vX:=fun s:Int=>zal sv v s) h
theorem zfP (h:zal sv v v2=some (.inr vZ)):zbE sv v v2=some vZ:=zA (vX:=fun s:Int=>zal sv v s) h
def zcb (sv:List Int) (v:Int):Option Bool:=zdg sv v>>=fun rv=>some (decide (rv>=0))
def zad (s1:List Int) (s2:List Int) (v:Int):Option (Int⊕(Unit⊕Unit)):=if (decide (v<(s1.length:Int))) then (idx s1 v>>=fun x=>idx s2 v>>=fun x2=>if (x !=x2) then some (.inr (.inr ())) else some (.inl (i64.wrap (v+1)))) else some (.inr (.inl ()))
def zaE (s1:List Int) (s2:List Int) (v:Int):Option (Unit⊕Unit):=zQ (fun s:Int=>zad s1 s2 s) v
def zed (s1:List Int) (s2:List Int):Option Bool:=if ((s1.length:Int) !=(s2.length:Int)) then some false else (zaE s1 s2 0>>=fun q=>match q with | .inl u=>(some true) | .inr u2=>(some false))
theorem zhb (h:zad s1 s2 v=some (.inl v')):zaE s1 s2 v=zaE s1 s2 v':=zB (vX:=fun s:Int=>zad s1 s2 s) h
theorem zer (h:zad s1 s2 v=some (.inr vZ)):zaE s1 s2 v=some vZ:=zA (vX:=fun s:Int=>zad s1 s2 s) h
def zac (s1:List Str) (s2:List Str) (v:Int):Option (Int⊕(Unit⊕Unit)):=if (decide (v<(s1.length:Int))) then (idx s1 v>>=fun x=>idx s2 v>>=fun x2=>if (!(x==x2)) then some (.inr (.inr ())) else some (.inl (i64.wrap (v+1)))) else some (.inr (.inl ()))
def zaD (s1:List Str) (s2:List Str) (v:Int):Option (Unit⊕Unit):=zQ (fun s:Int=>zac s1 s2 s) v
def zcs (s1:List Str) (s2:List Str):Option Bool:=if ((s1.length:Int) !=(s2.length:Int)) then some false else (zaD s1 s2 0>>=fun q=>match q with | .inl u=>(some true) | .inr u2=>(some false))
theorem zha (h:zac s1 s2 v=some (.inl v')):zaD s1 s2 v=zaD s1 s2 v':=zB (vX:=fun s:Int=>zac s1 s2 s) h
theorem zeq (h:zac s1 s2 v=some (.inr vZ)):zaD s1 s2 v=some vZ:=zA (vX:=fun s:Int=>zac s1 s2 s) h
def zfb (wv2:Int) (n:Int):Option ((Int×Int)⊕Int):=if (wv2 !=0) then some (.inl ((shrI .u64 wv2 7),(i64.wrap (n+1)))) else some (.inr n)
def zhv (wv2:Int) (n:Int):Option Int:=zQ (fun s:(Int×Int)=>zfb s.1 s.2) (wv2,n)
def zlN (wv:Int):Option Int:=zhv (shrI .u64 wv 7) 1>>=fun q=>some q
theorem zsf (h:zfb wv2 n=some (.inl (wv2',n'))):zhv wv2 n=zhv wv2' n':=zB (vX:=fun s:(Int×Int)=>zfb s.1 s.2) h
theorem zsg (h:zfb wv2 n=some (.inr vZ)):zhv wv2 n=some vZ:=zA (vX:=fun s:(Int×Int)=>zfb s.1 s.2) h
def zcF (v:List UInt8) (wv:Int) (b:List UInt8) (v2:Int):Option (((List UInt8)×Int)⊕(List UInt8)):=if (decide (v2<(v.length:Int))) then (shrO .u64 wv (i64.wrap (8*v2))>>=fun v3=>idx b v2>>=fun x=>zgy (u8.wrap v3)>>=fun y2=>some (.inl ((b.set (Int.toNat v2) y2),(i64.wrap (v2+1))))) else some (.inr b)
def zfF (v:List UInt8) (wv:Int) (b:List UInt8) (v2:Int):Option (List UInt8):=zQ (fun s:((List UInt8)×Int)=>zcF v wv s.1 s.2) (b,v2)
def ziK (wv:Int) (n:Int):Option (List UInt8):=mkO 1 (0:UInt8) (if (8:Int)<(if n<0 then 0 else n) then 8 else if n<0 then 0 else n) (if (8:Int)<(if n<0 then 0 else n) then 8 else if n<0 then 0 else n)>>=fun v=>zfF v wv v 0>>=fun q=>some q
theorem zpp {v:List UInt8} {wv:Int} {b:List UInt8} {v2:Int} {b':List UInt8} {v2':Int} (h:zcF v wv b v2=some (.inl (b',v2'))):zfF v wv b v2=zfF v wv b' v2':=zB (vX:=fun s:((List UInt8)×Int)=>zcF v wv s.1 s.2) h
theorem zpq {v:List UInt8} {wv:Int} {b:List UInt8} {v2:Int} {vZ:List UInt8} (h:zcF v wv b v2=some (.inr vZ)):zfF v wv b v2=some vZ:=zA (vX:=fun s:((List UInt8)×Int)=>zcF v wv s.1 s.2) h
def zil (wv:Int):Option Int:=some (u32.wrap wv)
def ziL (wv:Int):Option Int:=zil wv>>=fun rv=>some (i32.wrap rv)
def ziM (n:Int):Option Int:=some (u64.wrap (i64.wrap n))
def zaH (n:Int) (wv2:Int) (out:List UInt8) (i:Int):Option ((Int×(List UInt8)×Int)⊕(List UInt8)):=if ((decide (i<n))&&(decide (i<8))) then (zgy (u8.wrap (Int.tmod wv2 256))>>=fun y=>app 1 out ([y]:List UInt8)>>=fun v2=>some (.inl ((u64.wrap (Int.tdiv wv2 256)),v2,(i64.wrap (i+1))))) else some (.inr out)
def zce (n:Int) (wv2:Int) (out:List UInt8) (i:Int):Option (List UInt8):=zQ (fun s:(Int×(List UInt8)×Int)=>zaH n s.1 s.2.1 s.2.2) (wv2,out,i)
def zdA (wv:Int) (n:Int):Option (List UInt8):=zce n wv [] 0>>=fun q=>some q
theorem zjZ {n:Int} {wv2:Int} {out:List UInt8} {i:Int} {wv2':Int} {out':List UInt8} {i':Int} (h:zaH n wv2 out i=some (.inl (wv2',out',i'))):zce n wv2 out i=zce n wv2' out' i':=zB (vX:=fun s:(Int×(List UInt8)×Int)=>zaH n s.1 s.2.1 s.2.2) h
theorem zka {n:Int} {wv2:Int} {out:List UInt8} {i:Int} {vZ:List UInt8} (h:zaH n wv2 out i=some (.inr vZ)):zce n wv2 out i=some vZ:=zA (vX:=fun s:(Int×(List UInt8)×Int)=>zaH n s.1 s.2.1 s.2.2) h
def zff (av:List UInt8) (b:List UInt8):Option Bool:=some (av==b)
def zen (wv:Int):Option Int:=if (decide ((i64.wrap (Int.tmod wv 4294967296))>=2147483648)) then some (i64.wrap ((i64.wrap (Int.tmod wv 4294967296)) - 4294967296)) else some (i64.wrap (Int.tmod wv 4294967296))
def zfg (n:Int):Option Int:=if (decide (n>=0)) then some (u64.wrap n) else some (u64.wrap (18446744073709551615 - (u64.wrap (i64.wrap (0 - (i64.wrap (n+1)))))))
def zcJ (v:List UInt8) (wv:Int) (v2:Int):Option ((Int×Int)⊕(Unit⊕(Int×Int×Int))):=if (decide (v2<(v.length:Int))) then (idx v v2>>=fun x=>if ((v2==9)&&(decide ((x.toNat:Int)>1))) then some (.inr (.inr (0,0,4))) else shlO .u64 (u64.wrap (andI .u8 (x.toNat:Int) 127)) (i64.wrap (7*v2))>>=fun v4=>if (decide ((x.toNat:Int)<128)) then some (.inr (.inr ((orI .u64 wv v4),(i64.wrap (v2+1)),0))) else some (.inl ((orI .u64 wv v4),(i64.wrap (v2+1))))) else some (.inr (.inl ()))
def zfS (v:List UInt8) (wv:Int) (v2:Int):Option (Unit⊕(Int×Int×Int)):=zQ (fun s:(Int×Int)=>zcJ v s.1 s.2) (wv,v2)
def zfW (b:List UInt8):Option (Int×Int×Int):=cut b 0 (if (10:Int)<(b.length:Int) then 10 else (b.length:Int))>>=fun v=>zfS v 0 0>>=fun q=>match q with | .inl u=>(some (0,0,3)) | .inr u2=>(some (u2.1,u2.2.1,u2.2.2))
theorem zpW (h:zcJ v wv v2=some (.inl (wv',v2'))):zfS v wv v2=zfS v wv' v2':=zB (vX:=fun s:(Int×Int)=>zcJ v s.1 s.2) h
theorem zht (h:zcJ v wv v2=some (.inr vZ)):zfS v wv v2=some vZ:=zA (vX:=fun s:(Int×Int)=>zcJ v s.1 s.2) h
def zdX (wv2:Int) (l:List UInt8):Option ((Int×(List UInt8))⊕(Int×(List UInt8))):=if (decide (wv2>=128)) then (zgy (orI .u8 (u8.wrap wv2) 128)>>=fun y=>app 1 l ([y]:List UInt8)>>=fun v3=>some (.inl ((shrI .u64 wv2 7),v3))) else some (.inr (wv2,l))
def zhk (wv2:Int) (l:List UInt8):Option (Int×(List UInt8)):=zQ (fun s:(Int×(List UInt8))=>zdX s.1 s.2) (wv2,l)
def zhs (b:List UInt8) (wv:Int):Option (List UInt8):=zlN wv>>=fun rv=>mkO 1 (0:UInt8) 0 (i64.wrap ((b.length:Int)+rv))>>=fun v=>app 1 v b>>=fun v2=>zhk wv v2>>=fun q=>zgy (u8.wrap q.1)>>=fun y2=>app 1 q.2 ([y2]:List UInt8)>>=fun v4=>some v4
theorem zqT {wv2:Int} {l:List UInt8} {wv2':Int} {l':List UInt8} (h:zdX wv2 l=some (.inl (wv2',l'))):zhk wv2 l=zhk wv2' l':=zB (vX:=fun s:(Int×(List UInt8))=>zdX s.1 s.2) h
theorem zqU {wv2:Int} {l:List UInt8} {vZ:(Int×(List UInt8))} (h:zdX wv2 l=some (.inr vZ)):zhk wv2 l=some vZ:=zA (vX:=fun s:(Int×(List UInt8))=>zdX s.1 s.2) h
def ziI (b2:List UInt8) (l:List Int):Option (((List UInt8)×(List Int))⊕((List Int)⊕Int)):=if (decide ((b2.length:Int)>0)) then (zfW b2>>=fun rv=>if (rv.2.2 !=0) then some (.inr (.inr rv.2.2)) else app 8 l ([rv.1]:List Int)>>=fun v2=>cut b2 rv.2.1 (b2.length:Int)>>=fun v3=>some (.inl (v3,v2))) else some (.inr (.inl l))
def zpl (b2:List UInt8) (l:List Int):Option ((List Int)⊕Int):=zQ (fun s:((List UInt8)×(List Int))=>ziI s.1 s.2) (b2,l)
theorem zqS (h:ziI b2 l=some (.inr vZ)):zpl b2 l=some vZ:=zA (vX:=fun s:((List UInt8)×(List Int))=>ziI s.1 s.2) h
def zeI (xr:Int->Option (List UInt8)) (wv:Int):Option (List UInt8):=if (decide (wv<128)) then (zgy (u8.wrap wv)>>=fun y=>some ([y]:List UInt8)) else zgy (u8.wrap (u64.wrap (128+(Int.tmod wv 128))))>>=fun y2=>xr (u64.wrap (Int.tdiv wv 128))>>=fun rv=>app 1 ([y2]:List UInt8) rv>>=fun v=>some v
def zcf:Nat->Int->Option (List UInt8) | 0,_=>none | fuel+1,wv=>zeI (zcf fuel) wv
def zaM (wc:Int) (b:List UInt8) (n:Int):Option (Int⊕Int):=(if (decide ((i64.wrap (wc+n))<(b.length:Int))) then (if (decide (n<10)) then (idx b (i64.wrap (wc+n))>>=fun x=>some (decide ((x.toNat:Int)>=128))) else some false) else some false)>>=fun g=>if g then some (.inl (i64.wrap (n+1))) else some (.inr n)
def zcU (wc:Int) (b:List UInt8) (n:Int):Option Int:=zQ (fun s:Int=>zaM wc b s) n
def zbn (wc:Int) (b:List UInt8) (wv:Int) (i:Int):Option ((Int×Int)⊕Int):=if (decide (i>=0)) then (idx b (i64.wrap (wc+i))>>=fun x3=>some (.inl ((u64.wrap ((u64.wrap (128*wv))+(u64.wrap (Int.tmod (x3.toNat:Int) 128)))),(i64.wrap (i - 1))))) else some (.inr wv)
def zcV (wc:Int) (b:List UInt8) (wv:Int) (i:Int):Option Int:=zQ (fun s:(Int×Int)=>zbn wc b s.1 s.2) (wv,i)
def zdo (b:List UInt8) (wc:Int):Option (Int×Int×Int):=zcU wc b 0>>=fun q=>if (q==10) then some (0,0,4) else if ((i64.wrap (wc+q))==(b.length:Int)) then some (0,0,3) else (if (q==9) then (idx b (i64.wrap (wc+q))>>=fun x2=>some (decide ((x2.toNat:Int)>1))) else some false)>>=fun g2=>if g2 then some (0,0,4) else zcV wc b 0 q>>=fun q2=>some (q2,(i64.wrap (q+1)),0)
theorem zlp (h:zaM wc b n=some (.inl n')):zcU wc b n=zcU wc b n':=zB (vX:=fun s:Int=>zaM wc b s) h
theorem zft (h:zaM wc b n=some (.inr vZ)):zcU wc b n=some vZ:=zA (vX:=fun s:Int=>zaM wc b s) h
theorem zlq (h:zbn wc b wv i=some (.inl (wv',i'))):zcV wc b wv i=zcV wc b wv' i':=zB (vX:=fun s:(Int×Int)=>zbn wc b s.1 s.2) h
theorem zlr (h:zbn wc b wv i=some (.inr vZ)):zcV wc b wv i=some vZ:=zA (vX:=fun s:(Int×Int)=>zbn wc b s.1 s.2) h
def zji (b:List UInt8):Option (Int×Int):=zfW b>>=fun rv=>some (rv.2.1,rv.2.2)
def zhi (wire:Int):Option Bool:=if (wire==0) then if (wire==0) then some true else (some false) else if (wire==1) then if (wire==1) then some true else (some false) else if (wire==2) then if (wire==2) then some true else (some false) else if (wire==5) then some true else some false
def zjP (t:zP):Option Bool:=(if (decide (t.Number>=1)) then (if (decide (t.Number<=536870911)) then (zhi t.Wire>>=fun rv=>some rv) else some false) else some false)>>=fun g=>some g
def zop (b:List UInt8):Option (zP×Int×Int):=zfW b>>=fun rv=>if (rv.2.2 !=0) then some ((⟨0,0⟩:zP),0,rv.2.2) else (zjP (⟨(i64.wrap (if (536870912:Int)<(shrI .u64 rv.1 3) then 536870912 else shrI .u64 rv.1 3)),(i64.wrap (andI .u64 rv.1 7))⟩:zP)>>=fun vV=>if (!vV) then some ((⟨0,0⟩:zP),0,5) else (some ((⟨(i64.wrap (if (536870912:Int)<(shrI .u64 rv.1 3) then 536870912 else shrI .u64 rv.1 3)),(i64.wrap (andI .u64 rv.1 7))⟩:zP),rv.2.1,0)))
def zoq (t:zP):Option Int:=some (orI .u64 (shlI .u64 (u64.wrap t.Number) 3) (u64.wrap t.Wire))
def zmP (b:List UInt8) (t:zP):Option ((List UInt8)×Int):=zjP t>>=fun rv=>if (!rv) then some ([],2) else zoq t>>=fun vV=>zhs b vV>>=fun wa=>some (wa,0)
def zeJ (number:Int) (wire:Int):Option Bool:=some ((decide (number>=1))&&((decide (number<=536870911))&&((wire==0)|| ((wire==1)|| ((wire==2)|| (wire==5))))))
def zfI (fuel:Nat) (number:Int) (wire:Int):Option (List UInt8):=zcf fuel (u64.wrap (i64.wrap ((i64.wrap (8*number))+wire)))>>=fun rv=>some rv
def zfh (b:List UInt8) (wc:Int):Option (Int×Int×Int×Int):=zdo b wc>>=fun rv=>if (rv.2.2 !=0) then some (0,0,0,rv.2.2) else (if (decide (rv.1>4294967295)) then some true else zeJ (i64.wrap (u64.wrap (Int.tdiv rv.1 8))) (i64.wrap (Int.tmod rv.1 8))>>=fun vV=>some (!vV))>>=fun g=>if g then some (0,0,0,5) else some ((i64.wrap (u64.wrap (Int.tdiv rv.1 8))),(i64.wrap (Int.tmod rv.1 8)),rv.2.1,0)
def zqR (c:Int):Option (Int×Int):=if ((shrI .u8 c 7)==0) then some (1,(u32.wrap c)) else if ((shrI .u8 c 5)==6) then some (2,(u32.wrap (andI .u8 c 31))) else if ((shrI .u8 c 4)==14) then some (3,(u32.wrap (andI .u8 c 15))) else if ((shrI .u8 c 3)==30) then some (4,(u32.wrap (andI .u8 c 7))) else some (0,0)
def zmq (wv:Int):Option Int:=if ((shrI .u32 wv 7)==0) then some 1 else if ((shrI .u32 wv 11)==0) then some 2 else if ((shrI .u32 wv 11)==27) then some 0 else if ((shrI .u32 wv 16)==0) then some 3 else if (decide (wv<=1114111)) then some 4 else some 0
def zey (v2:List UInt8) (wv:Int) (v3:Int):Option ((Int×Int)⊕(Int⊕Unit)):=if (decide (v3<(v2.length:Int))) then (idx v2 v3>>=fun x2=>if ((shrI .u8 (x2.toNat:Int) 6) !=2) then some (.inr (.inr ())) else some (.inl ((orI .u32 (shlI .u32 wv 6) (u32.wrap (andI .u8 (x2.toNat:Int) 63))),(i64.wrap (v3+1))))) else some (.inr (.inl wv))
def zct (v2:List UInt8) (wv:Int) (v3:Int):Option (Int⊕Unit):=zQ (fun s:(Int×Int)=>zey v2 s.1 s.2) (wv,v3)
def zmp (b:List UInt8):Option Int:=if ((b.length:Int)==0) then some 0 else (idx b 0>>=fun x=>zqR (x.toNat:Int)>>=fun rv=>if ((rv.1==0)|| (decide (rv.1>(b.length:Int)))) then some 0 else (cut b 1 rv.1>>=fun v2=>zct v2 rv.2 0>>=fun q=>match q with | .inl u=>(zmq u>>=fun vV=>if (rv.1 !=vV) then some 0 else some rv.1) | .inr u2=>(some 0)))
theorem zsl (h:zey v2 wv v3=some (.inl (wv',v3'))):zct v2 wv v3=zct v2 wv' v3':=zB (vX:=fun s:(Int×Int)=>zey v2 s.1 s.2) h
theorem zmZ (h:zey v2 wv v3=some (.inr vZ)):zct v2 wv v3=some vZ:=zA (vX:=fun s:(Int×Int)=>zey v2 s.1 s.2) h
def zfr (b:List UInt8) (wc:Int) (points:Int) (size:Int):Option ((Int×Int×Int)⊕(Int×Int)):=if (decide (size>0)) then (cut b (i64.wrap (wc+size)) (b.length:Int)>>=fun v=>zmp v>>=fun vV=>some (.inl ((i64.wrap (wc+size)),(i64.wrap (points+1)),vV))) else some (.inr (wc,points))
def zgH (b:List UInt8) (wc:Int) (points:Int) (size:Int):Option (Int×Int):=zQ (fun s:(Int×Int×Int)=>zfr b s.1 s.2.1 s.2.2) (wc,points,size)
def zox (b:List UInt8):Option (Int×Int):=zmp b>>=fun rv=>zgH b 0 0 rv>>=fun q=>some (q.1,q.2)
theorem zsm (h:zfr b wc points size=some (.inl (atv',points',size'))):zgH b wc points size=zgH b atv' points' size':=zB (vX:=fun s:(Int×Int×Int)=>zfr b s.1 s.2.1 s.2.2) h
theorem zsn (h:zfr b wc points size=some (.inr vZ)):zgH b wc points size=some vZ:=zA (vX:=fun s:(Int×Int×Int)=>zfr b s.1 s.2.1 s.2.2) h
def zmn (b:List UInt8):Option Int:=zox b>>=fun rv=>some rv.1
def zmo (b:List UInt8):Option Bool:=zmn b>>=fun rv=>some (rv==(b.length:Int))
def zfJ (rv:Int):Option (List UInt8):=if ((decide (rv<0))|| ((decide (rv>1114111))|| ((decide (rv>=55296))&&(decide (rv<=57343))))) then some [] else if (decide (rv<128)) then (zgy (u8.wrap rv)>>=fun y=>some ([y]:List UInt8)) else if (decide (rv<2048)) then (zgy (u8.wrap (i64.wrap (192+(i64.wrap (Int.tdiv rv 64)))))>>=fun y2=>zgy (u8.wrap (i64.wrap (128+(Int.tmod rv 64))))>>=fun y3=>some ([y2,y3]:List UInt8)) else if (decide (rv<65536)) then (zgy (u8.wrap (i64.wrap (224+(i64.wrap (Int.tdiv rv 4096)))))>>=fun y4=>zgy (u8.wrap (i64.wrap (128+(Int.tmod (i64.wrap (Int.tdiv rv 64)) 64))))>>=fun y5=>zgy (u8.wrap (i64.wrap (128+(Int.tmod rv 64))))>>=fun y6=>some ([y4,y5,y6]:List UInt8)) else zgy (u8.wrap (i64.wrap (240+(i64.wrap (Int.tdiv rv 262144)))))>>=fun y7=>zgy (u8.wrap (i64.wrap (128+(Int.tmod (i64.wrap (Int.tdiv rv 4096)) 64))))>>=fun y8=>zgy (u8.wrap (i64.wrap (128+(Int.tmod (i64.wrap (Int.tdiv rv 64)) 64))))>>=fun y9=>zgy (u8.wrap (i64.wrap (128+(Int.tmod rv 64))))>>=fun y10=>some ([y7,y8,y9,y10]:List UInt8)
def zbo (wc:Int) (b:List UInt8) (n:Int) (vV:Int) (i:Int):Option ((Int×Int)⊕Int):=if (decide (i<n)) then (idx b (i64.wrap (wc+i))>>=fun x3=>some (.inl ((i64.wrap ((i64.wrap (64*vV))+(Int.tmod (i64.wrap (x3.toNat:Int)) 64))),(i64.wrap (i+1))))) else some (.inr vV)
def zbp (wc:Int) (b:List UInt8) (n:Int) (vV:Int) (i:Int):Option Int:=zQ (fun s:(Int×Int)=>zbo wc b n s.1 s.2) (vV,i)
def zbH (wc:Int) (b:List UInt8) (n:Int):Option (Int⊕(Unit⊕Int)):=if ((decide (n<=4))&&(decide ((i64.wrap (wc+n))<=(b.length:Int)))) then (idx b wc>>=fun x=>((if (decide (n>1)) then (idx ([0,0,32,16,8]:List Int) n>>=fun x2=>remI (i64.wrap (x.toNat:Int)) x2>>=fun v3=>some v3) else (some (i64.wrap (x.toNat:Int))) :Option Int))>>=fun p=>zbp wc b n p 1>>=fun q=>zfJ q>>=fun rv4=>cut b wc (i64.wrap (wc+n))>>=fun v4=>if (rv4==v4) then some (.inr (.inr n)) else some (.inl (i64.wrap (n+1)))) else some (.inr (.inl ()))
def zcW (wc:Int) (b:List UInt8) (n:Int):Option (Unit⊕Int):=zQ (fun s:Int=>zbH wc b s) n
def zfi (b:List UInt8) (wc:Int):Option Int:=zcW wc b 1>>=fun q2=>match q2 with | .inl u=>(some 0) | .inr u2=>(some u2)
theorem zlt (h:zbo wc b n vV i=some (.inl (rv2',i'))):zbp wc b n vV i=zbp wc b n rv2' i':=zB (vX:=fun s:(Int×Int)=>zbo wc b n s.1 s.2) h
theorem zlu (h:zbo wc b n vV i=some (.inr vZ)):zbp wc b n vV i=some vZ:=zA (vX:=fun s:(Int×Int)=>zbo wc b n s.1 s.2) h
theorem zls (h:zbH wc b n=some (.inl n')):zcW wc b n=zcW wc b n':=zB (vX:=fun s:Int=>zbH wc b s) h
theorem zfu (h:zbH wc b n=some (.inr vZ)):zcW wc b n=some vZ:=zA (vX:=fun s:Int=>zbH wc b s) h
def zaT (b:List UInt8) (wd:Int) (wc:Int) (count:Int):Option ((Int×Int)⊕(Int×Int)):=zfi b wc>>=fun rv=>if ((rv==0)|| (decide ((i64.wrap (wc+rv))>wd))) then some (.inr (wc,count)) else some (.inl ((i64.wrap (wc+rv)),(i64.wrap (count+1))))
def zbR (b:List UInt8) (wd:Int) (wc:Int) (count:Int):Option (Int×Int):=zQ (fun s:(Int×Int)=>zaT b wd s.1 s.2) (wc,count)
def zeK (b:List UInt8) (wd:Int):Option (Int×Int):=zbR b wd 0 0>>=fun q=>some (q.1,q.2)
theorem zkI (h:zaT b wd wc count=some (.inl (atv',count'))):zbR b wd wc count=zbR b wd atv' count':=zB (vX:=fun s:(Int×Int)=>zaT b wd s.1 s.2) h
theorem zkJ (h:zaT b wd wc count=some (.inr vZ)):zbR b wd wc count=some vZ:=zA (vX:=fun s:(Int×Int)=>zaT b wd s.1 s.2) h
def zeL (b:List UInt8):Option Bool:=zeK b (b.length:Int)>>=fun rv=>some (rv.1==(b.length:Int))
def zhC (wire:Int) (b:List UInt8):Option (Int×Int×Int):=if (wire==0) then (zji b>>=fun rv=>some (0,rv.1,rv.2)) else (((if (wire==1) then some (0,0,8) else (if (wire==5) then some (0,0,4) else if (wire==2) then (zfW b>>=fun vV=>some (vV.2.1,vV.2.2,vV.1)) else some (0,0,0)) :Option (Int×Int×Int)))>>=fun p=>if (p.2.1 !=0) then some (0,0,p.2.1) else if (decide (p.2.2>(u64.wrap (i64.wrap ((b.length:Int) - p.1))))) then some (0,0,3) else some (p.1,(i64.wrap (p.1+(i64.wrap p.2.2))),0))
def zja (b:List UInt8) (fromv:Int):Option (zn×Int):=if ((decide (fromv<0))|| (decide (fromv>=(b.length:Int)))) then some ((⟨0,0,0,0,0⟩:zn),2) else (cut b fromv (b.length:Int)>>=fun v2=>zop v2>>=fun rv=>if (rv.2.2 !=0) then some ((⟨0,0,0,0,0⟩:zn),rv.2.2) else (cut b (i64.wrap (fromv+rv.2.1)) (b.length:Int)>>=fun v3=>zhC rv.1.Wire v3>>=fun vV=>if (vV.2.2 !=0) then some ((⟨0,0,0,0,0⟩:zn),vV.2.2) else (some ((⟨rv.1.Number,rv.1.Wire,fromv,(i64.wrap ((i64.wrap (fromv+rv.2.1))+vV.1)),(i64.wrap ((i64.wrap (fromv+rv.2.1))+vV.2.1))⟩:zn),0))))
def zjb (wire:Int) (value:List UInt8):Option Bool:=if (wire==2) then some true else zhC wire value>>=fun rv=>some ((rv.2.2==0)&&(rv.2.1==(value.length:Int)))
def ziw (b:List UInt8) (number:Int) (wire:Int) (value:List UInt8):Option ((List UInt8)×Int):=zmP ([]:List UInt8) (⟨number,wire⟩:zP)>>=fun rv=>(if (rv.2 !=0) then some true else zjb wire value>>=fun vV=>some (!vV))>>=fun g=>if g then some ([],2) else if (wire==2) then (zhs rv.1 (u64.wrap (value.length:Int))>>=fun wa=>zak ([b,wa,value]:List (List UInt8))>>=fun rv4=>some (rv4,0)) else zak ([b,rv.1,value]:List (List UInt8))>>=fun rv5=>some (rv5,0)
def zku (b:List UInt8) (number:Int) (value:List UInt8):Option (List UInt8):=ziw b number 2 value>>=fun rv=>if (rv.2 !=0) then (zak ([b]:List (List UInt8))>>=fun vV=>some vV) else some rv.1
def zcX (fuel:Nat) (number:Int) (wire:Int) (value:List UInt8):Option (List UInt8):=zfI fuel number wire>>=fun rv=>if (wire==2) then (zcf fuel (u64.wrap (value.length:Int))>>=fun vV=>app 1 rv vV>>=fun v=>app 1 v value>>=fun v2=>some v2) else app 1 rv value>>=fun v3=>some v3
def zfj (b:List UInt8) (fromv:Int):Option (zn×Int):=if ((decide (fromv<0))|| (decide (fromv>=(b.length:Int)))) then some ((⟨0,0,0,0,0⟩:zn),2) else (zfh b fromv>>=fun rv=>if (rv.2.2.2 !=0) then some ((⟨0,0,0,0,0⟩:zn),rv.2.2.2) else (((if (rv.2.1==5) then some 4 else (some 8) :Option Int))>>=fun p=>((if (rv.2.1==0) then (zdo b (i64.wrap (fromv+rv.2.2.1))>>=fun vV=>if (vV.2.2 !=0) then some (.inr vV.2.2) else some (.inl vV.2.1)) else (some (.inl p)) :Option (Int⊕Int)))>>=fun p2=>match p2 with | .inl u=>(((if (rv.2.1==2) then (zdo b (i64.wrap (fromv+rv.2.2.1))>>=fun wa=>if (wa.2.2 !=0) then some (.inr wa.2.2) else if (decide (wa.1>(u64.wrap (i64.wrap ((i64.wrap ((b.length:Int) - (i64.wrap (fromv+rv.2.2.1)))) - wa.2.1))))) then some (.inr 3) else some (.inl ((i64.wrap ((i64.wrap ((b.length:Int) - (i64.wrap (fromv+rv.2.2.1)))) - wa.2.1)),(i64.wrap wa.1),(i64.wrap ((i64.wrap (fromv+rv.2.2.1))+wa.2.1))))) else (some (.inl ((i64.wrap ((b.length:Int) - (i64.wrap (fromv+rv.2.2.1)))),u,(i64.wrap (fromv+rv.2.2.1))))) :Option ((Int×Int×Int)⊕Int)))>>=fun p3=>match p3 with | .inl u2=>(if (decide (u2.2.1>u2.1)) then some ((⟨0,0,0,0,0⟩:zn),3) else some ((⟨rv.1,rv.2.1,fromv,u2.2.2,(i64.wrap (u2.2.2+u2.2.1))⟩:zn),0)) | .inr u3=>(some ((⟨0,0,0,0,0⟩:zn),u3))) | .inr u4=>(some ((⟨0,0,0,0,0⟩:zn),u4))))
def zmE (wv:Int):Option Int:=some (if (1:Int)<wv then 1 else wv)
def zho (k:Int) (wv:Int):Option (Int×Int):=((if (k==1) then some (k==1) else (some (k==8)) :Option Bool))>>=fun p=>if p then (ziL wv>>=fun rv=>ziM rv>>=fun vV=>some (vV,0)) else ((if (k==3) then some (k==3) else (if (k==5) then some (k==5) else if (k==9) then some (k==9) else if (k==10) then some (k==10) else some (k==11)) :Option Bool))>>=fun p2=>if p2 then (zil wv>>=fun wa=>some ((u64.wrap wa),0)) else if (k==7) then (zmE wv>>=fun rv4=>some (rv4,0)) else ((if (k==2) then some (k==2) else (if (k==4) then some (k==4) else if (k==6) then some (k==6) else if (k==12) then some (k==12) else if (k==13) then some (k==13) else some (k==14)) :Option Bool))>>=fun p3=>if p3 then some (wv,0) else some (0,2)
def zkp:Option (List (Int×zo)):=some (mput (mput (mput (mput (mput (mput (mput (mput (mput (mput (mput (mput (mput (mput (mput (mput (mput ([]:List (Int×zo)) 1 (⟨[105,110,116,51,50],0⟩:zo)) 2 (⟨[105,110,116,54,52],0⟩:zo)) 3 (⟨[117,105,110,116,51,50],0⟩:zo)) 4 (⟨[117,105,110,116,54,52],0⟩:zo)) 5 (⟨[115,105,110,116,51,50],0⟩:zo)) 6 (⟨[115,105,110,116,54,52],0⟩:zo)) 7 (⟨[98,111,111,108],0⟩:zo)) 8 (⟨[101,110,117,109],0⟩:zo)) 9 (⟨[102,105,120,101,100,51,50],5⟩:zo)) 10 (⟨[115,102,105,120,101,100,51,50],5⟩:zo)) 11 (⟨[102,108,111,97,116],5⟩:zo)) 12 (⟨[102,105,120,101,100,54,52],1⟩:zo)) 13 (⟨[115,102,105,120,101,100,54,52],1⟩:zo)) 14 (⟨[100,111,117,98,108,101],1⟩:zo)) 15 (⟨[115,116,114,105,110,103],2⟩:zo)) 16 (⟨[98,121,116,101,115],2⟩:zo)) 17 (⟨[109,101,115,115,97,103,101],2⟩:zo))
def znP:Option (List Int):=zkp>>=fun rv=>zxW rv>>=fun v=>some v
def zmb (k:Int):Option (Int×Int):=zkp>>=fun rv=>if (!(mget rv k).isSome) then some (0,2) else some (((mget rv k).getD (⟨[],0⟩:zo)).wire,0)
def zbM (k:Int):Option Bool:=some ((decide (k>=1))&&(decide (k<=17)))
def ziX (k:Int):Option Bool:=zmb k>>=fun rv=>some ((rv.2==0)&&(rv.1 !=2))
def zfk (k:Int):Option Int:=if (decide (k>=15)) then some 2 else if (decide (k>=12)) then some 1 else if (decide (k>=9)) then some 5 else some 0
def zbA (k:Int):Option Bool:=some ((decide (k>=1))&&(decide (k<=14)))
def zdS (k:Int) (wv:Int):Option Int:=((if (k==1) then some (k==1) else (some (k==8)) :Option Bool))>>=fun p=>if p then (zen wv>>=fun rv=>zfg rv>>=fun vV=>some vV) else ((if (k==3) then some (k==3) else (if (k==5) then some (k==5) else if (k==9) then some (k==9) else if (k==10) then some (k==10) else some (k==11)) :Option Bool))>>=fun p2=>if p2 then some (Int.tmod wv 4294967296) else if (k==7) then if (decide (wv>0)) then some 1 else (some 0) else some wv
def zfO (c:Int):Option Bool:=some ((decide (c>=48))&&(decide (c<=57)))
def zgi (c:Int):Option Bool:=some (if (decide (c>=97)) then (decide (c<=122))|| (if (decide (c>=65)) then (decide (c<=90))|| (c==95) else c==95) else (if (decide (c>=65)) then (decide (c<=90))|| (c==95) else c==95))
def zci (name:Str) (v2:Int):Option (Int⊕(Unit⊕Unit)):=if (decide (v2<(name.length:Int))) then ((idx name v2>>=fun c2=>zgi (c2.toNat:Int)>>=fun vV=>if (!vV) then (idx name v2>>=fun c3=>zfO (c3.toNat:Int)>>=fun wa=>some (!wa)) else some false)>>=fun g2=>if g2 then some (.inr (.inr ())) else some (.inl (i64.wrap (v2+1)))) else some (.inr (.inl ()))
def zeC (name:Str) (v2:Int):Option (Unit⊕Unit):=zQ (fun s:Int=>zci name s) v2
def zgm (name:Str):Option Bool:=(if (name==[]) then some true else if (decide ((name.length:Int)>60)) then some true else idx name 0>>=fun c=>zfO (c.toNat:Int)>>=fun rv=>some rv)>>=fun g=>if g then some false else (zeC name 0>>=fun q=>match q with | .inl u=>(some true) | .inr u2=>(some false))
theorem zom (h:zci name v2=some (.inl v2')):zeC name v2=zeC name v2':=zB (vX:=fun s:Int=>zci name s) h
theorem zjc (h:zci name v2=some (.inr vZ)):zeC name v2=some vZ:=zA (vX:=fun s:Int=>zci name s) h
def zgj (n:Int):Option Bool:=some ((decide (n>=1))&&((decide (n<=536870911))&&((decide (n<19000))|| (decide (n>19999)))))
def zgE (f:zb):Option Bool:=(if f.Repeated then (ziX f.Kind>>=fun rv=>some rv) else some false)>>=fun g=>some g
def zeR (c:zax) (f:zb):Option Bool:=if (f.Kind==17) then some ((decide (f.Of>=0))&&(decide (f.Of<c.size))) else some (f.Of==0)
def zeQ (c:zax) (message:Int) (f:zb):Option (Int×(List (zp×Bool))×(List (zr×Bool))):=zgm f.Name>>=fun rv=>if (!rv) then some (5,c.names,c.numbers) else if ((mget c.names (⟨message,f.Name⟩:zp)).getD false) then some (6,c.names,c.numbers) else zgj f.Number>>=fun vV=>if (!vV) then some (7,c.names,c.numbers) else if ((mget c.numbers (⟨message,f.Number⟩:zr)).getD false) then some (8,c.names,c.numbers) else zcb c.kinds f.Kind>>=fun wa=>if (!wa) then some (9,c.names,c.numbers) else (if f.Packed then (zgE f>>=fun rv4=>some (!rv4)) else some false)>>=fun g=>if g then some (10,c.names,c.numbers) else zeR c f>>=fun rv5=>if (!rv5) then some (11,c.names,c.numbers) else some (0,(mput c.names (⟨message,f.Name⟩:zp) true),(mput c.numbers (⟨message,f.Number⟩:zr) true))
def zec (c:zax) (m:zd):Option (Int×(List (zp×Bool))×(List (zr×Bool))):=zgm m.Name>>=fun rv=>if (!rv) then some (2,c.names,c.numbers) else if ((mget c.names (⟨(-1),m.Name⟩:zp)).getD false) then some (3,c.names,c.numbers) else if (decide ((m.Fields.length:Int)>200)) then some (4,c.names,c.numbers) else some (0,(mput c.names (⟨(-1),m.Name⟩:zp) true),c.numbers)
def zbz (i:Int) (sv:List zd) (n3:Int) (k:Int):Option ((Int×Int)⊕Int):=idx sv i>>=fun x3=>if (decide (k<(x3.Fields.length:Int))) then (idx sv i>>=fun x4=>idx x4.Fields k>>=fun x5=>some (.inl ((i64.wrap (n3+(i64.wrap (Int.tdiv (x5.Name.length:Int) 100)))),(i64.wrap (k+1))))) else some (.inr n3)
def zdz (i:Int) (sv:List zd) (n3:Int) (k:Int):Option Int:=zQ (fun s:(Int×Int)=>zbz i sv s.1 s.2) (n3,k)
def zby (sv:List zd) (n:Int) (i:Int):Option ((Int×Int)⊕Int):=if (decide (i<(sv.length:Int))) then (idx sv i>>=fun x=>idx sv i>>=fun x2=>zdz i sv (i64.wrap ((i64.wrap ((i64.wrap (n+1))+(i64.wrap (Int.tdiv (x.Name.length:Int) 100))))+(x2.Fields.length:Int))) 0>>=fun q=>some (.inl (q,(i64.wrap (i+1))))) else (some (.inr n))
def zdy (sv:List zd) (n:Int) (i:Int):Option Int:=zQ (fun s:(Int×Int)=>zby sv s.1 s.2) (n,i)
def zfH (sv:List zd):Option Bool:=zdy sv 0 0>>=fun q2=>some (decide (q2<=500))
theorem zlQ (h:zbz i sv n3 k=some (.inl (n3',k'))):zdz i sv n3 k=zdz i sv n3' k':=zB (vX:=fun s:(Int×Int)=>zbz i sv s.1 s.2) h
theorem zlR (h:zbz i sv n3 k=some (.inr vZ)):zdz i sv n3 k=some vZ:=zA (vX:=fun s:(Int×Int)=>zbz i sv s.1 s.2) h
theorem zlO (h:zby sv n i=some (.inl (n',i'))):zdy sv n i=zdy sv n' i':=zB (vX:=fun s:(Int×Int)=>zby sv s.1 s.2) h
theorem zlP (h:zby sv n i=some (.inr vZ)):zdy sv n i=some vZ:=zA (vX:=fun s:(Int×Int)=>zby sv s.1 s.2) h
def zbO (rv:List Int) (sv:List zd) (v2:Int) (x:zd) (v3:Int) (f6:List (zp×Bool)) (f7:List (zr×Bool)):Option ((Int×(List (zp×Bool))×(List (zr×Bool)))⊕(((List (zp×Bool))×(List (zr×Bool)))⊕(Int×Int))):=if (decide (v3<(x.Fields.length:Int))) then (idx x.Fields v3>>=fun x2=>zeQ (⟨(sv.length:Int),rv,f6,f7⟩:zax) v2 x2>>=fun rv5=>if (rv5.1 !=0) then some (.inr (.inr (v3,rv5.1))) else some (.inl ((i64.wrap (v3+1)),rv5.2.1,rv5.2.2))) else some (.inr (.inl (f6,f7)))
def zdI (rv:List Int) (sv:List zd) (v2:Int) (x:zd) (v3:Int) (f6:List (zp×Bool)) (f7:List (zr×Bool)):Option (((List (zp×Bool))×(List (zr×Bool)))⊕(Int×Int)):=zQ (fun s:(Int×(List (zp×Bool))×(List (zr×Bool)))=>zbO rv sv v2 x s.1 s.2.1 s.2.2) (v3,f6,f7)
def zaO (rv:List Int) (sv:List zd) (v2:Int) (f:List (zp×Bool)) (f2:List (zr×Bool)):Option ((Int×(List (zp×Bool))×(List (zr×Bool)))⊕(Unit⊕(Int×Int×Int))):=if (decide (v2<(sv.length:Int))) then (idx sv v2>>=fun x=>zec (⟨(sv.length:Int),rv,f,f2⟩:zax) x>>=fun wa=>if (wa.1 !=0) then some (.inr (.inr (v2,(-1),wa.1))) else (zdI rv sv v2 x 0 wa.2.1 wa.2.2>>=fun q=>match q with | .inl u=>(some (.inl ((i64.wrap (v2+1)),u.1,u.2))) | .inr u2=>(some (.inr (.inr (v2,u2.1,u2.2)))))) else some (.inr (.inl ()))
def zfa (rv:List Int) (sv:List zd) (v2:Int) (f:List (zp×Bool)) (f2:List (zr×Bool)):Option (Unit⊕(Int×Int×Int)):=zQ (fun s:(Int×(List (zp×Bool))×(List (zr×Bool)))=>zaO rv sv s.1 s.2.1 s.2.2) (v2,f,f2)
def zhZ (sv:List zd):Option (zaw×Int):=if ((decide ((sv.length:Int)<1))|| (decide ((sv.length:Int)>100))) then some ((⟨(-1),(-1),1⟩:zaw),9) else (znP>>=fun rv=>zfa rv sv 0 ([]:List (zp×Bool)) ([]:List (zr×Bool))>>=fun q2=>match q2 with | .inl u3=>(some ((⟨0,0,0⟩:zaw),0)) | .inr u4=>(some ((⟨u4.1,u4.2.1,u4.2.2⟩:zaw),9)))
theorem zpc {f6:List (zp×Bool)} {f7:List (zr×Bool)} (h:zbO rv sv v2 x v3 f6 f7=some (.inl (v3',f6',f7'))):zdI rv sv v2 x v3 f6 f7=zdI rv sv v2 x v3' f6' f7':=zB (vX:=fun s:(Int×(List (zp×Bool))×(List (zr×Bool)))=>zbO rv sv v2 x s.1 s.2.1 s.2.2) h
theorem zju {f6:List (zp×Bool)} {f7:List (zr×Bool)} (h:zbO rv sv v2 x v3 f6 f7=some (.inr vZ)):zdI rv sv v2 x v3 f6 f7=some vZ:=zA (vX:=fun s:(Int×(List (zp×Bool))×(List (zr×Bool)))=>zbO rv sv v2 x s.1 s.2.1 s.2.2) h
theorem zpb {f2:List (zr×Bool)} (h:zaO rv sv v2 f f2=some (.inl (v2',f',f2'))):zfa rv sv v2 f f2=zfa rv sv v2' f' f2':=zB (vX:=fun s:(Int×(List (zp×Bool))×(List (zr×Bool)))=>zaO rv sv s.1 s.2.1 s.2.2) h
theorem zep {f2:List (zr×Bool)} (h:zaO rv sv v2 f f2=some (.inr vZ)):zfa rv sv v2 f f2=some vZ:=zA (vX:=fun s:(Int×(List (zp×Bool))×(List (zr×Bool)))=>zaO rv sv s.1 s.2.1 s.2.2) h
def zgM (sv:List zd):Option Bool:=zhZ sv>>=fun rv=>some (rv.2==0)
def zbq (sv:Str) (i:Int):Option (Int⊕(Unit⊕Unit)):=if (decide (i<(sv.length:Int))) then (idx sv i>>=fun c=>if (!(if (decide ((c.toNat:Int)>=65)) then (decide ((c.toNat:Int)<=90))|| (if (decide ((c.toNat:Int)>=97)) then (decide ((c.toNat:Int)<=122))|| (((c.toNat:Int)==95)|| ((decide (i>0))&&((decide ((c.toNat:Int)>=48))&&(decide ((c.toNat:Int)<=57))))) else (((c.toNat:Int)==95)|| ((decide (i>0))&&((decide ((c.toNat:Int)>=48))&&(decide ((c.toNat:Int)<=57)))))) else (if (decide ((c.toNat:Int)>=97)) then (decide ((c.toNat:Int)<=122))|| (((c.toNat:Int)==95)|| ((decide (i>0))&&((decide ((c.toNat:Int)>=48))&&(decide ((c.toNat:Int)<=57))))) else (((c.toNat:Int)==95)|| ((decide (i>0))&&((decide ((c.toNat:Int)>=48))&&(decide ((c.toNat:Int)<=57)))))))) then some (.inr (.inr ())) else some (.inl (i64.wrap (i+1)))) else some (.inr (.inl ()))
def zcY (sv:Str) (i:Int):Option (Unit⊕Unit):=zQ (fun s:Int=>zbq sv s) i
def zeg (sv:Str):Option Bool:=zcY sv 0>>=fun q=>match q with | .inl u=>(some ((decide ((sv.length:Int)>=1))&&(decide ((sv.length:Int)<=60)))) | .inr u2=>(some false)
theorem zlv (h:zbq sv i=some (.inl i')):zcY sv i=zcY sv i':=zB (vX:=fun s:Int=>zbq sv s) h
theorem zhf (h:zbq sv i=some (.inr vZ)):zcY sv i=some vZ:=zA (vX:=fun s:Int=>zbq sv s) h
def zaX (i:Int) (k:Int) (sv:List zd) (x2:zb) (name:Bool) (number:Bool) (j:Int):Option ((Bool×Bool×Int)⊕(Bool×Bool)):=if (decide (j<k)) then ((if name then some true else idx sv i>>=fun x3=>idx x3.Fields j>>=fun x4=>some (x4.Name==x2.Name))>>=fun g=>(if number then some true else idx sv i>>=fun x5=>idx x5.Fields j>>=fun x6=>some (x6.Number==x2.Number))>>=fun g2=>some (.inl (g,g2,(i64.wrap (j+1))))) else some (.inr (name,number))
def zcz (i:Int) (k:Int) (sv:List zd) (x2:zb) (name:Bool) (number:Bool) (j:Int):Option (Bool×Bool):=zQ (fun s:(Bool×Bool×Int)=>zaX i k sv x2 s.1 s.2.1 s.2.2) (name,number,j)
def zeN (sv:List zd) (i:Int) (k:Int):Option Int:=idx sv i>>=fun x=>idx x.Fields k>>=fun x2=>zcz i k sv x2 false false 0>>=fun q=>zeg x2.Name>>=fun rv=>if (!rv) then some 5 else (if q.1 then some 6 else (if ((decide (x2.Number<1))|| ((decide (x2.Number>536870911))|| ((decide (x2.Number>=19000))&&(decide (x2.Number<20000))))) then some 7 else (if q.2 then some 8 else (zbM x2.Kind>>=fun vV=>if (!vV) then some 9 else ((if x2.Packed then (if x2.Repeated then (zbA x2.Kind>>=fun wa=>some (!wa)) else some (!false)) else some false)>>=fun g3=>if g3 then some 10 else (if (if (x2.Kind==17) then (decide (x2.Of<0))|| ((decide (x2.Of>=(sv.length:Int)))|| ((x2.Kind !=17)&&(x2.Of !=0))) else (x2.Kind !=17)&&(x2.Of !=0)) then some 11 else some 0))))))
theorem zkO (h:zaX i k sv x2 name number j=some (.inl (name',number',j'))):zcz i k sv x2 name number j=zcz i k sv x2 name' number' j':=zB (vX:=fun s:(Bool×Bool×Int)=>zaX i k sv x2 s.1 s.2.1 s.2.2) h
theorem zkP (h:zaX i k sv x2 name number j=some (.inr vZ)):zcz i k sv x2 name number j=some vZ:=zA (vX:=fun s:(Bool×Bool×Int)=>zaX i k sv x2 s.1 s.2.1 s.2.2) h
def zaV (i:Int) (sv:List zd) (twice:Bool) (k:Int):Option ((Bool×Int)⊕Bool):=if (decide (k<i)) then ((if twice then some true else idx sv k>>=fun x=>idx sv i>>=fun x2=>some (x.Name==x2.Name))>>=fun g=>some (.inl (g,(i64.wrap (k+1))))) else some (.inr twice)
def zcx (i:Int) (sv:List zd) (twice:Bool) (k:Int):Option Bool:=zQ (fun s:(Bool×Int)=>zaV i sv s.1 s.2) (twice,k)
def zaW (i:Int) (sv:List zd) (k2:Int):Option (Int⊕(Unit⊕(Int×Int))):=idx sv i>>=fun x5=>if (decide (k2<(x5.Fields.length:Int))) then (zeN sv i k2>>=fun vV=>if (decide (vV>0)) then some (.inr (.inr (k2,vV))) else some (.inl (i64.wrap (k2+1)))) else some (.inr (.inl ()))
def zcy (i:Int) (sv:List zd) (k2:Int):Option (Unit⊕(Int×Int)):=zQ (fun s:Int=>zaW i sv s) k2
def zaU (sv:List zd) (i:Int):Option (Int⊕(Unit⊕(Int×Int×Int))):=if (decide (i<(sv.length:Int))) then (zcx i sv false 0>>=fun q=>idx sv i>>=fun x3=>zeg x3.Name>>=fun rv=>if (!rv) then some (.inr (.inr (i,(-1),2))) else (if q then some (.inr (.inr (i,(-1),3))) else (idx sv i>>=fun x4=>if (decide ((x4.Fields.length:Int)>200)) then some (.inr (.inr (i,(-1),4))) else (zcy i sv 0>>=fun q2=>match q2 with | .inl u=>(some (.inl (i64.wrap (i+1)))) | .inr u2=>(some (.inr (.inr (i,u2.1,u2.2)))))))) else some (.inr (.inl ()))
def zcw (sv:List zd) (i:Int):Option (Unit⊕(Int×Int×Int)):=zQ (fun s:Int=>zaU sv s) i
def zeM (sv:List zd):Option (Int×Int×Int):=if (((sv.length:Int)==0)|| (decide ((sv.length:Int)>100))) then some ((-1),(-1),1) else (zcw sv 0>>=fun q3=>match q3 with | .inl u3=>(some (0,0,0)) | .inr u4=>(some (u4.1,u4.2.1,u4.2.2)))
theorem zkL (h:zaV i sv twice k=some (.inl (twice',k'))):zcx i sv twice k=zcx i sv twice' k':=zB (vX:=fun s:(Bool×Int)=>zaV i sv s.1 s.2) h
theorem zkM (h:zaV i sv twice k=some (.inr vZ)):zcx i sv twice k=some vZ:=zA (vX:=fun s:(Bool×Int)=>zaV i sv s.1 s.2) h
theorem zkN (h:zaW i sv k2=some (.inl k2')):zcy i sv k2=zcy i sv k2':=zB (vX:=fun s:Int=>zaW i sv s) h
theorem zgP (h:zaW i sv k2=some (.inr vZ)):zcy i sv k2=some vZ:=zA (vX:=fun s:Int=>zaW i sv s) h
theorem zkK (h:zaU sv i=some (.inl i')):zcw sv i=zcw sv i':=zB (vX:=fun s:Int=>zaU sv s) h
theorem zcm (h:zaU sv i=some (.inr vZ)):zcw sv i=some vZ:=zA (vX:=fun s:Int=>zaU sv s) h
def zfo (f:zb) (v:Int):Option Bool:=some (f.Number==v)
def zv (sv:List zb) (v:Int) (v2:Int):Option (Int⊕(Unit⊕Int)):=if (decide (v2<(sv.length:Int))) then (idx sv v2>>=fun x=>zfo x v>>=fun rv=>if rv then some (.inr (.inr v2)) else some (.inl (i64.wrap (v2+1)))) else some (.inr (.inl ()))
def zH (sv:List zb) (v:Int) (v2:Int):Option (Unit⊕Int):=zQ (fun s:Int=>zv sv v s) v2
def zW (sv:List zb) (v:Int):Option Int:=zH sv v 0>>=fun q=>match q with | .inl u=>(some (-1)) | .inr u2=>(some u2)
theorem zdf (h:zv sv v v2=some (.inl v2')):zH sv v v2=zH sv v v2':=zB (vX:=fun s:Int=>zv sv v s) h
theorem zbf (h:zv sv v v2=some (.inr vZ)):zH sv v v2=some vZ:=zA (vX:=fun s:Int=>zv sv v s) h
def zbY (m:zd) (v:Int):Option (Int×Bool):=zW m.Fields v>>=fun rv=>some ((if rv<0 then 0 else rv),(decide (rv>=0)))
def zdH (m:zd) (number:Int):Option (Int×Bool):=zbY m number>>=fun rv=>some (rv.1,rv.2)
def zaY (m:zd) (number:Int) (i:Int):Option (Int⊕(Unit⊕Int)):=if (decide (i<(m.Fields.length:Int))) then (idx m.Fields i>>=fun x=>if (x.Number==number) then some (.inr (.inr i)) else some (.inl (i64.wrap (i+1)))) else some (.inr (.inl ()))
def zcA (m:zd) (number:Int) (i:Int):Option (Unit⊕Int):=zQ (fun s:Int=>zaY m number s) i
def zcO (m:zd) (number:Int):Option Int:=zcA m number 0>>=fun q=>match q with | .inl u=>(some (-1)) | .inr u2=>(some u2)
theorem zkQ (h:zaY m number i=some (.inl i')):zcA m number i=zcA m number i':=zB (vX:=fun s:Int=>zaY m number s) h
theorem zgQ (h:zaY m number i=some (.inr vZ)):zcA m number i=some vZ:=zA (vX:=fun s:Int=>zaY m number s) h
def zeO (sv:List zd):Option Bool:=zeM sv>>=fun rv=>some (rv.2.2==0)
def zgL (k:Int):Option (Int×Int):=((if (k==1) then some (k==1) else (if (k==2) then some (k==2) else if (k==3) then some (k==3) else if (k==4) then some (k==4) else if (k==5) then some (k==5) else if (k==6) then some (k==6) else if (k==7) then some (k==7) else some (k==8)) :Option Bool))>>=fun p=>if p then some (0,0) else ((if (k==9) then some (k==9) else (if (k==10) then some (k==10) else some (k==11)) :Option Bool))>>=fun p2=>if p2 then some (4,0) else if (k==12) then if (k==12) then some (8,0) else (some (0,2)) else if (k==13) then if (k==13) then some (8,0) else (some (0,2)) else if (k==14) then some (8,0) else some (0,2)
def ziA (k:Int) (wv:Int):Option ((List UInt8)×Int):=zgL k>>=fun rv=>if (rv.2 !=0) then some ([],rv.2) else zho k wv>>=fun vV=>if (rv.1==0) then (zhs ([]:List UInt8) vV.1>>=fun wa=>some (wa,vV.2)) else ziK vV.1 rv.1>>=fun rv4=>some (rv4,vV.2)
def zhF (k:Int) (wv:Int):Option Int:=zgL k>>=fun rv=>if ((rv.2 !=0)|| (rv.1 !=0)) then some rv.1 else zho k wv>>=fun vV=>zlN vV.1>>=fun wa=>some wa
def zez (fuel:Nat) (k:Int) (wv:Int):Option (List UInt8):=zdS k wv>>=fun rv=>if (decide (k>=12)) then (zdA rv 8>>=fun vV=>some vV) else if (decide (k>=9)) then (zdA rv 4>>=fun wa=>some wa) else zcf fuel rv>>=fun rv4=>some rv4
def zmj (k:Int):Option Int:=zhF k 0>>=fun rv=>some rv
def zex (k:Int) (l:List Int) (b:List UInt8) (v:Int):Option (((List UInt8)×Int)⊕(List UInt8)):=if (decide (v<(l.length:Int))) then (idx l v>>=fun x=>ziA k x>>=fun vV=>app 1 b vV.1>>=fun v2=>some (.inl (v2,(i64.wrap (v+1))))) else some (.inr b)
def zhE (k:Int) (l:List Int) (b:List UInt8) (v:Int):Option (List UInt8):=zQ (fun s:((List UInt8)×Int)=>zex k l s.1 s.2) (b,v)
def zoh (k:Int) (l:List Int):Option ((List UInt8)×Int):=zmj k>>=fun rv=>if (rv==0) then some ([],2) else zhE k l [] 0>>=fun q=>some (q,0)
theorem zsh {k:Int} {l:List Int} {b:List UInt8} {v:Int} {b':List UInt8} {v':Int} (h:zex k l b v=some (.inl (b',v'))):zhE k l b v=zhE k l b' v':=zB (vX:=fun s:((List UInt8)×Int)=>zex k l s.1 s.2) h
theorem zsi {k:Int} {l:List Int} {b:List UInt8} {v:Int} {vZ:List UInt8} (h:zex k l b v=some (.inr vZ)):zhE k l b v=some vZ:=zA (vX:=fun s:((List UInt8)×Int)=>zex k l s.1 s.2) h
def zbr (fuel:Nat) (k:Int) (l:List Int) (out:List UInt8) (i:Int):Option (((List UInt8)×Int)⊕(List UInt8)):=if (decide (i<(l.length:Int))) then (idx l i>>=fun x=>zez fuel k x>>=fun rv=>app 1 out rv>>=fun v=>some (.inl (v,(i64.wrap (i+1))))) else some (.inr out)
def zcZ (fuel:Nat) (k:Int) (l:List Int) (out:List UInt8) (i:Int):Option (List UInt8):=zQ (fun s:((List UInt8)×Int)=>zbr fuel k l s.1 s.2) (out,i)
def zfl (fuel:Nat) (k:Int) (l:List Int):Option (List UInt8):=zcZ fuel k l [] 0>>=fun q=>some q
theorem zlw {fuel:Nat} {k:Int} {l:List Int} {out:List UInt8} {i:Int} {out':List UInt8} {i':Int} (h:zbr fuel k l out i=some (.inl (out',i'))):zcZ fuel k l out i=zcZ fuel k l out' i':=zB (vX:=fun s:((List UInt8)×Int)=>zbr fuel k l s.1 s.2) h
theorem zlx {fuel:Nat} {k:Int} {l:List Int} {out:List UInt8} {i:Int} {vZ:List UInt8} (h:zbr fuel k l out i=some (.inr vZ)):zcZ fuel k l out i=some vZ:=zA (vX:=fun s:((List UInt8)×Int)=>zbr fuel k l s.1 s.2) h
def zkC (sv:List zd) (root:Int) (d:Int):Option Int:=zgM sv>>=fun rv=>if (!rv) then some 9 else (if ((decide (root<0))|| ((decide (root>=(sv.length:Int)))|| ((decide (d<0))|| (decide (d>64))))) then some 2 else some 0)
def zfm (sv:List zd) (root:Int):Option Int:=zeO sv>>=fun rv=>if (!rv) then some 9 else (if ((decide (root<0))|| (decide (root>=(sv.length:Int)))) then some 2 else some 0)
def zfp (v:za):Option Int:=some (i64.wrap ((i64.wrap ((v.Words.length:Int)+(v.Texts.length:Int)))+(v.Subs.length:Int)))
def zbL (xi:za->Option za) (x:zc) (i:Int) (f:List za):Option ((Int×(List za))⊕(List za)):=if (decide (i<(x.Values.length:Int))) then (idx x.Values i>>=fun x2=>xi x2>>=fun rv=>app 80 f ([rv]:List za)>>=fun v2=>some (.inl ((i64.wrap (i+1)),v2))) else some (.inr f)
def zdR (xi:za->Option za) (x:zc) (i:Int) (f:List za):Option (List za):=zQ (fun s:(Int×(List za))=>zbL xi x s.1 s.2) (i,f)
def zfd (xh:zc->Option zc) (xi:za->Option za) (x:zc):Option zc:=app 16 ([]:List Str) x.Unknown>>=fun v=>zdR xi x 0 []>>=fun q=>some (⟨q,v⟩:zc)
def zaC (xh:zc->Option zc) (v:za) (i:Int) (f:List zc):Option ((Int×(List zc))⊕(List zc)):=if (decide (i<(v.Subs.length:Int))) then (idx v.Subs i>>=fun x=>xh x>>=fun rv=>app 48 f ([rv]:List zc)>>=fun v2=>some (.inl ((i64.wrap (i+1)),v2))) else some (.inr f)
def zbV (xh:zc->Option zc) (v:za) (i:Int) (f:List zc):Option (List zc):=zQ (fun s:(Int×(List zc))=>zaC xh v s.1 s.2) (i,f)
def zdn (xh:zc->Option zc) (xi:za->Option za) (v:za):Option za:=zbV xh v 0 []>>=fun q=>some (⟨v.Number,v.Words,v.Texts,q⟩:za)
def zae:Nat->(zc->Option zc)×(za->Option za) | 0=>(fun _=>none,fun _=>none) | fuel+1=>(fun x=>zfd (zae fuel).1 (zae fuel).2 x,fun v=>zdn (zae fuel).1 (zae fuel).2 v)
def zcK (fuel:Nat):zc->Option zc:=(zae fuel).1
def zcR (fuel:Nat):za->Option za:=(zae fuel).2
theorem zmw (h:zbL xi x i f=some (.inl (i',f'))):zdR xi x i f=zdR xi x i' f':=zB (vX:=fun s:(Int×(List za))=>zbL xi x s.1 s.2) h
theorem zmx (h:zbL xi x i f=some (.inr vZ)):zdR xi x i f=some vZ:=zA (vX:=fun s:(Int×(List za))=>zbL xi x s.1 s.2) h
theorem zjA (h:zaC xh v i f=some (.inl (i',f'))):zbV xh v i f=zbV xh v i' f':=zB (vX:=fun s:(Int×(List zc))=>zaC xh v s.1 s.2) h
theorem zjB (h:zaC xh v i f=some (.inr vZ)):zbV xh v i f=some vZ:=zA (vX:=fun s:(Int×(List zc))=>zaC xh v s.1 s.2) h
def zbm (x:zc) (n:Int) (i:Int):Option ((Int×Int)⊕Int):=if (decide (i<(x.Unknown.length:Int))) then (idx x.Unknown i>>=fun x2=>some (.inl ((i64.wrap ((i64.wrap (n+1))+(x2.length:Int))),(i64.wrap (i+1))))) else some (.inr n)
def zcS (x:zc) (n:Int) (i:Int):Option Int:=zQ (fun s:(Int×Int)=>zbm x s.1 s.2) (n,i)
def zaL (wh:Int) (xg:za->Int->Option Int) (x:zc) (n3:Int) (i2:Int):Option ((Int×Int)⊕(Int⊕Unit)):=if (decide (i2<(x.Values.length:Int))) then (idx x.Values i2>>=fun x3=>xg x3 wh>>=fun rv=>if (decide ((i64.wrap (n3+rv))>=5000)) then some (.inr (.inr ())) else some (.inl ((i64.wrap (n3+rv)),(i64.wrap (i2+1))))) else some (.inr (.inl n3))
def zcT (wh:Int) (xg:za->Int->Option Int) (x:zc) (n3:Int) (i2:Int):Option (Int⊕Unit):=zQ (fun s:(Int×Int)=>zaL wh xg x s.1 s.2) (n3,i2)
def zem (xf:zc->Int->Option Int) (xg:za->Int->Option Int) (x:zc) (wh:Int):Option Int:=if (decide (wh<0)) then some 5000 else (zcS x 1 0>>=fun q=>zcT wh xg x q 0>>=fun q2=>match q2 with | .inl u=>(some u) | .inr u2=>(some 5000))
def zar (v:za) (n:Int) (k:Int):Option ((Int×Int)⊕Int):=if (decide (k<(v.Texts.length:Int))) then (idx v.Texts k>>=fun x=>some (.inl ((i64.wrap ((i64.wrap (n+1))+(x.length:Int))),(i64.wrap (k+1))))) else some (.inr n)
def zbI (v:za) (n:Int) (k:Int):Option Int:=zQ (fun s:(Int×Int)=>zar v s.1 s.2) (n,k)
def zah (wh:Int) (xf:zc->Int->Option Int) (v:za) (n3:Int) (k2:Int):Option ((Int×Int)⊕(Int⊕Unit)):=if (decide (k2<(v.Subs.length:Int))) then (idx v.Subs k2>>=fun x2=>xf x2 (i64.wrap (wh - 1))>>=fun rv=>if (decide ((i64.wrap (n3+rv))>=5000)) then some (.inr (.inr ())) else some (.inl ((i64.wrap (n3+rv)),(i64.wrap (k2+1))))) else some (.inr (.inl n3))
def zbJ (wh:Int) (xf:zc->Int->Option Int) (v:za) (n3:Int) (k2:Int):Option (Int⊕Unit):=zQ (fun s:(Int×Int)=>zah wh xf v s.1 s.2) (n3,k2)
def zcG (xf:zc->Int->Option Int) (xg:za->Int->Option Int) (v:za) (wh:Int):Option Int:=zbI v (i64.wrap (1+(v.Words.length:Int))) 0>>=fun q=>zbJ wh xf v q 0>>=fun q2=>match q2 with | .inl u=>(some u) | .inr u2=>(some 5000)
def zT:Nat->(zc->Int->Option Int)×(za->Int->Option Int) | 0=>(fun _ _=>none,fun _ _=>none) | fuel+1=>(fun x wh=>zem (zT fuel).1 (zT fuel).2 x wh,fun v wh=>zcG (zT fuel).1 (zT fuel).2 v wh)
def zbl (fuel:Nat):zc->Int->Option Int:=(zT fuel).1
def zaG (fuel:Nat):za->Int->Option Int:=(zT fuel).2
theorem zlm (h:zbm x n i=some (.inl (n',i'))):zcS x n i=zcS x n' i':=zB (vX:=fun s:(Int×Int)=>zbm x s.1 s.2) h
theorem zln (h:zbm x n i=some (.inr vZ)):zcS x n i=some vZ:=zA (vX:=fun s:(Int×Int)=>zbm x s.1 s.2) h
theorem zlo (h:zaL wh xg x n3 i2=some (.inl (n3',i2'))):zcT wh xg x n3 i2=zcT wh xg x n3' i2':=zB (vX:=fun s:(Int×Int)=>zaL wh xg x s.1 s.2) h
theorem zhe (h:zaL wh xg x n3 i2=some (.inr vZ)):zcT wh xg x n3 i2=some vZ:=zA (vX:=fun s:(Int×Int)=>zaL wh xg x s.1 s.2) h
theorem ziO (h:zar v n k=some (.inl (n',k'))):zbI v n k=zbI v n' k':=zB (vX:=fun s:(Int×Int)=>zar v s.1 s.2) h
theorem ziP (h:zar v n k=some (.inr vZ)):zbI v n k=some vZ:=zA (vX:=fun s:(Int×Int)=>zar v s.1 s.2) h
theorem ziQ (h:zah wh xf v n3 k2=some (.inl (n3',k2'))):zbJ wh xf v n3 k2=zbJ wh xf v n3' k2':=zB (vX:=fun s:(Int×Int)=>zah wh xf v s.1 s.2) h
theorem zfV (h:zah wh xf v n3 k2=some (.inr vZ)):zbJ wh xf v n3 k2=some vZ:=zA (vX:=fun s:(Int×Int)=>zah wh xf v s.1 s.2) h
def zdW (wd:Int) (xa:zc->Int->Option Int) (x2:za) (deep3:Int) (v3:Int):Option ((Int×Int)⊕(Int⊕Int)):=if (decide (v3<(x2.Subs.length:Int))) then (idx x2.Subs v3>>=fun x3=>if (decide (wd<=0)) then some (.inr (.inr 1)) else xa x3 (i64.wrap (wd - 1))>>=fun rv=>if (decide ((if deep3<(i64.wrap (1+rv)) then i64.wrap (1+rv) else deep3)>wd)) then some (.inr (.inr (if deep3<(i64.wrap (1+rv)) then i64.wrap (1+rv) else deep3))) else some (.inl ((if deep3<(i64.wrap (1+rv)) then i64.wrap (1+rv) else deep3),(i64.wrap (v3+1))))) else some (.inr (.inl deep3))
def zgo (wd:Int) (xa:zc->Int->Option Int) (x2:za) (deep3:Int) (v3:Int):Option (Int⊕Int):=zQ (fun s:(Int×Int)=>zdW wd xa x2 s.1 s.2) (deep3,v3)
def zdV (wd:Int) (xa:zc->Int->Option Int) (x:zc) (wh:Int) (v:Int):Option ((Int×Int)⊕(Int⊕Int)):=if (decide (v<(x.Values.length:Int))) then (idx x.Values v>>=fun x2=>zgo wd xa x2 wh 0>>=fun q=>match q with | .inl u=>(some (.inl (u,(i64.wrap (v+1))))) | .inr u2=>(some (.inr (.inr u2)))) else some (.inr (.inl wh))
def zgn (wd:Int) (xa:zc->Int->Option Int) (x:zc) (wh:Int) (v:Int):Option (Int⊕Int):=zQ (fun s:(Int×Int)=>zdV wd xa x s.1 s.2) (wh,v)
def zia (xa:zc->Int->Option Int) (x:zc) (wd:Int):Option Int:=zgn wd xa x 0 0>>=fun q2=>match q2 with | .inl u3=>(some u3) | .inr u4=>(some u4)
def zfz:Nat->zc->Int->Option Int | 0,_,_=>none | fuel+1,x,wd=>zia (zfz fuel) x wd
theorem zqN (h:zdW wd xa x2 deep3 v3=some (.inl (deep3',v3'))):zgo wd xa x2 deep3 v3=zgo wd xa x2 deep3' v3':=zB (vX:=fun s:(Int×Int)=>zdW wd xa x2 s.1 s.2) h
theorem zqO (h:zdW wd xa x2 deep3 v3=some (.inr vZ)):zgo wd xa x2 deep3 v3=some vZ:=zA (vX:=fun s:(Int×Int)=>zdW wd xa x2 s.1 s.2) h
theorem zqL (h:zdV wd xa x wh v=some (.inl (deep',v'))):zgn wd xa x wh v=zgn wd xa x deep' v':=zB (vX:=fun s:(Int×Int)=>zdV wd xa x s.1 s.2) h
theorem zqM (h:zdV wd xa x wh v=some (.inr vZ)):zgn wd xa x wh v=some vZ:=zA (vX:=fun s:(Int×Int)=>zdV wd xa x s.1 s.2) h
def ziC (fuel:Nat) (x:zc):Option Int:=zfz fuel x 131072>>=fun rv=>some rv
def zjQ (fuel:Nat) (x:zc):Option Bool:=ziC fuel x>>=fun rv=>some (decide (rv<=131072))
def zck (l:List Str) (v:Int):Option (Int⊕(Unit⊕Unit)):=if (decide (v<(l.length:Int))) then (idx l v>>=fun x=>lenO x>>=fun v2=>zmo v2>>=fun rv=>if (!rv) then some (.inr (.inr ())) else some (.inl (i64.wrap (v+1)))) else some (.inr (.inl ()))
def zeD (l:List Str) (v:Int):Option (Unit⊕Unit):=zQ (fun s:Int=>zck l s) v
def zhj (l:List Str):Option Bool:=zeD l 0>>=fun q=>match q with | .inl u=>(some true) | .inr u2=>(some false)
theorem zov (h:zck l v=some (.inl v')):zeD l v=zeD l v':=zB (vX:=fun s:Int=>zck l s) h
theorem zjg (h:zck l v=some (.inr vZ)):zeD l v=some vZ:=zA (vX:=fun s:Int=>zck l s) h
def zgG (m:zd) (text:Str):Option Bool:=lenO text>>=fun v=>zja v 0>>=fun rv=>if ((rv.2 !=0)|| (rv.1.To !=(text.length:Int))) then some false else zdH m rv.1.Number>>=fun vV=>some (!vV.2)
def zaN (k:Int) (l:List Int) (v:Int):Option (Int⊕(Unit⊕Unit)):=if (decide (v<(l.length:Int))) then (idx l v>>=fun x=>zho k x>>=fun rv=>if ((rv.2 !=0)|| (rv.1 !=x)) then some (.inr (.inr ())) else some (.inl (i64.wrap (v+1)))) else some (.inr (.inl ()))
def zdh (k:Int) (l:List Int) (v:Int):Option (Unit⊕Unit):=zQ (fun s:Int=>zaN k l s) v
def zfq (k:Int) (l:List Int):Option Bool:=zdh k l 0>>=fun q=>match q with | .inl u=>(some true) | .inr u2=>(some false)
theorem zlK (h:zaN k l v=some (.inl v')):zdh k l v=zdh k l v':=zB (vX:=fun s:Int=>zaN k l s) h
theorem zfy (h:zaN k l v=some (.inr vZ)):zdh k l v=some vZ:=zA (vX:=fun s:Int=>zaN k l s) h
def zbD (l:List zc) (message:Int) (xe:(List zd)->Int->zc->Option Bool) (sv:List zd) (v2:Int):Option (Int⊕(Unit⊕Unit)):=if (decide (v2<(l.length:Int))) then (idx l v2>>=fun x=>xe sv message x>>=fun rv=>if (!rv) then some (.inr (.inr ())) else some (.inl (i64.wrap (v2+1)))) else some (.inr (.inl ()))
def zdD (l:List zc) (message:Int) (xe:(List zd)->Int->zc->Option Bool) (sv:List zd) (v2:Int):Option (Unit⊕Unit):=zQ (fun s:Int=>zbD l message xe sv s) v2
def zeT (xp:(List zd)->Int->(List zc)->Option Bool) (xb:zb->(List zd)->za->Option Bool) (xe:(List zd)->Int->zc->Option Bool) (sv:List zd) (message:Int) (l:List zc):Option Bool:=if ((decide (message<0))|| (decide (message>=(sv.length:Int)))) then some false else (zdD l message xe sv 0>>=fun q=>match q with | .inl u=>(some true) | .inr u2=>(some false))
def zjh (xp:(List zd)->Int->(List zc)->Option Bool) (xb:zb->(List zd)->za->Option Bool) (xe:(List zd)->Int->zc->Option Bool) (f:zb) (sv:List zd) (v:za):Option Bool:=zfp v>>=fun rv=>if ((rv==0)|| ((decide (rv>1))&&(!f.Repeated))) then some false else if (f.Kind==15) then ((if ((v.Texts.length:Int)==rv) then (zhj v.Texts>>=fun vV=>some vV) else some false)>>=fun g=>some g) else if (f.Kind==16) then some ((v.Texts.length:Int)==rv) else if (f.Kind==17) then ((if ((v.Subs.length:Int)==rv) then (xp sv f.Of v.Subs>>=fun wa=>some wa) else some false)>>=fun g2=>some g2) else (if ((v.Words.length:Int)==rv) then (zfq f.Kind v.Words>>=fun rv4=>some rv4) else some false)>>=fun g3=>some g3
def zbG (xb:zb->(List zd)->za->Option Bool) (sv:List zd) (x:zc) (x2:zd) (last:Int) (v:Int):Option ((Int×Int)⊕(Unit⊕Unit)):=if (decide (v<(x.Values.length:Int))) then (idx x.Values v>>=fun x3=>zdH x2 x3.Number>>=fun rv=>(if (!rv.2) then some true else if (decide (x3.Number<=last)) then some true else idx x2.Fields rv.1>>=fun x4=>xb x4 sv x3>>=fun vV=>some (!vV))>>=fun g=>if g then some (.inr (.inr ())) else some (.inl (x3.Number,(i64.wrap (v+1))))) else some (.inr (.inl ()))
def zej (xb:zb->(List zd)->za->Option Bool) (sv:List zd) (x:zc) (x2:zd) (last:Int) (v:Int):Option (Unit⊕Unit):=zQ (fun s:(Int×Int)=>zbG xb sv x x2 s.1 s.2) (last,v)
def zbS (x:zc) (x2:zd) (v3:Int):Option (Int⊕(Unit⊕Unit)):=if (decide (v3<(x.Unknown.length:Int))) then (idx x.Unknown v3>>=fun x5=>zgG x2 x5>>=fun wa=>if (!wa) then some (.inr (.inr ())) else some (.inl (i64.wrap (v3+1)))) else some (.inr (.inl ()))
def zek (x:zc) (x2:zd) (v3:Int):Option (Unit⊕Unit):=zQ (fun s:Int=>zbS x x2 s) v3
def zfR (xp:(List zd)->Int->(List zc)->Option Bool) (xb:zb->(List zd)->za->Option Bool) (xe:(List zd)->Int->zc->Option Bool) (sv:List zd) (message:Int) (x:zc):Option Bool:=idx sv message>>=fun x2=>zej xb sv x x2 0 0>>=fun q=>match q with | .inl u=>(zek x x2 0>>=fun q2=>match q2 with | .inl u2=>(some true) | .inr u3=>(some false)) | .inr u4=>(some false)
def zL:Nat->((List zd)->Int->(List zc)->Option Bool)×(zb->(List zd)->za->Option Bool)×((List zd)->Int->zc->Option Bool) | 0=>(fun _ _ _=>none,fun _ _ _=>none,fun _ _ _=>none) | fuel+1=>(fun sv message l=>zeT (zL fuel).1 (zL fuel).2.1 (zL fuel).2.2 sv message l,fun f sv v=>zjh (zL fuel).1 (zL fuel).2.1 (zL fuel).2.2 f sv v,fun sv message x=>zfR (zL fuel).1 (zL fuel).2.1 (zL fuel).2.2 sv message x)
def zfQ (fuel:Nat):(List zd)->Int->(List zc)->Option Bool:=(zL fuel).1
def zhI (fuel:Nat):zb->(List zd)->za->Option Bool:=(zL fuel).2.1
def zdx (fuel:Nat):(List zd)->Int->zc->Option Bool:=(zL fuel).2.2
theorem zmm (h:zbD l message xe sv v2=some (.inl v2')):zdD l message xe sv v2=zdD l message xe sv v2':=zB (vX:=fun s:Int=>zbD l message xe sv s) h
theorem zhH (h:zbD l message xe sv v2=some (.inr vZ)):zdD l message xe sv v2=some vZ:=zA (vX:=fun s:Int=>zbD l message xe sv s) h
theorem znr (h:zbG xb sv x x2 last v=some (.inl (last',v'))):zej xb sv x x2 last v=zej xb sv x x2 last' v':=zB (vX:=fun s:(Int×Int)=>zbG xb sv x x2 s.1 s.2) h
theorem zii (h:zbG xb sv x x2 last v=some (.inr vZ)):zej xb sv x x2 last v=some vZ:=zA (vX:=fun s:(Int×Int)=>zbG xb sv x x2 s.1 s.2) h
theorem zns (h:zbS x x2 v3=some (.inl v3')):zek x x2 v3=zek x x2 v3':=zB (vX:=fun s:Int=>zbS x x2 s) h
theorem zij (h:zbS x x2 v3=some (.inr vZ)):zek x x2 v3=some vZ:=zA (vX:=fun s:Int=>zbS x x2 s) h
def zco (v:za):Option Int:=some (i64.wrap ((i64.wrap ((v.Words.length:Int)+(v.Texts.length:Int)))+(v.Subs.length:Int)))
def zbs (f:zb) (v:za) (ok:Bool) (i:Int):Option ((Bool×Int)⊕Bool):=if (decide (i<(v.Words.length:Int))) then ((if ok then (zbA f.Kind>>=fun rv5=>if rv5 then (idx v.Words i>>=fun x=>zdS f.Kind x>>=fun rv6=>idx v.Words i>>=fun x2=>some (rv6==x2)) else some false) else some false)>>=fun g2=>some (.inl (g2,(i64.wrap (i+1))))) else some (.inr ok)
def zda (f:zb) (v:za) (ok:Bool) (i:Int):Option Bool:=zQ (fun s:(Bool×Int)=>zbs f v s.1 s.2) (ok,i)
def zbt (f:zb) (v:za) (ok4:Bool) (i2:Int):Option ((Bool×Int)⊕Bool):=if (decide (i2<(v.Texts.length:Int))) then ((if ok4 then (if (f.Kind==16) then some true else if (f.Kind==15) then (idx v.Texts i2>>=fun x3=>lenO x3>>=fun v3=>zeL v3>>=fun rv7=>some rv7) else some false) else some false)>>=fun g3=>some (.inl (g3,(i64.wrap (i2+1))))) else some (.inr ok4)
def zdb (f:zb) (v:za) (ok4:Bool) (i2:Int):Option Bool:=zQ (fun s:(Bool×Int)=>zbt f v s.1 s.2) (ok4,i2)
def zbu (f:zb) (xk:(List zd)->Int->zc->Option Bool) (sv:List zd) (v:za) (ok7:Bool) (i3:Int):Option ((Bool×Int)⊕Bool):=if (decide (i3<(v.Subs.length:Int))) then ((if ok7 then (if (f.Kind==17) then (idx v.Subs i3>>=fun x4=>xk sv f.Of x4>>=fun rv8=>some rv8) else some false) else some false)>>=fun g4=>some (.inl (g4,(i64.wrap (i3+1))))) else some (.inr ok7)
def zdc (f:zb) (xk:(List zd)->Int->zc->Option Bool) (sv:List zd) (v:za) (ok7:Bool) (i3:Int):Option Bool:=zQ (fun s:(Bool×Int)=>zbu f xk sv v s.1 s.2) (ok7,i3)
def zeo (xj:(List zd)->zb->za->Option Bool) (xk:(List zd)->Int->zc->Option Bool) (sv:List zd) (f:zb) (v:za):Option Bool:=(zco v>>=fun rv=>if (rv==0) then some true else zco v>>=fun vV=>if (decide (vV>1)) then (if (!f.Repeated) then some true else zbM f.Kind>>=fun wa=>some (!wa)) else zbM f.Kind>>=fun rv4=>some (!rv4))>>=fun g=>if g then some false else zda f v true 0>>=fun q=>zdb f v q 0>>=fun q2=>zdc f xk sv v q2 0>>=fun q3=>some q3
def zaZ (xj:(List zd)->zb->za->Option Bool) (root:Int) (sv:List zd) (x:zc) (i:Int):Option (Int⊕(Unit⊕Unit)):=if (decide (i<(x.Values.length:Int))) then (idx sv root>>=fun x2=>idx x.Values i>>=fun x3=>zcO x2 x3.Number>>=fun rv=>(if (decide (rv<0)) then some true else if (decide (i>0)) then (idx x.Values (i64.wrap (i - 1))>>=fun x4=>idx x.Values i>>=fun x5=>if (decide (x4.Number>=x5.Number)) then some true else idx sv root>>=fun x6=>idx x6.Fields rv>>=fun x7=>idx x.Values i>>=fun x8=>xj sv x7 x8>>=fun vV=>some (!vV)) else idx sv root>>=fun x9=>idx x9.Fields rv>>=fun x10=>idx x.Values i>>=fun x11=>xj sv x10 x11>>=fun wa=>some (!wa))>>=fun g=>if g then some (.inr (.inr ())) else some (.inl (i64.wrap (i+1)))) else some (.inr (.inl ()))
def zcB (xj:(List zd)->zb->za->Option Bool) (root:Int) (sv:List zd) (x:zc) (i:Int):Option (Unit⊕Unit):=zQ (fun s:Int=>zaZ xj root sv x s) i
def zba (root:Int) (sv:List zd) (x:zc) (i2:Int):Option (Int⊕(Unit⊕Unit)):=if (decide (i2<(x.Unknown.length:Int))) then (idx x.Unknown i2>>=fun x12=>lenO x12>>=fun v3=>zfj v3 0>>=fun rv4=>(if (rv4.2 !=0) then some true else idx x.Unknown i2>>=fun x13=>if (rv4.1.To !=(x13.length:Int)) then some true else idx sv root>>=fun x14=>zcO x14 rv4.1.Number>>=fun rv5=>some (decide (rv5>=0)))>>=fun g2=>if g2 then some (.inr (.inr ())) else some (.inl (i64.wrap (i2+1)))) else some (.inr (.inl ()))
def zcC (root:Int) (sv:List zd) (x:zc) (i2:Int):Option (Unit⊕Unit):=zQ (fun s:Int=>zba root sv x s) i2
def zea (xj:(List zd)->zb->za->Option Bool) (xk:(List zd)->Int->zc->Option Bool) (sv:List zd) (root:Int) (x:zc):Option Bool:=if ((decide (root<0))|| (decide (root>=(sv.length:Int)))) then some false else (zcB xj root sv x 0>>=fun q=>match q with | .inl u=>(zcC root sv x 0>>=fun q2=>match q2 with | .inl u2=>(some true) | .inr u3=>(some false)) | .inr u4=>(some false))
def zaf:Nat->((List zd)->zb->za->Option Bool)×((List zd)->Int->zc->Option Bool) | 0=>(fun _ _ _=>none,fun _ _ _=>none) | fuel+1=>(fun sv f v=>zeo (zaf fuel).1 (zaf fuel).2 sv f v,fun sv root x=>zea (zaf fuel).1 (zaf fuel).2 sv root x)
def zdq (fuel:Nat):(List zd)->zb->za->Option Bool:=(zaf fuel).1
def zbN (fuel:Nat):(List zd)->Int->zc->Option Bool:=(zaf fuel).2
theorem zly (h:zbs f v ok i=some (.inl (ok',i'))):zda f v ok i=zda f v ok' i':=zB (vX:=fun s:(Bool×Int)=>zbs f v s.1 s.2) h
theorem zlz (h:zbs f v ok i=some (.inr vZ)):zda f v ok i=some vZ:=zA (vX:=fun s:(Bool×Int)=>zbs f v s.1 s.2) h
theorem zlA (h:zbt f v ok4 i2=some (.inl (ok4',i2'))):zdb f v ok4 i2=zdb f v ok4' i2':=zB (vX:=fun s:(Bool×Int)=>zbt f v s.1 s.2) h
theorem zlB (h:zbt f v ok4 i2=some (.inr vZ)):zdb f v ok4 i2=some vZ:=zA (vX:=fun s:(Bool×Int)=>zbt f v s.1 s.2) h
theorem zlC (h:zbu f xk sv v ok7 i3=some (.inl (ok7',i3'))):zdc f xk sv v ok7 i3=zdc f xk sv v ok7' i3':=zB (vX:=fun s:(Bool×Int)=>zbu f xk sv v s.1 s.2) h
theorem zlD (h:zbu f xk sv v ok7 i3=some (.inr vZ)):zdc f xk sv v ok7 i3=some vZ:=zA (vX:=fun s:(Bool×Int)=>zbu f xk sv v s.1 s.2) h
theorem zkR (h:zaZ xj root sv x i=some (.inl i')):zcB xj root sv x i=zcB xj root sv x i':=zB (vX:=fun s:Int=>zaZ xj root sv x s) h
theorem zgR (h:zaZ xj root sv x i=some (.inr vZ)):zcB xj root sv x i=some vZ:=zA (vX:=fun s:Int=>zaZ xj root sv x s) h
theorem zkS (h:zba root sv x i2=some (.inl i2')):zcC root sv x i2=zcC root sv x i2':=zB (vX:=fun s:Int=>zba root sv x s) h
theorem zgS (h:zba root sv x i2=some (.inr vZ)):zcC root sv x i2=some vZ:=zA (vX:=fun s:Int=>zba root sv x s) h
def ziD (fuel:Nat) (sv:List zd) (root:Int) (x:zc):Option Bool:=(zkC sv root 0>>=fun rv=>if (rv==0) then (zjQ fuel x>>=fun vV=>if vV then (zdx fuel sv root x>>=fun wa=>some wa) else some false) else some false)>>=fun g=>some g
def zow (xn:zc->zc->Option Bool) (xo:za->za->Option Bool) (xt:(List za)->(List za)->Option Bool) (xu:(List zc)->(List zc)->Option Bool) (av:zc) (b:zc):Option Bool:=(xt av.Values b.Values>>=fun rv=>if rv then (zcs av.Unknown b.Unknown>>=fun vV=>some vV) else some false)>>=fun g=>some g
def ziE (xn:zc->zc->Option Bool) (xo:za->za->Option Bool) (xt:(List za)->(List za)->Option Bool) (xu:(List zc)->(List zc)->Option Bool) (v:za) (wv:za):Option Bool:=(if (v.Number==wv.Number) then (zed v.Words wv.Words>>=fun rv=>if rv then (zcs v.Texts wv.Texts>>=fun vV=>if vV then (xu v.Subs wv.Subs>>=fun wa=>some wa) else some false) else some false) else some false)>>=fun g=>some g
def zq (xo:za->za->Option Bool) (s1:List za) (s2:List za) (v:Int):Option (Int⊕(Unit⊕Unit)):=if (decide (v<(s1.length:Int))) then (idx s1 v>>=fun x=>idx s2 v>>=fun x2=>xo x x2>>=fun rv=>if (!rv) then some (.inr (.inr ())) else some (.inl (i64.wrap (v+1)))) else some (.inr (.inl ()))
def zw (xo:za->za->Option Bool) (s1:List za) (s2:List za) (v:Int):Option (Unit⊕Unit):=zQ (fun s:Int=>zq xo s1 s2 s) v
def zO (xn:zc->zc->Option Bool) (xo:za->za->Option Bool) (xt:(List za)->(List za)->Option Bool) (xu:(List zc)->(List zc)->Option Bool) (s1:List za) (s2:List za):Option Bool:=if ((s1.length:Int) !=(s2.length:Int)) then some false else (zw xo s1 s2 0>>=fun q=>match q with | .inl u=>(some true) | .inr u2=>(some false))
def zt (xn:zc->zc->Option Bool) (s1:List zc) (s2:List zc) (v:Int):Option (Int⊕(Unit⊕Unit)):=if (decide (v<(s1.length:Int))) then (idx s1 v>>=fun x=>idx s2 v>>=fun x2=>xn x x2>>=fun rv=>if (!rv) then some (.inr (.inr ())) else some (.inl (i64.wrap (v+1)))) else some (.inr (.inl ()))
def zC (xn:zc->zc->Option Bool) (s1:List zc) (s2:List zc) (v:Int):Option (Unit⊕Unit):=zQ (fun s:Int=>zt xn s1 s2 s) v
def zY (xn:zc->zc->Option Bool) (xo:za->za->Option Bool) (xt:(List za)->(List za)->Option Bool) (xu:(List zc)->(List zc)->Option Bool) (s1:List zc) (s2:List zc):Option Bool:=if ((s1.length:Int) !=(s2.length:Int)) then some false else (zC xn s1 s2 0>>=fun q=>match q with | .inl u=>(some true) | .inr u2=>(some false))
def zx:Nat->(zc->zc->Option Bool)×(za->za->Option Bool)×((List za)->(List za)->Option Bool)×((List zc)->(List zc)->Option Bool) | 0=>(fun _ _=>none,fun _ _=>none,fun _ _=>none,fun _ _=>none) | fuel+1=>(fun av b=>zow (zx fuel).1 (zx fuel).2.1 (zx fuel).2.2.1 (zx fuel).2.2.2 av b,fun v wv=>ziE (zx fuel).1 (zx fuel).2.1 (zx fuel).2.2.1 (zx fuel).2.2.2 v wv,fun s1 s2=>zO (zx fuel).1 (zx fuel).2.1 (zx fuel).2.2.1 (zx fuel).2.2.2 s1 s2,fun s1 s2=>zY (zx fuel).1 (zx fuel).2.1 (zx fuel).2.2.1 (zx fuel).2.2.2 s1 s2)
def zgN (fuel:Nat):zc->zc->Option Bool:=(zx fuel).1
def zef (fuel:Nat):za->za->Option Bool:=(zx fuel).2.1
def zG (fuel:Nat):(List za)->(List za)->Option Bool:=(zx fuel).2.2.1
def zJ (fuel:Nat):(List zc)->(List zc)->Option Bool:=(zx fuel).2.2.2
theorem zbx (h:zq xo s1 s2 v=some (.inl v')):zw xo s1 s2 v=zw xo s1 s2 v':=zB (vX:=fun s:Int=>zq xo s1 s2 s) h
theorem zag (h:zq xo s1 s2 v=some (.inr vZ)):zw xo s1 s2 v=some vZ:=zA (vX:=fun s:Int=>zq xo s1 s2 s) h
theorem zbX (h:zt xn s1 s2 v=some (.inl v')):zC xn s1 s2 v=zC xn s1 s2 v':=zB (vX:=fun s:Int=>zt xn s1 s2 s) h
theorem zau (h:zt xn s1 s2 v=some (.inr vZ)):zC xn s1 s2 v=some vZ:=zA (vX:=fun s:Int=>zt xn s1 s2 s) h
def zrA (fuel:Nat) (av:zc) (b:zc):Option Bool:=(zjQ fuel av>>=fun rv=>if rv then (zgN fuel av b>>=fun vV=>some vV) else some false)>>=fun g=>some g
def zbB (fuel:Nat) (l:List zc) (root:Int) (sv:List zd) (i:Int):Option (Int⊕(Unit⊕Unit)):=if (decide (i<(l.length:Int))) then (idx l i>>=fun x=>zbN fuel sv root x>>=fun vV=>if (!vV) then some (.inr (.inr ())) else some (.inl (i64.wrap (i+1)))) else some (.inr (.inl ()))
def zdB (fuel:Nat) (l:List zc) (root:Int) (sv:List zd) (i:Int):Option (Unit⊕Unit):=zQ (fun s:Int=>zbB fuel l root sv s) i
def zfK (fuel:Nat) (sv:List zd) (root:Int) (l:List zc):Option Int:=zfm sv root>>=fun rv=>if (rv !=0) then some rv else (zdB fuel l root sv 0>>=fun q=>match q with | .inl u=>(some 0) | .inr u2=>(some 12))
theorem zlS (h:zbB fuel l root sv i=some (.inl i')):zdB fuel l root sv i=zdB fuel l root sv i':=zB (vX:=fun s:Int=>zbB fuel l root sv s) h
theorem zhy (h:zbB fuel l root sv i=some (.inr vZ)):zdB fuel l root sv i=some vZ:=zA (vX:=fun s:Int=>zbB fuel l root sv s) h
def zim (fuel:Nat) (sv:List zd) (root:Int) (x:zc):Option Int:=ziD fuel sv root x>>=fun rv=>if rv then some 0 else (zgM sv>>=fun vV=>if (!vV) then some 9 else (if ((decide (root<0))|| (decide (root>=(sv.length:Int)))) then some 2 else some 12))
def zjX (k:Int):Option Int:=zhF k 0>>=fun rv=>if (rv==4) then some 5 else if (rv==8) then some 1 else some 0
def zjW (number:Int) (size:Int):Option (List UInt8):=zku ([]:List UInt8) number ([]:List UInt8)>>=fun rv=>ziA 4 (u64.wrap size)>>=fun vV=>cut rv 0 (i64.wrap ((rv.length:Int) - 1))>>=fun v=>app 1 v vV.1>>=fun v2=>some v2
def zbK (wv:zg) (b:List UInt8):Option zg:=app 24 wv.pieces ([b]:List (List UInt8))>>=fun v=>some (⟨v,(i64.wrap (wv.size+(b.length:Int)))⟩:zg)
def zbQ (wv:zg) (number:Int) (wire:Int) (value:List UInt8):Option zg:=ziw ([]:List UInt8) number wire value>>=fun rv=>zbK wv rv.1>>=fun vV=>some vV
def zeG (wv:zg) (f:zb) (l:List Int):Option zg:=zoh f.Kind l>>=fun rv=>if f.Repeated then (zbQ wv f.Number 2 rv.1>>=fun vV=>some vV) else zjX f.Kind>>=fun wa=>zbQ wv f.Number wa rv.1>>=fun rv4=>some rv4
def zaA (xd:zg->(List zd)->zb->za->Option zg) (sv:List zd) (x:zc) (x2:zd) (v:Int) (f:List (List UInt8)) (f2:Int):Option ((Int×(List (List UInt8))×Int)⊕((List (List UInt8))×Int)):=if (decide (v<(x.Values.length:Int))) then (idx x.Values v>>=fun x3=>zdH x2 x3.Number>>=fun rv=>idx x2.Fields rv.1>>=fun x4=>xd (⟨f,f2⟩:zg) sv x4 x3>>=fun vV=>some (.inl ((i64.wrap (v+1)),vV.pieces,vV.size))) else some (.inr (f,f2))
def zbT (xd:zg->(List zd)->zb->za->Option zg) (sv:List zd) (x:zc) (x2:zd) (v:Int) (f:List (List UInt8)) (f2:Int):Option ((List (List UInt8))×Int):=zQ (fun s:(Int×(List (List UInt8))×Int)=>zaA xd sv x x2 s.1 s.2.1 s.2.2) (v,f,f2)
def zaB (x:zc) (v2:Int) (f5:List (List UInt8)) (f6:Int):Option ((Int×(List (List UInt8))×Int)⊕((List (List UInt8))×Int)):=if (decide (v2<(x.Unknown.length:Int))) then (idx x.Unknown v2>>=fun x5=>lenO x5>>=fun v3=>zbK (⟨f5,f6⟩:zg) v3>>=fun wa=>some (.inl ((i64.wrap (v2+1)),wa.pieces,wa.size))) else some (.inr (f5,f6))
def zbU (x:zc) (v2:Int) (f5:List (List UInt8)) (f6:Int):Option ((List (List UInt8))×Int):=zQ (fun s:(Int×(List (List UInt8))×Int)=>zaB x s.1 s.2.1 s.2.2) (v2,f5,f6)
def zdk (xq:zg->(List zd)->Int->zc->Option zg) (xc:zg->(List zd)->zb->zc->Option zg) (xd:zg->(List zd)->zb->za->Option zg) (wv:zg) (sv:List zd) (message:Int) (x:zc):Option zg:=idx sv message>>=fun x2=>zbT xd sv x x2 0 wv.pieces wv.size>>=fun q=>zbU x 0 q.1 q.2>>=fun q2=>some (⟨q2.1,q2.2⟩:zg)
def zeF (xq:zg->(List zd)->Int->zc->Option zg) (xc:zg->(List zd)->zb->zc->Option zg) (xd:zg->(List zd)->zb->za->Option zg) (wv:zg) (sv:List zd) (f:zb) (x:zc):Option zg:=zbK wv ([]:List UInt8)>>=fun rv=>xq rv sv f.Of x>>=fun vV=>zjW f.Number (i64.wrap (vV.size - wv.size))>>=fun wa=>idx vV.pieces (wv.pieces.length:Int)>>=fun x2=>idx (vV.pieces.set (Int.toNat (wv.pieces.length:Int)) wa) (wv.pieces.length:Int)>>=fun x3=>some (⟨(vV.pieces.set (Int.toNat (wv.pieces.length:Int)) wa),(i64.wrap (vV.size+(x3.length:Int)))⟩:zg)
def zaR (f:zb) (v:za) (v2:Int) (f4:List (List UInt8)) (f5:Int):Option ((Int×(List (List UInt8))×Int)⊕((List (List UInt8))×Int)):=if (decide (v2<(v.Texts.length:Int))) then (idx v.Texts v2>>=fun x=>lenO x>>=fun v3=>zbQ (⟨f4,f5⟩:zg) f.Number 2 v3>>=fun vV=>some (.inl ((i64.wrap (v2+1)),vV.pieces,vV.size))) else some (.inr (f4,f5))
def zcu (f:zb) (v:za) (v2:Int) (f4:List (List UInt8)) (f5:Int):Option ((List (List UInt8))×Int):=zQ (fun s:(Int×(List (List UInt8))×Int)=>zaR f v s.1 s.2.1 s.2.2) (v2,f4,f5)
def zaS (f:zb) (xc:zg->(List zd)->zb->zc->Option zg) (sv:List zd) (v:za) (v4:Int) (f8:List (List UInt8)) (f9:Int):Option ((Int×(List (List UInt8))×Int)⊕((List (List UInt8))×Int)):=if (decide (v4<(v.Subs.length:Int))) then (idx v.Subs v4>>=fun x2=>xc (⟨f8,f9⟩:zg) sv f x2>>=fun wa=>some (.inl ((i64.wrap (v4+1)),wa.pieces,wa.size))) else some (.inr (f8,f9))
def zcv (f:zb) (xc:zg->(List zd)->zb->zc->Option zg) (sv:List zd) (v:za) (v4:Int) (f8:List (List UInt8)) (f9:Int):Option ((List (List UInt8))×Int):=zQ (fun s:(Int×(List (List UInt8))×Int)=>zaS f xc sv v s.1 s.2.1 s.2.2) (v4,f8,f9)
def zdZ (xq:zg->(List zd)->Int->zc->Option zg) (xc:zg->(List zd)->zb->zc->Option zg) (xd:zg->(List zd)->zb->za->Option zg) (wv:zg) (sv:List zd) (f:zb) (v:za):Option zg:=((if (decide ((v.Words.length:Int)>0)) then (zeG wv f v.Words>>=fun rv=>some (rv.pieces,rv.size)) else (some (wv.pieces,wv.size)) :Option ((List (List UInt8))×Int)))>>=fun p=>zcu f v 0 p.1 p.2>>=fun q=>zcv f xc sv v 0 q.1 q.2>>=fun q2=>some (⟨q2.1,q2.2⟩:zg)
def zy:Nat->(zg->(List zd)->Int->zc->Option zg)×(zg->(List zd)->zb->zc->Option zg)×(zg->(List zd)->zb->za->Option zg) | 0=>(fun _ _ _ _=>none,fun _ _ _ _=>none,fun _ _ _ _=>none) | fuel+1=>(fun wv sv message x=>zdk (zy fuel).1 (zy fuel).2.1 (zy fuel).2.2 wv sv message x,fun wv sv f x=>zeF (zy fuel).1 (zy fuel).2.1 (zy fuel).2.2 wv sv f x,fun wv sv f v=>zdZ (zy fuel).1 (zy fuel).2.1 (zy fuel).2.2 wv sv f v)
def zbi (fuel:Nat):zg->(List zd)->Int->zc->Option zg:=(zy fuel).1
def zdQ (fuel:Nat):zg->(List zd)->zb->zc->Option zg:=(zy fuel).2.1
def zcN (fuel:Nat):zg->(List zd)->zb->za->Option zg:=(zy fuel).2.2
theorem zjw {xd:zg->(List zd)->zb->za->Option zg} {sv:List zd} {x:zc} {x2:zd} {v:Int} {f:List (List UInt8)} {f2:Int} {v':Int} {f':List (List UInt8)} {f2':Int} (h:zaA xd sv x x2 v f f2=some (.inl (v',f',f2'))):zbT xd sv x x2 v f f2=zbT xd sv x x2 v' f' f2':=zB (vX:=fun s:(Int×(List (List UInt8))×Int)=>zaA xd sv x x2 s.1 s.2.1 s.2.2) h
theorem zjx {xd:zg->(List zd)->zb->za->Option zg} {sv:List zd} {x:zc} {x2:zd} {v:Int} {f:List (List UInt8)} {f2:Int} {vZ:((List (List UInt8))×Int)} (h:zaA xd sv x x2 v f f2=some (.inr vZ)):zbT xd sv x x2 v f f2=some vZ:=zA (vX:=fun s:(Int×(List (List UInt8))×Int)=>zaA xd sv x x2 s.1 s.2.1 s.2.2) h
theorem zjy {x:zc} {v2:Int} {f5:List (List UInt8)} {f6:Int} {v2':Int} {f5':List (List UInt8)} {f6':Int} (h:zaB x v2 f5 f6=some (.inl (v2',f5',f6'))):zbU x v2 f5 f6=zbU x v2' f5' f6':=zB (vX:=fun s:(Int×(List (List UInt8))×Int)=>zaB x s.1 s.2.1 s.2.2) h
theorem zjz {x:zc} {v2:Int} {f5:List (List UInt8)} {f6:Int} {vZ:((List (List UInt8))×Int)} (h:zaB x v2 f5 f6=some (.inr vZ)):zbU x v2 f5 f6=some vZ:=zA (vX:=fun s:(Int×(List (List UInt8))×Int)=>zaB x s.1 s.2.1 s.2.2) h
theorem zkE {f:zb} {v:za} {v2:Int} {f4:List (List UInt8)} {f5:Int} {v2':Int} {f4':List (List UInt8)} {f5':Int} (h:zaR f v v2 f4 f5=some (.inl (v2',f4',f5'))):zcu f v v2 f4 f5=zcu f v v2' f4' f5':=zB (vX:=fun s:(Int×(List (List UInt8))×Int)=>zaR f v s.1 s.2.1 s.2.2) h
theorem zkF {f:zb} {v:za} {v2:Int} {f4:List (List UInt8)} {f5:Int} {vZ:((List (List UInt8))×Int)} (h:zaR f v v2 f4 f5=some (.inr vZ)):zcu f v v2 f4 f5=some vZ:=zA (vX:=fun s:(Int×(List (List UInt8))×Int)=>zaR f v s.1 s.2.1 s.2.2) h
theorem zkG {f:zb} {xc:zg->(List zd)->zb->zc->Option zg} {sv:List zd} {v:za} {v4:Int} {f8:List (List UInt8)} {f9:Int} {v4':Int} {f8':List (List UInt8)} {f9':Int} (h:zaS f xc sv v v4 f8 f9=some (.inl (v4',f8',f9'))):zcv f xc sv v v4 f8 f9=zcv f xc sv v v4' f8' f9':=zB (vX:=fun s:(Int×(List (List UInt8))×Int)=>zaS f xc sv v s.1 s.2.1 s.2.2) h
theorem zkH {f:zb} {xc:zg->(List zd)->zb->zc->Option zg} {sv:List zd} {v:za} {v4:Int} {f8:List (List UInt8)} {f9:Int} {vZ:((List (List UInt8))×Int)} (h:zaS f xc sv v v4 f8 f9=some (.inr vZ)):zcv f xc sv v v4 f8 f9=some vZ:=zA (vX:=fun s:(Int×(List (List UInt8))×Int)=>zaS f xc sv v s.1 s.2.1 s.2.2) h
def zfX (wv:Option zg):Option (List UInt8):=wv>>=fun x=>zak x.pieces>>=fun rv=>some rv
def zgI (fuel:Nat) (sv:List zd) (root:Int) (x:zc):Option ((List UInt8)×Int):=zim fuel sv root x>>=fun rv=>if (rv !=0) then some ([],rv) else zbi fuel (⟨[],0⟩:zg) sv root x>>=fun vV=>zfX (some vV)>>=fun wa=>some (wa,0)
def zjV (fuel:Nat) (sv:List zd) (root:Int) (x:zc):Option (Int×Int):=zim fuel sv root x>>=fun rv=>if (rv !=0) then some (0,rv) else zbi fuel (⟨[],0⟩:zg) sv root x>>=fun vV=>some (vV.size,0)
def zeH (fuel:Nat):Option Bool:=zgI fuel ([(⟨[109],([(⟨[97],1,3,true,false,0⟩:zb)]:List zb)⟩:zd)]:List zd) 0 (⟨([(⟨1,([1,300]:List Int),[],[]⟩:za)]:List za),[]⟩:zc)>>=fun rv=>(if ((i64.wrap rv.2)==0) then (zff rv.1 ([(10:UInt8),(3:UInt8),(1:UInt8),(172:UInt8),(2:UInt8)]:List UInt8)>>=fun vV=>some vV) else some false)>>=fun g=>some g
def zaI (xm:(List zd)->zb->za->Option (List UInt8)) (root:Int) (sv:List zd) (x:zc) (out:List UInt8) (i:Int):Option (((List UInt8)×Int)⊕(List UInt8)):=if (decide (i<(x.Values.length:Int))) then (idx sv root>>=fun x2=>idx sv root>>=fun x3=>idx x.Values i>>=fun x4=>zcO x3 x4.Number>>=fun rv=>idx x2.Fields rv>>=fun x5=>idx x.Values i>>=fun x6=>xm sv x5 x6>>=fun vV=>app 1 out vV>>=fun v=>some (.inl (v,(i64.wrap (i+1))))) else some (.inr out)
def zcg (xm:(List zd)->zb->za->Option (List UInt8)) (root:Int) (sv:List zd) (x:zc) (out:List UInt8) (i:Int):Option (List UInt8):=zQ (fun s:((List UInt8)×Int)=>zaI xm root sv x s.1 s.2) (out,i)
def zaJ (x:zc) (out3:List UInt8) (i2:Int):Option (((List UInt8)×Int)⊕(List UInt8)):=if (decide (i2<(x.Unknown.length:Int))) then (idx x.Unknown i2>>=fun x7=>app 1 out3 x7>>=fun v2=>some (.inl (v2,(i64.wrap (i2+1))))) else some (.inr out3)
def zch (x:zc) (out3:List UInt8) (i2:Int):Option (List UInt8):=zQ (fun s:((List UInt8)×Int)=>zaJ x s.1 s.2) (out3,i2)
def zdM (xl:(List zd)->Int->zc->Option (List UInt8)) (xm:(List zd)->zb->za->Option (List UInt8)) (sv:List zd) (root:Int) (x:zc):Option (List UInt8):=zcg xm root sv x [] 0>>=fun q=>zch x q 0>>=fun q2=>some q2
def zbb (fuel:Nat) (f:zb) (v:za) (out:List UInt8) (i:Int):Option (((List UInt8)×Int)⊕(List UInt8)):=if (decide (i<(v.Texts.length:Int))) then (idx v.Texts i>>=fun x2=>lenO x2>>=fun v3=>zcX fuel f.Number 2 v3>>=fun rv8=>app 1 out rv8>>=fun v4=>some (.inl (v4,(i64.wrap (i+1))))) else some (.inr out)
def zcD (fuel:Nat) (f:zb) (v:za) (out:List UInt8) (i:Int):Option (List UInt8):=zQ (fun s:((List UInt8)×Int)=>zbb fuel f v s.1 s.2) (out,i)
def zbc (fuel:Nat) (f:zb) (xl:(List zd)->Int->zc->Option (List UInt8)) (sv:List zd) (v:za) (out3:List UInt8) (i2:Int):Option (((List UInt8)×Int)⊕(List UInt8)):=if (decide (i2<(v.Subs.length:Int))) then (idx v.Subs i2>>=fun x3=>xl sv f.Of x3>>=fun rv9=>zcX fuel f.Number 2 rv9>>=fun rv10=>app 1 out3 rv10>>=fun v5=>some (.inl (v5,(i64.wrap (i2+1))))) else some (.inr out3)
def zcE (fuel:Nat) (f:zb) (xl:(List zd)->Int->zc->Option (List UInt8)) (sv:List zd) (v:za) (out3:List UInt8) (i2:Int):Option (List UInt8):=zQ (fun s:((List UInt8)×Int)=>zbc fuel f xl sv v s.1 s.2) (out3,i2)
def zeb (fuel:Nat) (xl:(List zd)->Int->zc->Option (List UInt8)) (xm:(List zd)->zb->za->Option (List UInt8)) (sv:List zd) (f:zb) (v:za):Option (List UInt8):=zbA f.Kind>>=fun rv=>if (rv&&f.Repeated) then (zfl fuel f.Kind v.Words>>=fun vV=>zcX fuel f.Number 2 vV>>=fun wa=>some wa) else zbA f.Kind>>=fun rv4=>if rv4 then (zfk f.Kind>>=fun rv5=>idx v.Words 0>>=fun x=>zez fuel f.Kind x>>=fun rv6=>zcX fuel f.Number rv5 rv6>>=fun rv7=>some rv7) else zcD fuel f v [] 0>>=fun q=>zcE fuel f xl sv v q 0>>=fun q2=>some q2
def zU:Nat->((List zd)->Int->zc->Option (List UInt8))×((List zd)->zb->za->Option (List UInt8)) | 0=>(fun _ _ _=>none,fun _ _ _=>none) | fuel+1=>(fun sv root x=>zdM (zU fuel).1 (zU fuel).2 sv root x,fun sv f v=>zeb fuel (zU fuel).1 (zU fuel).2 sv f v)
def zbC (fuel:Nat):(List zd)->Int->zc->Option (List UInt8):=(zU fuel).1
def zdT (fuel:Nat):(List zd)->zb->za->Option (List UInt8):=(zU fuel).2
theorem zkb {xm:(List zd)->zb->za->Option (List UInt8)} {root:Int} {sv:List zd} {x:zc} {out:List UInt8} {i:Int} {out':List UInt8} {i':Int} (h:zaI xm root sv x out i=some (.inl (out',i'))):zcg xm root sv x out i=zcg xm root sv x out' i':=zB (vX:=fun s:((List UInt8)×Int)=>zaI xm root sv x s.1 s.2) h
theorem zkc {xm:(List zd)->zb->za->Option (List UInt8)} {root:Int} {sv:List zd} {x:zc} {out:List UInt8} {i:Int} {vZ:List UInt8} (h:zaI xm root sv x out i=some (.inr vZ)):zcg xm root sv x out i=some vZ:=zA (vX:=fun s:((List UInt8)×Int)=>zaI xm root sv x s.1 s.2) h
theorem zkd {x:zc} {out3:List UInt8} {i2:Int} {out3':List UInt8} {i2':Int} (h:zaJ x out3 i2=some (.inl (out3',i2'))):zch x out3 i2=zch x out3' i2':=zB (vX:=fun s:((List UInt8)×Int)=>zaJ x s.1 s.2) h
theorem zke {x:zc} {out3:List UInt8} {i2:Int} {vZ:List UInt8} (h:zaJ x out3 i2=some (.inr vZ)):zch x out3 i2=some vZ:=zA (vX:=fun s:((List UInt8)×Int)=>zaJ x s.1 s.2) h
theorem zkT {fuel:Nat} {f:zb} {v:za} {out:List UInt8} {i:Int} {out':List UInt8} {i':Int} (h:zbb fuel f v out i=some (.inl (out',i'))):zcD fuel f v out i=zcD fuel f v out' i':=zB (vX:=fun s:((List UInt8)×Int)=>zbb fuel f v s.1 s.2) h
theorem zkU {fuel:Nat} {f:zb} {v:za} {out:List UInt8} {i:Int} {vZ:List UInt8} (h:zbb fuel f v out i=some (.inr vZ)):zcD fuel f v out i=some vZ:=zA (vX:=fun s:((List UInt8)×Int)=>zbb fuel f v s.1 s.2) h
theorem zkV {fuel:Nat} {f:zb} {xl:(List zd)->Int->zc->Option (List UInt8)} {sv:List zd} {v:za} {out3:List UInt8} {i2:Int} {out3':List UInt8} {i2':Int} (h:zbc fuel f xl sv v out3 i2=some (.inl (out3',i2'))):zcE fuel f xl sv v out3 i2=zcE fuel f xl sv v out3' i2':=zB (vX:=fun s:((List UInt8)×Int)=>zbc fuel f xl sv v s.1 s.2) h
theorem zkW {fuel:Nat} {f:zb} {xl:(List zd)->Int->zc->Option (List UInt8)} {sv:List zd} {v:za} {out3:List UInt8} {i2:Int} {vZ:List UInt8} (h:zbc fuel f xl sv v out3 i2=some (.inr vZ)):zcE fuel f xl sv v out3 i2=some vZ:=zA (vX:=fun s:((List UInt8)×Int)=>zbc fuel f xl sv v s.1 s.2) h
def zcl (fuel:Nat) (sv:List zd) (root:Int) (x:zc):Option Bool:=zeH fuel>>=fun rv=>if (!rv) then some false else (zfH sv>>=fun vV=>if (!vV) then some true else zbl fuel x 70>>=fun wa=>some (decide (wa>3000)))>>=fun g=>if g then some true else zcK fuel x>>=fun rv4=>zgI fuel sv root x>>=fun rv5=>zjV fuel sv root x>>=fun rv6=>zfK fuel sv root ([rv4]:List zc)>>=fun rv7=>if (rv7 !=0) then some (((i64.wrap rv5.2)==rv7)&&(((i64.wrap rv6.2)==rv7)&&(((rv5.1.length:Int)==0)&&(rv6.1==0)))) else zbC fuel sv root rv4>>=fun rv8=>(if ((i64.wrap ((i64.wrap rv5.2)+(i64.wrap rv6.2)))==0) then (zff rv5.1 rv8>>=fun rv9=>if rv9 then some (rv6.1==(rv8.length:Int)) else some false) else some false)>>=fun g2=>some g2
end
end Go.Proofs.YtkgohoggipdokaaGreat
