/-
  What the Go functions do, as plain functions. No condition.
-/
import Derived.Test.YtnckiilakdkklaaGreatx1K2
set_option autoImplicit true
set_option relaxedAutoImplicit true
namespace Go.Proofs.YtnckiilakdkklaaGreat
open Go.IntKind (i32 i64 u32 u64 u8)
open Go
set_option linter.unusedVariables false
abbrev Str:=List UInt8
structure zJY where
  a0:Str
  a1:Str
  a2:Str
  a3:Str
  a4:Str
  a5:Str
  a6:Str
  a7:Str
  a8:Str
  a9:Str
  a10:Str
  a11:Str
  a12:Str
  a13:Str
  a14:Str deriving DecidableEq
structure zj where
  Number:Int
  Wire:Int
  From:Int
  At:Int
  To:Int deriving DecidableEq
def zw:Rp zj:=⟨5,true,fun x=>[.int .i64 x.Number,.int .i64 x.Wire,.int .i64 x.From,.int .i64 x.At,.int .i64 x.To],fun _=>rfl,by decide⟩
structure zc where
  Record:zj
  Field:Int
  Run:Bool deriving DecidableEq
def zg:Rp zc:=⟨7,true,fun x=>[.int .i64 x.Record.Number,.int .i64 x.Record.Wire,.int .i64 x.Record.From,.int .i64 x.Record.At,.int .i64 x.Record.To,.int .i64 x.Field,.bool x.Run],fun _=>rfl,by decide⟩
structure zq where
  name:Str
  wire:Int deriving DecidableEq
def zam:Rp zq:=⟨2,true,fun x=>[.str x.name,.int .i64 x.wire],fun _=>rfl,by decide⟩
mutual
structure zb where
  Values:(List za)
  Unknown:(List Str)
structure za where
  Number:Int
  Words:(List Int)
  Texts:(List Str)
  Subs:(List zb)
end
mutual
def zgq:zb->List LV | ⟨x0,x1⟩=>[.sl x0.length 4 (zcP x0),.sl x1.length Rp.str.size (x1.flatMap Rp.str.lv)]
def zfM:List zb->List LV | []=>[] | x::l=>zgq x++zfM l
def zde:za->List LV | ⟨x0,x1,x2,x3⟩=>[.int .i64 x0,.sl x1.length (Rp.int .u64).size (x1.flatMap (Rp.int .u64).lv),.sl x2.length Rp.str.size (x2.flatMap Rp.str.lv),.sl x3.length 2 (zfM x3)]
def zcP:List za->List LV | []=>[] | x::l=>zde x++zcP l
end
theorem zpX (l:List zb):zfM l=l.flatMap zgq:=by
  induction l with
  | nil=>rfl
  | cons x l ih=>rw [zfM,ih,xQ]
def zn:Rp zb:=⟨2,true,zgq,fun x=>by cases x;rfl,by decide⟩
theorem zjF (l:List za):zcP l=l.flatMap zde:=by
  induction l with
  | nil=>rfl
  | cons x l ih=>rw [zcP,ih,xQ]
def zh:Rp za:=⟨4,true,zde,fun x=>by cases x;rfl,by decide⟩
theorem zT (x:zb):zn.lv x=[.sl x.Values.length zh.size (x.Values.flatMap zh.lv),.sl x.Unknown.length Rp.str.size (x.Unknown.flatMap Rp.str.lv)]:=by
  cases x;simp only [zn,zgq,zjF,zh]<;>rfl
theorem zI (x:za):zh.lv x=[.int .i64 x.Number,.sl x.Words.length (Rp.int .u64).size (x.Words.flatMap (Rp.int .u64).lv),.sl x.Texts.length Rp.str.size (x.Texts.flatMap Rp.str.lv),.sl x.Subs.length zn.size (x.Subs.flatMap zn.lv)]:=by
  cases x;simp only [zh,zde,zpX,zn]<;>rfl
structure zd where
  Name:Str
  Number:Int
  Kind:Int
  Repeated:Bool
  Packed:Bool
  Of:Int deriving DecidableEq
def zf:Rp zd:=⟨6,true,fun x=>[.str x.Name,.int .i64 x.Number,.int .i64 x.Kind,.bool x.Repeated,.bool x.Packed,.int .i64 x.Of],fun _=>rfl,by decide⟩
structure ze where
  Name:Str
  Fields:(List zd) deriving DecidableEq
def zi:Rp ze:=⟨2,true,fun x=>[.str x.Name,.sl x.Fields.length zf.size (x.Fields.flatMap zf.lv)],fun _=>rfl,by decide⟩
structure zaH where
  Number:Int
  Wire:Int deriving DecidableEq
def zeY:Rp zaH:=⟨2,true,fun x=>[.int .i64 x.Number,.int .i64 x.Wire],fun _=>rfl,by decide⟩
structure zr where
  message:Int
  name:Str deriving DecidableEq
def zB:Rp zr:=⟨2,true,fun x=>[.int .i64 x.message,.str x.name],fun _=>rfl,by decide⟩
structure zt where
  message:Int
  number:Int deriving DecidableEq
def zC:Rp zt:=⟨2,true,fun x=>[.int .i64 x.message,.int .i64 x.number],fun _=>rfl,by decide⟩
structure zar where
  size:Int
  kinds:(List Int)
  names:(List (zr×Bool))
  numbers:(List (zt×Bool))
structure zaq where
  Message:Int
  Field:Int
  What:Int deriving DecidableEq
def zdI:Rp zaq:=⟨3,true,fun x=>[.int .i64 x.Message,.int .i64 x.Field,.int .i64 x.What],fun _=>rfl,by decide⟩
structure zM where
  number:Int
  wire:Int deriving DecidableEq
def zW:Rp zM:=⟨2,true,fun x=>[.int .i64 x.number,.int .i64 x.wire],fun _=>rfl,by decide⟩
structure zP where
  field:Int
  run:Bool
  e:Int deriving DecidableEq
def zZ:Rp zP:=⟨3,true,fun x=>[.int .i64 x.field,.bool x.run,.int .u8 x.e],fun _=>rfl,by decide⟩
structure zD where
  R:zj
  Field:Int
  Run:Bool deriving DecidableEq
def zan:Rp zD:=⟨7,true,fun x=>[.int .i64 x.R.Number,.int .i64 x.R.Wire,.int .i64 x.R.From,.int .i64 x.R.At,.int .i64 x.R.To,.int .i64 x.Field,.bool x.Run],fun _=>rfl,by decide⟩
structure zk where
  message:Int
  number:Int
  wire:Int deriving DecidableEq
def zm:Rp zk:=⟨3,true,fun x=>[.int .i64 x.message,.int .i64 x.number,.int .i64 x.wire],fun _=>rfl,by decide⟩
structure zae where
  s:(List ze)
  b:(List UInt8)
  met:(List (zk×zc))
structure zu where
  depth:Int
  place:Int
  e:Int deriving DecidableEq
def zaj:Rp zu:=⟨3,true,fun x=>[.int .i64 x.depth,.int .i64 x.place,.int .u8 x.e],fun _=>rfl,by decide⟩
structure zJZ where
  a0:Int
  a1:Int deriving DecidableEq
structure zGD where
  pieces:(List (List UInt8))
  size:Int deriving DecidableEq
noncomputable section
def zcq (n:Int):Option (List UInt8):=if (decide (n<0)) then none else if (decide ((i64.wrap (n - (i64.wrap (0 - 0))))>0)) then (mkO 1 (0:UInt8) (i64.wrap (n - (i64.wrap (0 - 0)))) (i64.wrap (n - (i64.wrap (0 - 0))))>>=fun v=>cut v 0 0>>=fun v2=>some v2) else some []
def zat (wK:List (List UInt8)) (size:Int) (v:Int):Option ((Int×Int)⊕Int):=if (decide (v<(wK.length:Int))) then (idx wK v>>=fun x=>if (decide ((i64.wrap (size+(x.length:Int)))<0)) then none else some (.inl ((i64.wrap (size+(x.length:Int))),(i64.wrap (v+1))))) else some (.inr size)
def zaE (wK:List (List UInt8)) (size:Int) (v:Int):Option Int:=zac (fun s=>zat wK s.1 s.2) (size,v)
def zau (wK:List (List UInt8)) (wO:List UInt8) (v2:Int):Option (((List UInt8)×Int)⊕(List UInt8)):=if (decide (v2<(wK.length:Int))) then (idx wK v2>>=fun x2=>app 1 wO x2>>=fun v3=>some (.inl (v3,(i64.wrap (v2+1))))) else some (.inr wO)
def zaF (wK:List (List UInt8)) (wO:List UInt8) (v2:Int):Option (List UInt8):=zac (fun s=>zau wK s.1 s.2) (wO,v2)
def zbe (wK:List (List UInt8)):Option (List UInt8):=zaE wK 0 0>>=fun q=>zcq q>>=fun rv=>zaF wK rv 0>>=fun q2=>some q2
theorem zhJ (h:zat wK size v=some (.inl (size',v'))):zaE wK size v=zaE wK size' v':=zE h
theorem zhK (h:zat wK size v=some (.inr wx)):zaE wK size v=some wx:=zF h
theorem zhL (h:zau wK wO v2=some (.inl (newslice',v2'))):zaF wK wO v2=zaF wK newslice' v2':=zE h
theorem zhM (h:zau wK wO v2=some (.inr wx)):zaF wK wO v2=some wx:=zF h
def zaA (sv:List Int) (v:Int) (v2:Int):Option (Int⊕(Unit⊕Int)):=if (decide (v2<(sv.length:Int))) then (idx sv v2>>=fun x=>if (v==x) then some (.inr (.inr v2)) else some (.inl (i64.wrap (v2+1)))) else some (.inr (.inl ()))
def zbf (sv:List Int) (v:Int) (v2:Int):Option (Unit⊕Int):=zac (fun s=>zaA sv v s) v2
def zcO (sv:List Int) (v:Int):Option Int:=zbf sv v 0>>=fun q=>match q with | .inl u=>(some (-1)) | .inr u2=>(some u2)
theorem ziH (h:zaA sv v v2=some (.inl v2')):zbf sv v v2=zbf sv v v2':=zE h
theorem zfx (h:zaA sv v v2=some (.inr wx)):zbf sv v v2=some wx:=zF h
def zbR (sv:List Int) (v:Int):Option Bool:=zcO sv v>>=fun rv=>some (decide (rv>=0))
def zgt (wv2:Int) (n:Int):Option ((Int×Int)⊕Int):=if (wv2 !=0) then some (.inl ((shrI .u64 wv2 7),(i64.wrap (n+1)))) else some (.inr n)
def zhn (wv2:Int) (n:Int):Option Int:=zac (fun s=>zgt s.1 s.2) (wv2,n)
def znK (wv:Int):Option Int:=zhn (shrI .u64 wv 7) 1>>=fun q=>some q
theorem ztg (h:zgt wv2 n=some (.inl (wv2',n'))):zhn wv2 n=zhn wv2' n':=zE h
theorem zth (h:zgt wv2 n=some (.inr wx)):zhn wv2 n=some wx:=zF h
def zir (wv:Int):Option Int:=some (u32.wrap wv)
def ziQ (wv:Int):Option Int:=zir wv>>=fun rv=>some (i32.wrap rv)
def ziR (n:Int):Option Int:=some (u64.wrap (i64.wrap n))
def zfG (v:List UInt8) (wv:Int) (v2:Int):Option ((Int×Int)⊕Int):=if (decide (v2<(v.length:Int))) then (idx v v2>>=fun x=>shlO .u64 (u64.wrap (x.toNat:Int)) (i64.wrap (8*v2))>>=fun v3=>some (.inl ((orI .u64 wv v3),(i64.wrap (v2+1))))) else some (.inr wv)
def zgJ (v:List UInt8) (wv:Int) (v2:Int):Option Int:=zac (fun s=>zfG v s.1 s.2) (wv,v2)
def zlI (b:List UInt8):Option Int:=cut b 0 (if (8:Int)<(b.length:Int) then 8 else (b.length:Int))>>=fun v=>zgJ v 0 0>>=fun q=>some q
theorem zrG (h:zfG v wv v2=some (.inl (wv',v2'))):zgJ v wv v2=zgJ v wv' v2':=zE h
theorem zrH (h:zfG v wv v2=some (.inr wx)):zgJ v wv v2=some wx:=zF h
def zgo (av:List UInt8) (b:List UInt8):Option Bool:=some (av==b)
def zbF (b:List UInt8) (wv:Int) (place:Int) (i:Int):Option ((Int×Int×Int)⊕Int):=if ((decide (i<(b.length:Int)))&&(decide (i<8))) then (idx b i>>=fun x=>some (.inl ((u64.wrap (wv+(u64.wrap ((u64.wrap (x.toNat:Int))*place)))),(u64.wrap (place*256)),(i64.wrap (i+1))))) else some (.inr wv)
def zcC (b:List UInt8) (wv:Int) (place:Int) (i:Int):Option Int:=zac (fun s=>zbF b s.1 s.2.1 s.2.2) (wv,place,i)
def zeN (b:List UInt8):Option Int:=zcC b 0 1 0>>=fun q=>some q
theorem zll {b:List UInt8} {wv:Int} {place:Int} {i:Int} {wv':Int} {place':Int} {i':Int} (h:zbF b wv place i=some (.inl (wv',place',i'))):zcC b wv place i=zcC b wv' place' i':=zE h
theorem zlm {b:List UInt8} {wv:Int} {place:Int} {i:Int} {wx:Int} (h:zbF b wv place i=some (.inr wx)):zcC b wv place i=some wx:=zF h
def zdX (wv:Int):Option Int:=if (decide ((i64.wrap (Int.tmod wv 4294967296))>=2147483648)) then some (i64.wrap ((i64.wrap (Int.tmod wv 4294967296)) - 4294967296)) else some (i64.wrap (Int.tmod wv 4294967296))
def zeM (n:Int):Option Int:=if (decide (n>=0)) then some (u64.wrap n) else some (u64.wrap (18446744073709551615 - (u64.wrap (i64.wrap (0 - (i64.wrap (n+1)))))))
def zdN (v:List UInt8) (wv:Int) (v2:Int):Option ((Int×Int)⊕(Unit⊕(Int×Int×Int))):=if (decide (v2<(v.length:Int))) then (idx v v2>>=fun x=>if ((v2==9)&&(decide ((x.toNat:Int)>1))) then some (.inr (.inr (0,0,4))) else shlO .u64 (u64.wrap (andI .u8 (x.toNat:Int) 127)) (i64.wrap (7*v2))>>=fun v4=>if (decide ((x.toNat:Int)<128)) then some (.inr (.inr ((orI .u64 wv v4),(i64.wrap (v2+1)),0))) else some (.inl ((orI .u64 wv v4),(i64.wrap (v2+1))))) else some (.inr (.inl ()))
def zfy (v:List UInt8) (wv:Int) (v2:Int):Option (Unit⊕(Int×Int×Int)):=zac (fun s=>zdN v s.1 s.2) (wv,v2)
def zfF (b:List UInt8):Option (Int×Int×Int):=cut b 0 (if (10:Int)<(b.length:Int) then 10 else (b.length:Int))>>=fun v=>zfy v 0 0>>=fun q=>match q with | .inl u=>(some (0,0,3)) | .inr u2=>(some (u2.1,u2.2.1,u2.2.2))
theorem zqr (h:zdN v wv v2=some (.inl (wv',v2'))):zfy v wv v2=zfy v wv' v2':=zE h
theorem zhm (h:zdN v wv v2=some (.inr wx)):zfy v wv v2=some wx:=zF h
def zbg (wu:Int) (b:List UInt8) (n:Int):Option (Int⊕Int):=(if (decide ((i64.wrap (wu+n))<(b.length:Int))) then (if (decide (n<10)) then (idx b (i64.wrap (wu+n))>>=fun x=>some (decide ((x.toNat:Int)>=128))) else some false) else some false)>>=fun g=>if g then some (.inl (i64.wrap (n+1))) else some (.inr n)
def zcD (wu:Int) (b:List UInt8) (n:Int):Option Int:=zac (fun s=>zbg wu b s) n
def zbG (wu:Int) (b:List UInt8) (wv:Int) (i:Int):Option ((Int×Int)⊕Int):=if (decide (i>=0)) then (idx b (i64.wrap (wu+i))>>=fun x3=>some (.inl ((u64.wrap ((u64.wrap (128*wv))+(u64.wrap (Int.tmod (x3.toNat:Int) 128)))),(i64.wrap (i - 1))))) else some (.inr wv)
def zcE (wu:Int) (b:List UInt8) (wv:Int) (i:Int):Option Int:=zac (fun s=>zbG wu b s.1 s.2) (wv,i)
def zax (b:List UInt8) (wu:Int):Option (Int×Int×Int):=zcD wu b 0>>=fun q=>if (q==10) then some (0,0,4) else if ((i64.wrap (wu+q))==(b.length:Int)) then some (0,0,3) else (if (q==9) then (idx b (i64.wrap (wu+q))>>=fun x2=>some (decide ((x2.toNat:Int)>1))) else some false)>>=fun g2=>if g2 then some (0,0,4) else zcE wu b 0 q>>=fun q2=>some (q2,(i64.wrap (q+1)),0)
theorem zln (h:zbg wu b n=some (.inl n')):zcD wu b n=zcD wu b n':=zE h
theorem zfa (h:zbg wu b n=some (.inr wx)):zcD wu b n=some wx:=zF h
theorem zlo (h:zbG wu b wv i=some (.inl (wv',i'))):zcE wu b wv i=zcE wu b wv' i':=zE h
theorem zlp (h:zbG wu b wv i=some (.inr wx)):zcE wu b wv i=some wx:=zF h
def zhG (b:List UInt8):Option (Int×Int):=zfF b>>=fun rv=>some (rv.2.1,rv.2.2)
def zhh (wire:Int):Option Bool:=if (wire==0) then if (wire==0) then some true else (some false) else if (wire==1) then if (wire==1) then some true else (some false) else if (wire==2) then if (wire==2) then some true else (some false) else if (wire==5) then some true else some false
def zmg (t:zaH):Option Bool:=(if (decide (t.Number>=1)) then (if (decide (t.Number<=536870911)) then (zhh t.Wire>>=fun rv=>some rv) else some false) else some false)>>=fun g=>some g
def zoC (b:List UInt8):Option (zaH×Int×Int):=zfF b>>=fun rv=>if (rv.2.2 !=0) then some ((⟨0,0⟩:zaH),0,rv.2.2) else (zmg (⟨(i64.wrap (if (536870912:Int)<(shrI .u64 rv.1 3) then 536870912 else shrI .u64 rv.1 3)),(i64.wrap (andI .u64 rv.1 7))⟩:zaH)>>=fun wo=>if (!wo) then some ((⟨0,0⟩:zaH),0,5) else (some ((⟨(i64.wrap (if (536870912:Int)<(shrI .u64 rv.1 3) then 536870912 else shrI .u64 rv.1 3)),(i64.wrap (andI .u64 rv.1 7))⟩:zaH),rv.2.1,0)))
def zel (number:Int) (wire:Int):Option Bool:=some ((decide (number>=1))&&((decide (number<=536870911))&&((wire==0)|| ((wire==1)|| ((wire==2)|| (wire==5))))))
def zeO (b:List UInt8) (wu:Int):Option (Int×Int×Int×Int):=zax b wu>>=fun rv=>if (rv.2.2 !=0) then some (0,0,0,rv.2.2) else (if (decide (rv.1>4294967295)) then some true else zel (i64.wrap (u64.wrap (Int.tdiv rv.1 8))) (i64.wrap (Int.tmod rv.1 8))>>=fun wo=>some (!wo))>>=fun g=>if g then some (0,0,0,5) else some ((i64.wrap (u64.wrap (Int.tdiv rv.1 8))),(i64.wrap (Int.tmod rv.1 8)),rv.2.1,0)
def zrx (c:Int):Option (Int×Int):=if ((shrI .u8 c 7)==0) then some (1,(u32.wrap c)) else if ((shrI .u8 c 5)==6) then some (2,(u32.wrap (andI .u8 c 31))) else if ((shrI .u8 c 4)==14) then some (3,(u32.wrap (andI .u8 c 15))) else if ((shrI .u8 c 3)==30) then some (4,(u32.wrap (andI .u8 c 7))) else some (0,0)
def zml (wv:Int):Option Int:=if ((shrI .u32 wv 7)==0) then some 1 else if ((shrI .u32 wv 11)==0) then some 2 else if ((shrI .u32 wv 11)==27) then some 0 else if ((shrI .u32 wv 16)==0) then some 3 else if (decide (wv<=1114111)) then some 4 else some 0
def zfE (v2:List UInt8) (wv:Int) (v3:Int):Option ((Int×Int)⊕(Int⊕Unit)):=if (decide (v3<(v2.length:Int))) then (idx v2 v3>>=fun x2=>if ((shrI .u8 (x2.toNat:Int) 6) !=2) then some (.inr (.inr ())) else some (.inl ((orI .u32 (shlI .u32 wv 6) (u32.wrap (andI .u8 (x2.toNat:Int) 63))),(i64.wrap (v3+1))))) else some (.inr (.inl wv))
def zcj (v2:List UInt8) (wv:Int) (v3:Int):Option (Int⊕Unit):=zac (fun s=>zfE v2 s.1 s.2) (wv,v3)
def zmk (b:List UInt8):Option Int:=if ((b.length:Int)==0) then some 0 else (idx b 0>>=fun x=>zrx (x.toNat:Int)>>=fun rv=>if ((rv.1==0)|| (decide (rv.1>(b.length:Int)))) then some 0 else (cut b 1 rv.1>>=fun v2=>zcj v2 rv.2 0>>=fun q=>match q with | .inl u=>(zml u>>=fun wo=>if (rv.1 !=wo) then some 0 else some rv.1) | .inr u2=>(some 0)))
theorem zto (h:zfE v2 wv v3=some (.inl (wv',v3'))):zcj v2 wv v3=zcj v2 wv' v3':=zE h
theorem zni (h:zfE v2 wv v3=some (.inr wx)):zcj v2 wv v3=some wx:=zF h
def zgF (b:List UInt8) (wu:Int) (points:Int) (size:Int):Option ((Int×Int×Int)⊕(Int×Int)):=if (decide (size>0)) then (cut b (i64.wrap (wu+size)) (b.length:Int)>>=fun v=>zmk v>>=fun wo=>some (.inl ((i64.wrap (wu+size)),(i64.wrap (points+1)),wo))) else some (.inr (wu,points))
def zgG (b:List UInt8) (wu:Int) (points:Int) (size:Int):Option (Int×Int):=zac (fun s=>zgF b s.1 s.2.1 s.2.2) (wu,points,size)
def zoG (b:List UInt8):Option (Int×Int):=zmk b>>=fun rv=>zgG b 0 0 rv>>=fun q=>some (q.1,q.2)
theorem ztp (h:zgF b wu points size=some (.inl (atv',points',size'))):zgG b wu points size=zgG b atv' points' size':=zE h
theorem ztq (h:zgF b wu points size=some (.inr wx)):zgG b wu points size=some wx:=zF h
def zmi (b:List UInt8):Option Int:=zoG b>>=fun rv=>some rv.1
def zmj (b:List UInt8):Option Bool:=zmi b>>=fun rv=>some (rv==(b.length:Int))
def zfn (rv:Int):Option (List UInt8):=if ((decide (rv<0))|| ((decide (rv>1114111))|| ((decide (rv>=55296))&&(decide (rv<=57343))))) then some [] else if (decide (rv<128)) then (zju (u8.wrap rv)>>=fun y=>some ([y]:List UInt8)) else if (decide (rv<2048)) then (zju (u8.wrap (i64.wrap (192+(i64.wrap (Int.tdiv rv 64)))))>>=fun y2=>zju (u8.wrap (i64.wrap (128+(Int.tmod rv 64))))>>=fun y3=>some ([y2,y3]:List UInt8)) else if (decide (rv<65536)) then (zju (u8.wrap (i64.wrap (224+(i64.wrap (Int.tdiv rv 4096)))))>>=fun y4=>zju (u8.wrap (i64.wrap (128+(Int.tmod (i64.wrap (Int.tdiv rv 64)) 64))))>>=fun y5=>zju (u8.wrap (i64.wrap (128+(Int.tmod rv 64))))>>=fun y6=>some ([y4,y5,y6]:List UInt8)) else zju (u8.wrap (i64.wrap (240+(i64.wrap (Int.tdiv rv 262144)))))>>=fun y7=>zju (u8.wrap (i64.wrap (128+(Int.tmod (i64.wrap (Int.tdiv rv 4096)) 64))))>>=fun y8=>zju (u8.wrap (i64.wrap (128+(Int.tmod (i64.wrap (Int.tdiv rv 64)) 64))))>>=fun y9=>zju (u8.wrap (i64.wrap (128+(Int.tmod rv 64))))>>=fun y10=>some ([y7,y8,y9,y10]:List UInt8)
def zbH (wu:Int) (b:List UInt8) (n:Int) (wo:Int) (i:Int):Option ((Int×Int)⊕Int):=if (decide (i<n)) then (idx b (i64.wrap (wu+i))>>=fun x3=>some (.inl ((i64.wrap ((i64.wrap (64*wo))+(Int.tmod (i64.wrap (x3.toNat:Int)) 64))),(i64.wrap (i+1))))) else some (.inr wo)
def zaP (wu:Int) (b:List UInt8) (n:Int) (wo:Int) (i:Int):Option Int:=zac (fun s=>zbH wu b n s.1 s.2) (wo,i)
def zcG (wu:Int) (b:List UInt8) (n:Int):Option (Int⊕(Unit⊕Int)):=if ((decide (n<=4))&&(decide ((i64.wrap (wu+n))<=(b.length:Int)))) then (idx b wu>>=fun x=>((if (decide (n>1)) then (idx ([0,0,32,16,8]:List Int) n>>=fun x2=>remI (i64.wrap (x.toNat:Int)) x2>>=fun v3=>some v3) else (some (i64.wrap (x.toNat:Int))) :Option Int))>>=fun p=>zaP wu b n p 1>>=fun q=>zfn q>>=fun rv4=>cut b wu (i64.wrap (wu+n))>>=fun v4=>if (rv4==v4) then some (.inr (.inr n)) else some (.inl (i64.wrap (n+1)))) else some (.inr (.inl ()))
def zcH (wu:Int) (b:List UInt8) (n:Int):Option (Unit⊕Int):=zac (fun s=>zcG wu b s) n
def zeP (b:List UInt8) (wu:Int):Option Int:=zcH wu b 1>>=fun q2=>match q2 with | .inl u=>(some 0) | .inr u2=>(some u2)
theorem zlr (h:zbH wu b n wo i=some (.inl (rv2',i'))):zaP wu b n wo i=zaP wu b n rv2' i':=zE h
theorem zls (h:zbH wu b n wo i=some (.inr wx)):zaP wu b n wo i=some wx:=zF h
theorem zlq (h:zcG wu b n=some (.inl n')):zcH wu b n=zcH wu b n':=zE h
theorem zfb (h:zcG wu b n=some (.inr wx)):zcH wu b n=some wx:=zF h
def zbs (b:List UInt8) (most:Int) (wu:Int) (count:Int):Option ((Int×Int)⊕(Int×Int)):=zeP b wu>>=fun rv=>if ((rv==0)|| (decide ((i64.wrap (wu+rv))>most))) then some (.inr (wu,count)) else some (.inl ((i64.wrap (wu+rv)),(i64.wrap (count+1))))
def zbt (b:List UInt8) (most:Int) (wu:Int) (count:Int):Option (Int×Int):=zac (fun s=>zbs b most s.1 s.2) (wu,count)
def zem (b:List UInt8) (most:Int):Option (Int×Int):=zbt b most 0 0>>=fun q=>some (q.1,q.2)
theorem zkC (h:zbs b most wu count=some (.inl (atv',count'))):zbt b most wu count=zbt b most atv' count':=zE h
theorem zkD (h:zbs b most wu count=some (.inr wx)):zbt b most wu count=some wx:=zF h
def zcx (b:List UInt8):Option Bool:=zem b (b.length:Int)>>=fun rv=>some (rv.1==(b.length:Int))
def zjf (wire:Int) (b:List UInt8):Option (Int×Int×Int):=if (wire==0) then (zhG b>>=fun rv=>some (0,rv.1,rv.2)) else (((if (wire==1) then some (0,0,8) else (if (wire==5) then some (0,0,4) else if (wire==2) then (zfF b>>=fun wo=>some (wo.2.1,wo.2.2,wo.1)) else some (0,0,0)) :Option (Int×Int×Int)))>>=fun p=>if (p.2.1 !=0) then some (0,0,p.2.1) else if (decide (p.2.2>(u64.wrap (i64.wrap ((b.length:Int) - p.1))))) then some (0,0,3) else some (p.1,(i64.wrap (p.1+(i64.wrap p.2.2))),0))
def zhC (b:List UInt8) (wG:Int):Option (zj×Int):=if ((decide (wG<0))|| (decide (wG>=(b.length:Int)))) then some ((⟨0,0,0,0,0⟩:zj),2) else (cut b wG (b.length:Int)>>=fun v2=>zoC v2>>=fun rv=>if (rv.2.2 !=0) then some ((⟨0,0,0,0,0⟩:zj),rv.2.2) else (cut b (i64.wrap (wG+rv.2.1)) (b.length:Int)>>=fun v3=>zjf rv.1.Wire v3>>=fun wo=>if (wo.2.2 !=0) then some ((⟨0,0,0,0,0⟩:zj),wo.2.2) else (some ((⟨rv.1.Number,rv.1.Wire,wG,(i64.wrap ((i64.wrap (wG+rv.2.1))+wo.1)),(i64.wrap ((i64.wrap (wG+rv.2.1))+wo.2.1))⟩:zj),0))))
def zeQ (wire:Int) (value:List UInt8):Option Bool:=if (wire==0) then (zax value 0>>=fun rv=>some ((rv.2.2==0)&&(rv.2.1==(value.length:Int)))) else (some ((wire==2)|| (if (wire==1) then ((value.length:Int)==8)|| ((wire==5)&&((value.length:Int)==4)) else (wire==5)&&((value.length:Int)==4))))
def zdO (b:List UInt8) (wG:Int):Option (zj×Int):=if ((decide (wG<0))|| (decide (wG>=(b.length:Int)))) then some ((⟨0,0,0,0,0⟩:zj),2) else (zeO b wG>>=fun rv=>if (rv.2.2.2 !=0) then some ((⟨0,0,0,0,0⟩:zj),rv.2.2.2) else (((if (rv.2.1==5) then some 4 else (some 8) :Option Int))>>=fun p=>((if (rv.2.1==0) then (zax b (i64.wrap (wG+rv.2.2.1))>>=fun wo=>if (wo.2.2 !=0) then some (.inr wo.2.2) else some (.inl wo.2.1)) else (some (.inl p)) :Option (Int⊕Int)))>>=fun p2=>match p2 with | .inl u=>(((if (rv.2.1==2) then (zax b (i64.wrap (wG+rv.2.2.1))>>=fun wy=>if (wy.2.2 !=0) then some (.inr wy.2.2) else if (decide (wy.1>(u64.wrap (i64.wrap ((i64.wrap ((b.length:Int) - (i64.wrap (wG+rv.2.2.1)))) - wy.2.1))))) then some (.inr 3) else some (.inl ((i64.wrap ((i64.wrap ((b.length:Int) - (i64.wrap (wG+rv.2.2.1)))) - wy.2.1)),(i64.wrap wy.1),(i64.wrap ((i64.wrap (wG+rv.2.2.1))+wy.2.1))))) else (some (.inl ((i64.wrap ((b.length:Int) - (i64.wrap (wG+rv.2.2.1)))),u,(i64.wrap (wG+rv.2.2.1))))) :Option ((Int×Int×Int)⊕Int)))>>=fun p3=>match p3 with | .inl u2=>(if (decide (u2.2.1>u2.1)) then some ((⟨0,0,0,0,0⟩:zj),3) else some ((⟨rv.1,rv.2.1,wG,u2.2.2,(i64.wrap (u2.2.2+u2.2.1))⟩:zj),0)) | .inr u3=>(some ((⟨0,0,0,0,0⟩:zj),u3))) | .inr u4=>(some ((⟨0,0,0,0,0⟩:zj),u4))))
def zmI (wv:Int):Option Int:=some (if (1:Int)<wv then 1 else wv)
def ziz (k:Int) (wv:Int):Option (Int×Int):=((if (k==1) then some (k==1) else (some (k==8)) :Option Bool))>>=fun p=>if p then (ziQ wv>>=fun rv=>ziR rv>>=fun wo=>some (wo,0)) else ((if (k==3) then some (k==3) else (if (k==5) then some (k==5) else if (k==9) then some (k==9) else if (k==10) then some (k==10) else some (k==11)) :Option Bool))>>=fun p2=>if p2 then (zir wv>>=fun wy=>some ((u64.wrap wy),0)) else if (k==7) then (zmI wv>>=fun rv4=>some (rv4,0)) else ((if (k==2) then some (k==2) else (if (k==4) then some (k==4) else if (k==6) then some (k==6) else if (k==12) then some (k==12) else if (k==13) then some (k==13) else some (k==14)) :Option Bool))>>=fun p3=>if p3 then some (wv,0) else some (0,2)
def zke:Option (List (Int×zq)):=some (mput (mput (mput (mput (mput (mput (mput (mput (mput (mput (mput (mput (mput (mput (mput (mput (mput ([]:List (Int×zq)) 1 (⟨[105,110,116,51,50],0⟩:zq)) 2 (⟨[105,110,116,54,52],0⟩:zq)) 3 (⟨[117,105,110,116,51,50],0⟩:zq)) 4 (⟨[117,105,110,116,54,52],0⟩:zq)) 5 (⟨[115,105,110,116,51,50],0⟩:zq)) 6 (⟨[115,105,110,116,54,52],0⟩:zq)) 7 (⟨[98,111,111,108],0⟩:zq)) 8 (⟨[101,110,117,109],0⟩:zq)) 9 (⟨[102,105,120,101,100,51,50],5⟩:zq)) 10 (⟨[115,102,105,120,101,100,51,50],5⟩:zq)) 11 (⟨[102,108,111,97,116],5⟩:zq)) 12 (⟨[102,105,120,101,100,54,52],1⟩:zq)) 13 (⟨[115,102,105,120,101,100,54,52],1⟩:zq)) 14 (⟨[100,111,117,98,108,101],1⟩:zq)) 15 (⟨[115,116,114,105,110,103],2⟩:zq)) 16 (⟨[98,121,116,101,115],2⟩:zq)) 17 (⟨[109,101,115,115,97,103,101],2⟩:zq))
def zod:Option (List Int):=zke>>=fun rv=>zqI rv>>=fun v=>some v
def zjM (k:Int):Option (Int×Int):=zke>>=fun rv=>if (!(mget rv k).isSome) then some (0,2) else some (((mget rv k).getD (⟨[],0⟩:zq)).wire,0)
def zdz (k:Int):Option Bool:=some ((decide (k>=1))&&(decide (k<=17)))
def zhu (k:Int):Option Bool:=zjM k>>=fun rv=>some ((rv.2==0)&&(rv.1 !=2))
def zcY (k:Int):Option Int:=if (decide (k>=15)) then some 2 else if (decide (k>=12)) then some 1 else if (decide (k>=9)) then some 5 else some 0
def zba (k:Int):Option Bool:=some ((decide (k>=1))&&(decide (k<=14)))
def zdy (k:Int) (wv:Int):Option Int:=((if (k==1) then some (k==1) else (some (k==8)) :Option Bool))>>=fun p=>if p then (zdX wv>>=fun rv=>zeM rv>>=fun wo=>some wo) else ((if (k==3) then some (k==3) else (if (k==5) then some (k==5) else if (k==9) then some (k==9) else if (k==10) then some (k==10) else some (k==11)) :Option Bool))>>=fun p2=>if p2 then some (Int.tmod wv 4294967296) else if (k==7) then if (decide (wv>0)) then some 1 else (some 0) else some wv
def zfw (c:Int):Option Bool:=some ((decide (c>=48))&&(decide (c<=57)))
def zfU (c:Int):Option Bool:=some (if (decide (c>=97)) then (decide (c<=122))|| (if (decide (c>=65)) then (decide (c<=90))|| (c==95) else c==95) else (if (decide (c>=65)) then (decide (c<=90))|| (c==95) else c==95))
def zdF (name:Str) (v2:Int):Option (Int⊕(Unit⊕Unit)):=if (decide (v2<(name.length:Int))) then ((idx name v2>>=fun c2=>zfU (c2.toNat:Int)>>=fun wo=>if (!wo) then (idx name v2>>=fun c3=>zfw (c3.toNat:Int)>>=fun wy=>some (!wy)) else some false)>>=fun g2=>if g2 then some (.inr (.inr ())) else some (.inl (i64.wrap (v2+1)))) else some (.inr (.inl ()))
def zei (name:Str) (v2:Int):Option (Unit⊕Unit):=zac (fun s=>zdF name s) v2
def zgf (name:Str):Option Bool:=(if (name==[]) then some true else if (decide ((name.length:Int)>60)) then some true else idx name 0>>=fun c=>zfw (c.toNat:Int)>>=fun rv=>some rv)>>=fun g=>if g then some false else (zei name 0>>=fun q=>match q with | .inl u=>(some true) | .inr u2=>(some false))
theorem zoz (h:zdF name v2=some (.inl v2')):zei name v2=zei name v2':=zE h
theorem zji (h:zdF name v2=some (.inr wx)):zei name v2=some wx:=zF h
def zfV (n:Int):Option Bool:=some ((decide (n>=1))&&((decide (n<=536870911))&&((decide (n<19000))|| (decide (n>19999)))))
def zgC (f:zd):Option Bool:=(if f.Repeated then (zhu f.Kind>>=fun rv=>some rv) else some false)>>=fun g=>some g
def zev (c:zar) (f:zd):Option Bool:=if (f.Kind==17) then some ((decide (f.Of>=0))&&(decide (f.Of<c.size))) else some (f.Of==0)
def zeu (c:zar) (message:Int) (f:zd):Option (Int×(List (zr×Bool))×(List (zt×Bool))):=zgf f.Name>>=fun rv=>if (!rv) then some (5,c.names,c.numbers) else if ((mget c.names (⟨message,f.Name⟩:zr)).getD false) then some (6,c.names,c.numbers) else zfV f.Number>>=fun wo=>if (!wo) then some (7,c.names,c.numbers) else if ((mget c.numbers (⟨message,f.Number⟩:zt)).getD false) then some (8,c.names,c.numbers) else zbR c.kinds f.Kind>>=fun wy=>if (!wy) then some (9,c.names,c.numbers) else (if f.Packed then (zgC f>>=fun rv4=>some (!rv4)) else some false)>>=fun g=>if g then some (10,c.names,c.numbers) else zev c f>>=fun rv5=>if (!rv5) then some (11,c.names,c.numbers) else some (0,(mput c.names (⟨message,f.Name⟩:zr) true),(mput c.numbers (⟨message,f.Number⟩:zt) true))
def zdK (c:zar) (m:ze):Option (Int×(List (zr×Bool))×(List (zt×Bool))):=zgf m.Name>>=fun rv=>if (!rv) then some (2,c.names,c.numbers) else if ((mget c.names (⟨(-1),m.Name⟩:zr)).getD false) then some (3,c.names,c.numbers) else if (decide ((m.Fields.length:Int)>200)) then some (4,c.names,c.numbers) else some (0,(mput c.names (⟨(-1),m.Name⟩:zr) true),c.numbers)
def zcd (i:Int) (sv:List ze) (n3:Int) (k:Int):Option ((Int×Int)⊕Int):=idx sv i>>=fun x3=>if (decide (k<(x3.Fields.length:Int))) then (idx sv i>>=fun x4=>idx x4.Fields k>>=fun x5=>some (.inl ((i64.wrap (n3+(i64.wrap (Int.tdiv (x5.Name.length:Int) 100)))),(i64.wrap (k+1))))) else some (.inr n3)
def zdh (i:Int) (sv:List ze) (n3:Int) (k:Int):Option Int:=zac (fun s=>zcd i sv s.1 s.2) (n3,k)
def zcc (sv:List ze) (n:Int) (i:Int):Option ((Int×Int)⊕Int):=if (decide (i<(sv.length:Int))) then (idx sv i>>=fun x=>idx sv i>>=fun x2=>zdh i sv (i64.wrap ((i64.wrap ((i64.wrap (n+1))+(i64.wrap (Int.tdiv (x.Name.length:Int) 100))))+(x2.Fields.length:Int))) 0>>=fun q=>some (.inl (q,(i64.wrap (i+1))))) else some (.inr n)
def zdg (sv:List ze) (n:Int) (i:Int):Option Int:=zac (fun s=>zcc sv s.1 s.2) (n,i)
def zfm (sv:List ze):Option Bool:=zdg sv 0 0>>=fun q2=>some (decide (q2<=500))
theorem zlL (h:zcd i sv n3 k=some (.inl (n3',k'))):zdh i sv n3 k=zdh i sv n3' k':=zE h
theorem zlM (h:zcd i sv n3 k=some (.inr wx)):zdh i sv n3 k=some wx:=zF h
theorem zlJ (h:zcc sv n i=some (.inl (n',i'))):zdg sv n i=zdg sv n' i':=zE h
theorem zlK (h:zcc sv n i=some (.inr wx)):zdg sv n i=some wx:=zF h
def zct (rv:List Int) (sv:List ze) (v2:Int) (x:ze) (v3:Int) (f6:List (zr×Bool)) (f7:List (zt×Bool)):Option ((Int×(List (zr×Bool))×(List (zt×Bool)))⊕(((List (zr×Bool))×(List (zt×Bool)))⊕(Int×Int))):=if (decide (v3<(x.Fields.length:Int))) then (idx x.Fields v3>>=fun x2=>zeu (⟨(sv.length:Int),rv,f6,f7⟩:zar) v2 x2>>=fun rv5=>if (rv5.1 !=0) then some (.inr (.inr (v3,rv5.1))) else some (.inl ((i64.wrap (v3+1)),rv5.2.1,rv5.2.2))) else some (.inr (.inl (f6,f7)))
def zdm (rv:List Int) (sv:List ze) (v2:Int) (x:ze) (v3:Int) (f6:List (zr×Bool)) (f7:List (zt×Bool)):Option (((List (zr×Bool))×(List (zt×Bool)))⊕(Int×Int)):=zac (fun s=>zct rv sv v2 x s.1 s.2.1 s.2.2) (v3,f6,f7)
def zbb (rv:List Int) (sv:List ze) (v2:Int) (f:List (zr×Bool)) (f2:List (zt×Bool)):Option ((Int×(List (zr×Bool))×(List (zt×Bool)))⊕(Unit⊕(Int×Int×Int))):=if (decide (v2<(sv.length:Int))) then (idx sv v2>>=fun x=>zdK (⟨(sv.length:Int),rv,f,f2⟩:zar) x>>=fun wy=>if (wy.1 !=0) then some (.inr (.inr (v2,(-1),wy.1))) else (zdm rv sv v2 x 0 wy.2.1 wy.2.2>>=fun q=>match q with | .inl u=>(some (.inl ((i64.wrap (v2+1)),u.1,u.2))) | .inr u2=>(some (.inr (.inr (v2,u2.1,u2.2)))))) else some (.inr (.inl ()))
def zeI (rv:List Int) (sv:List ze) (v2:Int) (f:List (zr×Bool)) (f2:List (zt×Bool)):Option (Unit⊕(Int×Int×Int)):=zac (fun s=>zbb rv sv s.1 s.2.1 s.2.2) (v2,f,f2)
def zhZ (sv:List ze):Option (zaq×Int):=if ((decide ((sv.length:Int)<1))|| (decide ((sv.length:Int)>100))) then some ((⟨(-1),(-1),1⟩:zaq),9) else (zod>>=fun rv=>zeI rv sv 0 ([]:List (zr×Bool)) ([]:List (zt×Bool))>>=fun q2=>match q2 with | .inl u3=>(some ((⟨0,0,0⟩:zaq),0)) | .inr u4=>(some ((⟨u4.1,u4.2.1,u4.2.2⟩:zaq),9)))
theorem zpv {f6:List (zr×Bool)} {f7:List (zt×Bool)} (h:zct rv sv v2 x v3 f6 f7=some (.inl (v3',f6',f7'))):zdm rv sv v2 x v3 f6 f7=zdm rv sv v2 x v3' f6' f7':=zE h
theorem zjy {f6:List (zr×Bool)} {f7:List (zt×Bool)} (h:zct rv sv v2 x v3 f6 f7=some (.inr wx)):zdm rv sv v2 x v3 f6 f7=some wx:=zF h
theorem zpu {f2:List (zt×Bool)} (h:zbb rv sv v2 f f2=some (.inl (v2',f',f2'))):zeI rv sv v2 f f2=zeI rv sv v2' f' f2':=zE h
theorem zeb {f2:List (zt×Bool)} (h:zbb rv sv v2 f f2=some (.inr wx)):zeI rv sv v2 f f2=some wx:=zF h
def zia (sv:List ze):Option Bool:=zhZ sv>>=fun rv=>some (rv.2==0)
def zbI (sv:Str) (i:Int):Option (Int⊕(Unit⊕Unit)):=if (decide (i<(sv.length:Int))) then (idx sv i>>=fun c=>if (!(if (decide ((c.toNat:Int)>=65)) then (decide ((c.toNat:Int)<=90))|| (if (decide ((c.toNat:Int)>=97)) then (decide ((c.toNat:Int)<=122))|| (((c.toNat:Int)==95)|| ((decide (i>0))&&((decide ((c.toNat:Int)>=48))&&(decide ((c.toNat:Int)<=57))))) else (((c.toNat:Int)==95)|| ((decide (i>0))&&((decide ((c.toNat:Int)>=48))&&(decide ((c.toNat:Int)<=57)))))) else (if (decide ((c.toNat:Int)>=97)) then (decide ((c.toNat:Int)<=122))|| (((c.toNat:Int)==95)|| ((decide (i>0))&&((decide ((c.toNat:Int)>=48))&&(decide ((c.toNat:Int)<=57))))) else (((c.toNat:Int)==95)|| ((decide (i>0))&&((decide ((c.toNat:Int)>=48))&&(decide ((c.toNat:Int)<=57)))))))) then some (.inr (.inr ())) else some (.inl (i64.wrap (i+1)))) else some (.inr (.inl ()))
def zcI (sv:Str) (i:Int):Option (Unit⊕Unit):=zac (fun s=>zbI sv s) i
def zdP (sv:Str):Option Bool:=zcI sv 0>>=fun q=>match q with | .inl u=>(some ((decide ((sv.length:Int)>=1))&&(decide ((sv.length:Int)<=60)))) | .inr u2=>(some false)
theorem zlt (h:zbI sv i=some (.inl i')):zcI sv i=zcI sv i':=zE h
theorem zhc (h:zbI sv i=some (.inr wx)):zcI sv i=some wx:=zF h
def zbx (i:Int) (k:Int) (sv:List ze) (x2:zd) (name:Bool) (number:Bool) (j:Int):Option ((Bool×Bool×Int)⊕(Bool×Bool)):=if (decide (j<k)) then ((if name then some true else idx sv i>>=fun x3=>idx x3.Fields j>>=fun x4=>some (x4.Name==x2.Name))>>=fun g=>(if number then some true else idx sv i>>=fun x5=>idx x5.Fields j>>=fun x6=>some (x6.Number==x2.Number))>>=fun g2=>some (.inl (g,g2,(i64.wrap (j+1))))) else some (.inr (name,number))
def zcm (i:Int) (k:Int) (sv:List ze) (x2:zd) (name:Bool) (number:Bool) (j:Int):Option (Bool×Bool):=zac (fun s=>zbx i k sv x2 s.1 s.2.1 s.2.2) (name,number,j)
def zeo (sv:List ze) (i:Int) (k:Int):Option Int:=idx sv i>>=fun x=>idx x.Fields k>>=fun x2=>zcm i k sv x2 false false 0>>=fun q=>zdP x2.Name>>=fun rv=>if (!rv) then some 5 else (if q.1 then some 6 else (if ((decide (x2.Number<1))|| ((decide (x2.Number>536870911))|| ((decide (x2.Number>=19000))&&(decide (x2.Number<20000))))) then some 7 else (if q.2 then some 8 else (zdz x2.Kind>>=fun wo=>if (!wo) then some 9 else ((if x2.Packed then (if x2.Repeated then (zba x2.Kind>>=fun wy=>some (!wy)) else some (!false)) else some false)>>=fun g3=>if g3 then some 10 else (if (if (x2.Kind==17) then (decide (x2.Of<0))|| ((decide (x2.Of>=(sv.length:Int)))|| ((x2.Kind !=17)&&(x2.Of !=0))) else (x2.Kind !=17)&&(x2.Of !=0)) then some 11 else some 0))))))
theorem zkI (h:zbx i k sv x2 name number j=some (.inl (name',number',j'))):zcm i k sv x2 name number j=zcm i k sv x2 name' number' j':=zE h
theorem zkJ (h:zbx i k sv x2 name number j=some (.inr wx)):zcm i k sv x2 name number j=some wx:=zF h
def zbv (i:Int) (sv:List ze) (twice:Bool) (k:Int):Option ((Bool×Int)⊕Bool):=if (decide (k<i)) then ((if twice then some true else idx sv k>>=fun x=>idx sv i>>=fun x2=>some (x.Name==x2.Name))>>=fun g=>some (.inl (g,(i64.wrap (k+1))))) else some (.inr twice)
def zck (i:Int) (sv:List ze) (twice:Bool) (k:Int):Option Bool:=zac (fun s=>zbv i sv s.1 s.2) (twice,k)
def zbw (i:Int) (sv:List ze) (k2:Int):Option (Int⊕(Unit⊕(Int×Int))):=idx sv i>>=fun x5=>if (decide (k2<(x5.Fields.length:Int))) then (zeo sv i k2>>=fun wo=>if (decide (wo>0)) then some (.inr (.inr (k2,wo))) else some (.inl (i64.wrap (k2+1)))) else some (.inr (.inl ()))
def zcl (i:Int) (sv:List ze) (k2:Int):Option (Unit⊕(Int×Int)):=zac (fun s=>zbw i sv s) k2
def zbu (sv:List ze) (i:Int):Option (Int⊕(Unit⊕(Int×Int×Int))):=if (decide (i<(sv.length:Int))) then (zck i sv false 0>>=fun q=>idx sv i>>=fun x3=>zdP x3.Name>>=fun rv=>if (!rv) then some (.inr (.inr (i,(-1),2))) else (if q then some (.inr (.inr (i,(-1),3))) else (idx sv i>>=fun x4=>if (decide ((x4.Fields.length:Int)>200)) then some (.inr (.inr (i,(-1),4))) else (zcl i sv 0>>=fun q2=>match q2 with | .inl u=>(some (.inl (i64.wrap (i+1)))) | .inr u2=>(some (.inr (.inr (i,u2.1,u2.2)))))))) else some (.inr (.inl ()))
def zdr (sv:List ze) (i:Int):Option (Unit⊕(Int×Int×Int)):=zac (fun s=>zbu sv s) i
def zen (sv:List ze):Option (Int×Int×Int):=if (((sv.length:Int)==0)|| (decide ((sv.length:Int)>100))) then some ((-1),(-1),1) else (zdr sv 0>>=fun q3=>match q3 with | .inl u3=>(some (0,0,0)) | .inr u4=>(some (u4.1,u4.2.1,u4.2.2)))
theorem zkF (h:zbv i sv twice k=some (.inl (twice',k'))):zck i sv twice k=zck i sv twice' k':=zE h
theorem zkG (h:zbv i sv twice k=some (.inr wx)):zck i sv twice k=some wx:=zF h
theorem zkH (h:zbw i sv k2=some (.inl k2')):zcl i sv k2=zcl i sv k2':=zE h
theorem zgV (h:zbw i sv k2=some (.inr wx)):zcl i sv k2=some wx:=zF h
theorem zkE (h:zbu sv i=some (.inl i')):zdr sv i=zdr sv i':=zE h
theorem zca (h:zbu sv i=some (.inr wx)):zdr sv i=some wx:=zF h
def zby (m:ze) (number:Int) (i:Int):Option (Int⊕(Unit⊕Int)):=if (decide (i<(m.Fields.length:Int))) then (idx m.Fields i>>=fun x=>if (x.Number==number) then (some (.inr (.inr i))) else (some (.inl (i64.wrap (i+1))))) else (some (.inr (.inl ())))
def zds (m:ze) (number:Int) (i:Int):Option (Unit⊕Int):=zac (fun s=>zby m number s) i
def zdA (m:ze) (number:Int):Option Int:=zds m number 0>>=fun q=>match q with | .inl u=>(some (-1)) | .inr u2=>(some u2)
theorem zkK (h:zby m number i=some (.inl i')):zds m number i=zds m number i':=zE h
theorem zgW (h:zby m number i=some (.inr wx)):zds m number i=some wx:=zF h
def zbl (i:Int) (m:ze) (out:List Int) (k:Int):Option (Int⊕Int):=(if (decide (k<(out.length:Int))) then (idx out k>>=fun x=>idx m.Fields x>>=fun x2=>idx m.Fields i>>=fun x3=>some (decide (x2.Number<=x3.Number))) else some false)>>=fun g=>if g then some (.inl (i64.wrap (k+1))) else some (.inr k)
def zbW (i:Int) (m:ze) (out:List Int) (k:Int):Option Int:=zac (fun s=>zbl i m out s) k
def zbk (m:ze) (out:List Int) (i:Int):Option (((List Int)×Int)⊕(List Int)):=if (decide (i<(m.Fields.length:Int))) then (zbW i m out 0>>=fun q=>cut out 0 q>>=fun v2=>app 8 ([]:List Int) v2>>=fun v3=>app 8 v3 ([i]:List Int)>>=fun v4=>cut out q (out.length:Int)>>=fun v5=>app 8 v4 v5>>=fun v6=>some (.inl (v6,(i64.wrap (i+1))))) else some (.inr out)
def zbV (m:ze) (out:List Int) (i:Int):Option (List Int):=zac (fun s=>zbk m s.1 s.2) (out,i)
def zdY (m:ze):Option (List Int):=zbV m [] 0>>=fun q2=>some q2
theorem zjV {i:Int} {m:ze} {out:List Int} {k:Int} {k':Int} (h:zbl i m out k=some (.inl k')):zbW i m out k=zbW i m out k':=zE h
theorem zgv {i:Int} {m:ze} {out:List Int} {k:Int} {wx:Int} (h:zbl i m out k=some (.inr wx)):zbW i m out k=some wx:=zF h
theorem zjT {m:ze} {out:List Int} {i:Int} {out':List Int} {i':Int} (h:zbk m out i=some (.inl (out',i'))):zbV m out i=zbV m out' i':=zE h
theorem zjU {m:ze} {out:List Int} {i:Int} {wx:List Int} (h:zbk m out i=some (.inr wx)):zbV m out i=some wx:=zF h
def zep (sv:List ze):Option Bool:=zen sv>>=fun rv=>some (rv.2.2==0)
def zgP (k:Int):Option (Int×Int):=((if (k==1) then some (k==1) else (if (k==2) then some (k==2) else if (k==3) then some (k==3) else if (k==4) then some (k==4) else if (k==5) then some (k==5) else if (k==6) then some (k==6) else if (k==7) then some (k==7) else some (k==8)) :Option Bool))>>=fun p=>if p then some (0,0) else ((if (k==9) then some (k==9) else (if (k==10) then some (k==10) else some (k==11)) :Option Bool))>>=fun p2=>if p2 then some (4,0) else if (k==12) then if (k==12) then some (8,0) else (some (0,2)) else if (k==13) then if (k==13) then some (8,0) else (some (0,2)) else if (k==14) then some (8,0) else some (0,2)
def zhY (b:List UInt8):Option (Int×Int):=zfF b>>=fun rv=>if ((rv.2.2 !=0)|| (rv.2.1 !=(b.length:Int))) then some (0,12) else some (rv.1,0)
def zhX (k:Int) (b:List UInt8):Option (Int×Int):=zgP k>>=fun rv=>if (rv.2 !=0) then some (0,rv.2) else if (rv.1==0) then (zhY b>>=fun wo=>some (wo.1,wo.2)) else if (rv.1 !=(b.length:Int)) then some (0,12) else zlI b>>=fun wy=>some (wy,0)
def zjg (k:Int) (b:List UInt8):Option (Int×Int):=zhX k b>>=fun rv=>if (rv.2 !=0) then some (0,rv.2) else ziz k rv.1>>=fun wo=>some (wo.1,wo.2)
def zjh (k:Int) (wv:Int):Option Int:=zgP k>>=fun rv=>if ((rv.2 !=0)|| (rv.1 !=0)) then some rv.1 else ziz k wv>>=fun wo=>znK wo.1>>=fun wy=>some wy
def zdQ (k:Int) (b:List UInt8):Option (Int×Int):=zba k>>=fun rv=>if (!rv) then some (0,2) else zcY k>>=fun wo=>zeQ wo b>>=fun wy=>if (!wy) then some (0,12) else zeN b>>=fun rv4=>zcY k>>=fun rv5=>if (rv5==0) then (zax b 0>>=fun rv6=>zdy k rv6.1>>=fun rv7=>some (rv7,0)) else zdy k rv4>>=fun rv8=>some (rv8,0)
def zmd (k:Int):Option Int:=zjh k 0>>=fun rv=>some rv
def zmc (wide:Int) (b:List UInt8):Option (Int×Int):=if (wide==1) then (zhG b>>=fun rv=>some (rv.1,rv.2)) else if (decide (wide>(b.length:Int))) then some (0,3) else some (wide,0)
def zbT {σ:Type} (kf:(Rnd σ ((List UInt8)×Int))) (rv:Int) (wr:List UInt8) (sg2:σ):Option (((List UInt8)×σ)⊕(σ⊕σ)):=if (decide ((wr.length:Int)>0)) then (zmc rv wr>>=fun wo=>cut wr 0 wo.1>>=fun v3=>kf sg2 (v3,wo.2)>>=fun y2=>if ((!y2.1)|| (wo.2 !=0)) then some (.inr (.inr y2.2)) else cut wr wo.1 (wr.length:Int)>>=fun v5=>some (.inl (v5,y2.2))) else some (.inr (.inl sg2))
def zeG {σ:Type} (kf:(Rnd σ ((List UInt8)×Int))) (rv:Int) (wr:List UInt8) (sg2:σ):Option (σ⊕σ):=zac (fun s=>zbT kf rv s.1 s.2) (wr,sg2)
def zed {σ:Type} (v:Int) (v2:List UInt8) (kf:Rnd σ ((List UInt8)×Int)) (sg:σ):Option σ:=zmd v>>=fun rv=>if (rv==0) then (kf sg (([]:List UInt8),2)>>=fun y=>some y.2) else (zeG kf rv v2 sg>>=fun q=>match q with | .inl u=>(some u) | .inr u2=>(some u2))
theorem zpt {σ:Type} {kf:(Rnd σ ((List UInt8)×Int))} {rv:Int} {wr:List UInt8} {sg2:σ} {rest':List UInt8} {sg2':σ} (h:zbT kf rv wr sg2=some (.inl (rest',sg2'))):zeG kf rv wr sg2=zeG kf rv rest' sg2':=zE h
theorem zgZ {σ:Type} {kf:(Rnd σ ((List UInt8)×Int))} {rv:Int} {wr:List UInt8} {sg2:σ} {wx:(σ⊕σ)} (h:zbT kf rv wr sg2=some (.inr wx)):zeG kf rv wr sg2=some wx:=zF h
def ziG (k:Int) (b:List UInt8):Option (Int×(List UInt8)):=some (k,b)
def zdH (k:Int) (f:List Int) (x:List UInt8) (x2:Int):Option ((List Int)⊕(Int×(List Int))):=if (x2 !=0) then some (.inr (x2,f)) else zjg k x>>=fun wo=>app 8 f ([wo.1]:List Int)>>=fun v=>some (.inl v)
def zmb (k:Int) (b:List UInt8):Option ((List Int)×Int):=ziG k b>>=fun rv=>zed rv.1 rv.2 (rnd (fun (s:List Int) (x:((List UInt8)×Int))=>zdH k s x.1 x.2)) (.inl [])>>=fun q=>match q with | .inl u=>(some (u,0)) | .inr j=>(some ([],j.1))
def zaQ (b:List UInt8) (k:Int) (out:List Int) (wu:Int):Option (((List Int)×Int)⊕((List Int)⊕Int)):=if (decide (wu<(b.length:Int))) then (((if (decide (k<12)) then some 4 else (some 8) :Option Int))>>=fun p=>((if (decide (k<9)) then (zax b wu>>=fun wo=>if (wo.2.2 !=0) then some (.inr wo.2.2) else some (.inl wo.2.1)) else (some (.inl p)) :Option (Int⊕Int)))>>=fun p2=>match p2 with | .inl u=>(if (decide ((i64.wrap (wu+u))>(b.length:Int))) then some (.inr (.inr 3)) else app 8 out ([(i64.wrap (wu+u))]:List Int)>>=fun v3=>some (.inl (v3,(i64.wrap (wu+u))))) | .inr u2=>(some (.inr (.inr u2)))) else some (.inr (.inl out))
def zbJ (b:List UInt8) (k:Int) (out:List Int) (wu:Int):Option ((List Int)⊕Int):=zac (fun s=>zaQ b k s.1 s.2) (out,wu)
def zdR (k:Int) (b:List UInt8):Option ((List Int)×Int):=zba k>>=fun rv=>if (!rv) then some ([],2) else (zbJ b k [] 0>>=fun q=>match q with | .inl u3=>(some (u3,0)) | .inr u4=>(some ([],u4)))
theorem zlu {b:List UInt8} {k:Int} {out:List Int} {wu:Int} {out':List Int} {atv':Int} (h:zaQ b k out wu=some (.inl (out',atv'))):zbJ b k out wu=zbJ b k out' atv':=zE h
theorem zhd {b:List UInt8} {k:Int} {out:List Int} {wu:Int} {wx:((List Int)⊕Int)} (h:zaQ b k out wu=some (.inr wx)):zbJ b k out wu=some wx:=zF h
def zaC (b:List UInt8) (k:Int) (rv:((List Int)×Int)) (out:List Int) (i:Int):Option (((List Int)×Int)⊕(List Int)):=if (decide (i<(rv.1.length:Int))) then (((if (decide (i>0)) then (idx rv.1 (i64.wrap (i - 1))>>=fun x=>some x) else (some 0) :Option Int))>>=fun p=>idx rv.1 i>>=fun x2=>cut b p x2>>=fun v=>zdQ k v>>=fun wo=>app 8 out ([wo.1]:List Int)>>=fun v2=>some (.inl (v2,(i64.wrap (i+1))))) else some (.inr out)
def zaX (b:List UInt8) (k:Int) (rv:((List Int)×Int)) (out:List Int) (i:Int):Option (List Int):=zac (fun s=>zaC b k rv s.1 s.2) (out,i)
def zeq (k:Int) (b:List UInt8):Option ((List Int)×Int):=zdR k b>>=fun rv=>zaX b k rv [] 0>>=fun q=>some (q,rv.2)
theorem zkL {b:List UInt8} {k:Int} {rv:((List Int)×Int)} {out:List Int} {i:Int} {out':List Int} {i':Int} (h:zaC b k rv out i=some (.inl (out',i'))):zaX b k rv out i=zaX b k rv out' i':=zE h
theorem zeA {b:List UInt8} {k:Int} {rv:((List Int)×Int)} {out:List Int} {i:Int} {wx:List Int} (h:zaC b k rv out i=some (.inr wx)):zaX b k rv out i=some wx:=zF h
def zeV (f:Int) (x:List UInt8) (x2:Int):Option (Int⊕(Int×Int)):=if (x2 !=0) then some (.inr (x2,f)) else some (.inl (i64.wrap (f+1)))
def zma (k:Int) (b:List UInt8):Option (Int×Int):=ziG k b>>=fun rv=>zed rv.1 rv.2 (rnd (fun (s:Int) (x:((List UInt8)×Int))=>zeV s x.1 x.2)) (.inl 0)>>=fun q=>match q with | .inl u=>(some (u,0)) | .inr j=>(some (0,j.1))
def zid (f:zd) (v:Int):Option Bool:=some (f.Number==v)
def zH (sv:List zd) (v:Int) (v2:Int):Option (Int⊕(Unit⊕Int)):=if (decide (v2<(sv.length:Int))) then (idx sv v2>>=fun x=>zid x v>>=fun rv=>if rv then some (.inr (.inr v2)) else some (.inl (i64.wrap (v2+1)))) else some (.inr (.inl ()))
def zO (sv:List zd) (v:Int) (v2:Int):Option (Unit⊕Int):=zac (fun s=>zH sv v s) v2
def zah (sv:List zd) (v:Int):Option Int:=zO sv v 0>>=fun q=>match q with | .inl u=>(some (-1)) | .inr u2=>(some u2)
theorem zdp (h:zH sv v v2=some (.inl v2')):zO sv v v2=zO sv v v2':=zE h
theorem zaW (h:zH sv v v2=some (.inr wx)):zO sv v v2=some wx:=zF h
def zkz (m:ze) (number:Int):Option Int:=zah m.Fields number>>=fun rv=>some rv
def zkA (f:zd) (wire:Int):Option Bool:=(if f.Repeated then (if (wire==2) then (zhu f.Kind>>=fun rv=>some rv) else some false) else some false)>>=fun g=>some g
def zmo (k:Int) (wire:Int):Option Bool:=zjM k>>=fun rv=>some ((rv.2==0)&&(rv.1==wire))
def zhH (m:ze) (hv:zM):Option zP:=zkz m hv.number>>=fun rv=>if (rv==(-1)) then some (⟨(-1),false,0⟩:zP) else idx m.Fields rv>>=fun x=>zkA x hv.wire>>=fun wo=>(if (!wo) then (zmo x.Kind hv.wire>>=fun wy=>some (!wy)) else some false)>>=fun g=>if g then some (⟨0,false,6⟩:zP) else some (⟨rv,wo,0⟩:zP)
def zjR (m:ze) (b:List UInt8) (wG:Int) (met:List (zM×zP)):Option (zc×Int×(List (zM×zP))):=zhC b wG>>=fun rv=>if (rv.2 !=0) then some ((⟨(⟨0,0,0,0,0⟩:zj),0,false⟩:zc),rv.2,met) else (((if (!(mget met (⟨rv.1.Number,rv.1.Wire⟩:zM)).isSome) then (zhH m (⟨rv.1.Number,rv.1.Wire⟩:zM)>>=fun wo=>some ((mput met (⟨rv.1.Number,rv.1.Wire⟩:zM) wo),wo.field,wo.run,wo.e)) else (some (met,((mget met (⟨rv.1.Number,rv.1.Wire⟩:zM)).getD (⟨0,false,0⟩:zP)).field,((mget met (⟨rv.1.Number,rv.1.Wire⟩:zM)).getD (⟨0,false,0⟩:zP)).run,((mget met (⟨rv.1.Number,rv.1.Wire⟩:zM)).getD (⟨0,false,0⟩:zP)).e)) :Option ((List (zM×zP))×Int×Bool×Int)))>>=fun p=>if (p.2.2.2 !=0) then some ((⟨(⟨0,0,0,0,0⟩:zj),0,false⟩:zc),p.2.2.2,p.1) else some ((⟨rv.1,p.2.1,p.2.2.1⟩:zc),0,p.1))
def zeh (b:List UInt8) (m:ze) (l:List zc) (met:List (zM×zP)) (wG:Int):Option (((List zc)×(List (zM×zP))×Int)⊕((List zc)⊕(Int×Int))):=if (decide (wG<(b.length:Int))) then (zjR m b wG met>>=fun wo=>if (wo.2.1 !=0) then some (.inr (.inr (wG,wo.2.1))) else app 56 l ([wo.1]:List zc)>>=fun v=>some (.inl (v,wo.2.2,wo.1.Record.To))) else some (.inr (.inl l))
def zgI (b:List UInt8) (m:ze) (l:List zc) (met:List (zM×zP)) (wG:Int):Option ((List zc)⊕(Int×Int)):=zac (fun s=>zeh b m s.1 s.2.1 s.2.2) (l,met,wG)
def zmm (m:ze) (b:List UInt8):Option ((List zc)×Int×Int):=zgI b m [] ([]:List (zM×zP)) 0>>=fun q=>match q with | .inl u=>(some (u,0,0)) | .inr u2=>(some ([],u2.1,u2.2))
theorem znj (h:zeh b m l met wG=some (.inl (l',wD,fromv'))):zgI b m l met wG=zgI b m l' wD fromv':=zE h
theorem zjr (h:zeh b m l met wG=some (.inr wx)):zgI b m l met wG=some wx:=zF h
def zmn (m:ze) (b:List UInt8) (wG:Int):Option (zc×Int):=zjR m b wG ([]:List (zM×zP))>>=fun wo=>some (wo.1,wo.2.1)
def zdS (m:ze) (b:List UInt8) (wG:Int):Option (zD×Int):=zdO b wG>>=fun rv=>if (rv.2 !=0) then some ((⟨(⟨0,0,0,0,0⟩:zj),0,false⟩:zD),rv.2) else zdA m rv.1.Number>>=fun wo=>if (decide (wo<0)) then some ((⟨rv.1,(-1),false⟩:zD),0) else idx m.Fields wo>>=fun x=>(if x.Repeated then (zba x.Kind>>=fun wy=>if wy then some (rv.1.Wire==2) else some false) else some false)>>=fun g=>if g then some ((⟨rv.1,wo,true⟩:zD),0) else (zdz x.Kind>>=fun rv4=>if (!rv4) then some true else zcY x.Kind>>=fun rv5=>some (rv5 !=rv.1.Wire))>>=fun g2=>if g2 then some ((⟨(⟨0,0,0,0,0⟩:zj),0,false⟩:zD),6) else some ((⟨rv.1,wo,false⟩:zD),0)
def zaI (b:List UInt8) (m:ze) (out:List zD) (wu:Int):Option (((List zD)×Int)⊕((List zD)⊕(Int×Int))):=if (decide (wu<(b.length:Int))) then (zdS m b wu>>=fun rv=>if (rv.2 !=0) then some (.inr (.inr (wu,rv.2))) else app 56 out ([rv.1]:List zD)>>=fun v3=>some (.inl (v3,rv.1.R.To))) else some (.inr (.inl out))
def zce (b:List UInt8) (m:ze) (out:List zD) (wu:Int):Option ((List zD)⊕(Int×Int)):=zac (fun s=>zaI b m s.1 s.2) (out,wu)
def zfo (m:ze) (b:List UInt8):Option ((List zD)×Int×Int):=zce b m [] 0>>=fun q=>match q with | .inl u=>(some (u,0,0)) | .inr u2=>(some ([],u2.1,u2.2))
theorem zhp {b:List UInt8} {m:ze} {out:List zD} {wu:Int} {out':List zD} {atv':Int} (h:zaI b m out wu=some (.inl (out',atv'))):zce b m out wu=zce b m out' atv':=zE h
theorem zfp {b:List UInt8} {m:ze} {out:List zD} {wu:Int} {wx:((List zD)⊕(Int×Int))} (h:zaI b m out wu=some (.inr wx)):zce b m out wu=some wx:=zF h
def zfY (wv:zae) (message:Int) (wG:Int) (tov:Int):Option (zc×Int×(List (zk×zc))):=cut wv.b 0 tov>>=fun v=>zhC v wG>>=fun rv=>if (rv.2 !=0) then some ((⟨(⟨0,0,0,0,0⟩:zj),0,false⟩:zc),rv.2,wv.met) else (if (!(mget wv.met (⟨message,rv.1.Number,rv.1.Wire⟩:zk)).isSome) then (idx wv.s message>>=fun x=>zmn x v wG>>=fun wo=>if (wo.2 !=0) then some ((⟨(⟨0,0,0,0,0⟩:zj),0,false⟩:zc),wo.2,wv.met) else some ((⟨rv.1,wo.1.Field,wo.1.Run⟩:zc),0,(mput wv.met (⟨message,rv.1.Number,rv.1.Wire⟩:zk) wo.1))) else (some ((⟨rv.1,(((mget wv.met (⟨message,rv.1.Number,rv.1.Wire⟩:zk)).getD (⟨(⟨0,0,0,0,0⟩:zj),0,false⟩:zc)).Field),(((mget wv.met (⟨message,rv.1.Number,rv.1.Wire⟩:zk)).getD (⟨(⟨0,0,0,0,0⟩:zj),0,false⟩:zc)).Run)⟩:zc),0,wv.met)))
def zjl (f:zd) (isRun:Bool) (value:List UInt8):Option Int:=if isRun then (zma f.Kind value>>=fun rv=>some rv.2) else (if (f.Kind==15) then (zmj value>>=fun wo=>some (!wo)) else some false)>>=fun g=>if g then some 7 else if (f.Kind==17) then some 8 else some 0
def zaw (d:Int) (message:Int) (xf:zae->Int->zc->Int->Option (zu×(List (zk×zc)))) (tov:Int) (wv:zae) (wv2:List (zk×zc)) (wM:Int) (depth:Int):Option (((List (zk×zc))×Int×Int)⊕(((List (zk×zc))×Int)⊕((List (zk×zc))×Int×Int×Int))):=if (decide (wM<tov)) then (zfY (⟨wv.s,wv.b,wv2⟩:zae) message wM tov>>=fun wo=>if (wo.2.1 !=0) then some (.inr (.inr (wo.2.2,0,wM,wo.2.1))) else xf (⟨wv.s,wv.b,wo.2.2⟩:zae) message wo.1 d>>=fun rv4=>if (rv4.1.e !=0) then some (.inr (.inr (rv4.2,rv4.1.depth,rv4.1.place,rv4.1.e))) else some (.inl (rv4.2,wo.1.Record.To,(if depth<rv4.1.depth then rv4.1.depth else depth)))) else some (.inr (.inl (wv2,depth)))
def zbB (d:Int) (message:Int) (xf:zae->Int->zc->Int->Option (zu×(List (zk×zc)))) (tov:Int) (wv:zae) (wv2:List (zk×zc)) (wM:Int) (depth:Int):Option (((List (zk×zc))×Int)⊕((List (zk×zc))×Int×Int×Int)):=zac (fun s=>zaw d message xf tov wv s.1 s.2.1 s.2.2) (wv2,wM,depth)
def zdM (xl:zae->Int->Int->Int->Int->Option (zu×(List (zk×zc)))) (xf:zae->Int->zc->Int->Option (zu×(List (zk×zc)))) (wv:zae) (message:Int) (wG:Int) (tov:Int) (d:Int):Option (zu×(List (zk×zc))):=zbB d message xf tov wv wv.met wG 0>>=fun q=>match q with | .inl u=>(some ((⟨u.2,0,0⟩:zu),u.1)) | .inr u2=>(some ((⟨u2.2.1,u2.2.2.1,u2.2.2.2⟩:zu),u2.1))
def zew (xl:zae->Int->Int->Int->Int->Option (zu×(List (zk×zc)))) (xf:zae->Int->zc->Int->Option (zu×(List (zk×zc)))) (wv:zae) (message:Int) (v:zc) (d:Int):Option (zu×(List (zk×zc))):=if (v.Field==(-1)) then some ((⟨0,0,0⟩:zu),wv.met) else idx wv.s message>>=fun x=>idx x.Fields v.Field>>=fun x2=>if ((x2.Kind==17)&&(decide (d>0))) then (xl wv x2.Of v.Record.At v.Record.To (i64.wrap (d - 1))>>=fun wo=>some ((⟨(i64.wrap (wo.1.depth+1)),wo.1.place,wo.1.e⟩:zu),wo.2)) else cut wv.b v.Record.At v.Record.To>>=fun v3=>zjl x2 v.Run v3>>=fun wy=>if (wy !=0) then some ((⟨0,v.Record.From,wy⟩:zu),wv.met) else some ((⟨0,0,0⟩:zu),wv.met)
def zag:Nat->(zae->Int->Int->Int->Int->Option (zu×(List (zk×zc))))×(zae->Int->zc->Int->Option (zu×(List (zk×zc)))) | 0=>(fun _ _ _ _ _=>none,fun _ _ _ _=>none) | fuel+1=>(fun wv message wG tov d=>zdM (zag fuel).1 (zag fuel).2 wv message wG tov d,fun wv message v d=>zew (zag fuel).1 (zag fuel).2 wv message v d)
def zaB (fuel:Nat):zae->Int->Int->Int->Int->Option (zu×(List (zk×zc))):=(zag fuel).1
def zdG (fuel:Nat):zae->Int->zc->Int->Option (zu×(List (zk×zc))):=(zag fuel).2
theorem zkN (h:zaw d message xf tov wv wv2 wM depth=some (.inl (wv2',fromv2',depth'))):zbB d message xf tov wv wv2 wM depth=zbB d message xf tov wv wv2' fromv2' depth':=zE h
theorem zdq (h:zaw d message xf tov wv wv2 wM depth=some (.inr wx)):zbB d message xf tov wv wv2 wM depth=some wx:=zF h
def zkw (sv:List ze) (root:Int) (d:Int):Option Int:=zia sv>>=fun rv=>if (!rv) then some 9 else (if ((decide (root<0))|| ((decide (root>=(sv.length:Int)))|| ((decide (d<0))|| (decide (d>64))))) then some 2 else some 0)
def zky (fuel:Nat) (sv:List ze) (root:Int) (b:List UInt8) (d:Int):Option zu:=zkw sv root d>>=fun rv=>if (rv !=0) then some (⟨0,0,rv⟩:zu) else (zaB fuel (⟨sv,b,([]:List (zk×zc))⟩:zae) root 0 (b.length:Int) d>>=fun wy=>some wy.1)
def zgH (fuel:Nat) (sv:List ze) (root:Int) (b:List UInt8) (d:Int):Option (Int×Int):=zky fuel sv root b d>>=fun rv=>some (rv.place,rv.e)
def zeR (sv:List ze) (root:Int) (d:Int):Option Int:=zep sv>>=fun rv=>if (!rv) then some 9 else (if ((decide (root<0))|| ((decide (root>=(sv.length:Int)))|| ((decide (d<0))|| (decide (d>64))))) then some 2 else some 0)
def zaY (b:List UInt8) (d:Int) (m:Int) (xj:(List ze)->Int->(List UInt8)->Int->Option (Int×Int)) (sv:List ze) (wu:Int):Option (Int⊕(Unit⊕(Int×Int))):=if (decide (wu<(b.length:Int))) then (idx sv m>>=fun x=>zdS x b wu>>=fun rv=>if (rv.2 !=0) then some (.inr (.inr (wu,rv.2))) else cut b rv.1.R.At rv.1.R.To>>=fun v3=>if (decide (rv.1.Field>=0)) then (idx sv m>>=fun x2=>idx x2.Fields rv.1.Field>>=fun x3=>if rv.1.Run then (zdR x3.Kind v3>>=fun wo=>if (wo.2 !=0) then some (.inr (.inr (wu,wo.2))) else some (.inl rv.1.R.To)) else (if (x3.Kind==15) then (zcx v3>>=fun wy=>some (!wy)) else some false)>>=fun g=>if g then some (.inr (.inr (wu,7))) else if (x3.Kind==17) then (if (d==0) then some (.inr (.inr (wu,8))) else xj sv x3.Of v3 (i64.wrap (d - 1))>>=fun rv4=>if (rv4.2 !=0) then some (.inr (.inr ((i64.wrap (rv.1.R.At+rv4.1)),rv4.2))) else some (.inl rv.1.R.To)) else some (.inl rv.1.R.To)) else some (.inl rv.1.R.To)) else some (.inr (.inl ()))
def zaZ (b:List UInt8) (d:Int) (m:Int) (xj:(List ze)->Int->(List UInt8)->Int->Option (Int×Int)) (sv:List ze) (wu:Int):Option (Unit⊕(Int×Int)):=zac (fun s=>zaY b d m xj sv s) wu
def zbK (xj:(List ze)->Int->(List UInt8)->Int->Option (Int×Int)) (sv:List ze) (m:Int) (b:List UInt8) (d:Int):Option (Int×Int):=zaZ b d m xj sv 0>>=fun q=>match q with | .inl u=>(some (0,0)) | .inr u2=>(some (u2.1,u2.2))
def zaT:Nat->(List ze)->Int->(List UInt8)->Int->Option (Int×Int) | 0,_,_,_,_=>none | fuel+1,sv,m,b,d=>zbK (zaT fuel) sv m b d
theorem zkM {b:List UInt8} {d:Int} {m:Int} {xj:(List ze)->Int->(List UInt8)->Int->Option (Int×Int)} {sv:List ze} {wu:Int} {atv':Int} (h:zaY b d m xj sv wu=some (.inl atv')):zaZ b d m xj sv wu=zaZ b d m xj sv atv':=zE h
theorem zeC {b:List UInt8} {d:Int} {m:Int} {xj:(List ze)->Int->(List UInt8)->Int->Option (Int×Int)} {sv:List ze} {wu:Int} {wx:(Unit⊕(Int×Int))} (h:zaY b d m xj sv wu=some (.inr wx)):zaZ b d m xj sv wu=some wx:=zF h
def zcy (fuel:Nat) (sv:List ze) (root:Int) (b:List UInt8) (d:Int):Option (Int×Int):=zeR sv root d>>=fun rv=>if (rv !=0) then some (0,rv) else zaT fuel sv root b d>>=fun wo=>some (wo.1,wo.2)
def zfR (fuel:Nat) (sv:List ze) (root:Int) (b:List UInt8) (d:Int):Option Bool:=zcy fuel sv root b d>>=fun rv=>some (rv.2==0)
def zeW (v:za):Option Int:=some (i64.wrap ((i64.wrap ((v.Words.length:Int)+(v.Texts.length:Int)))+(v.Subs.length:Int)))
def zcw (xe:za->Option za) (x:zb) (i:Int) (f:List za):Option ((Int×(List za))⊕(List za)):=if (decide (i<(x.Values.length:Int))) then (idx x.Values i>>=fun x2=>xe x2>>=fun rv=>app 80 f ([rv]:List za)>>=fun v2=>some (.inl ((i64.wrap (i+1)),v2))) else some (.inr f)
def zdx (xe:za->Option za) (x:zb) (i:Int) (f:List za):Option (List za):=zac (fun s=>zcw xe x s.1 s.2) (i,f)
def zeL (xd:zb->Option zb) (xe:za->Option za) (x:zb):Option zb:=app 16 ([]:List Str) x.Unknown>>=fun v=>zdx xe x 0 []>>=fun q=>some (⟨q,v⟩:zb)
def zbd (xd:zb->Option zb) (v:za) (i:Int) (f:List zb):Option ((Int×(List zb))⊕(List zb)):=if (decide (i<(v.Subs.length:Int))) then (idx v.Subs i>>=fun x=>xd x>>=fun rv=>app 48 f ([rv]:List zb)>>=fun v2=>some (.inl ((i64.wrap (i+1)),v2))) else some (.inr f)
def zbD (xd:zb->Option zb) (v:za) (i:Int) (f:List zb):Option (List zb):=zac (fun s=>zbd xd v s.1 s.2) (i,f)
def zcW (xd:zb->Option zb) (xe:za->Option za) (v:za):Option za:=zbD xd v 0 []>>=fun q=>some (⟨v.Number,v.Words,v.Texts,q⟩:za)
def zaf:Nat->(zb->Option zb)×(za->Option za) | 0=>(fun _=>none,fun _=>none) | fuel+1=>(fun x=>zeL (zaf fuel).1 (zaf fuel).2 x,fun v=>zcW (zaf fuel).1 (zaf fuel).2 v)
def zcs (fuel:Nat):zb->Option zb:=(zaf fuel).1
def zcA (fuel:Nat):za->Option za:=(zaf fuel).2
theorem zmx (h:zcw xe x i f=some (.inl (i',f'))):zdx xe x i f=zdx xe x i' f':=zE h
theorem zmy (h:zcw xe x i f=some (.inr wx)):zdx xe x i f=some wx:=zF h
theorem zjB (h:zbd xd v i f=some (.inl (i',f'))):zbD xd v i f=zbD xd v i' f':=zE h
theorem zjC (h:zbd xd v i f=some (.inr wx)):zbD xd v i f=some wx:=zF h
def zfg (b:List UInt8) (l:List zc) (all:List Str) (v2:Int):Option (((List Str)×Int)⊕(List Str)):=if (decide (v2<(l.length:Int))) then (idx l v2>>=fun x=>cut b x.Record.At x.Record.To>>=fun v3=>idx all v2>>=fun x2=>some (.inl ((all.set (Int.toNat v2) v3),(i64.wrap (v2+1))))) else some (.inr all)
def zhj (b:List UInt8) (l:List zc) (all:List Str) (v2:Int):Option (List Str):=zac (fun s=>zfg b l s.1 s.2) (all,v2)
def zku (b:List UInt8) (l:List zc):Option (List Str):=mkO 16 ([]:Str) (l.length:Int) (l.length:Int)>>=fun v=>zhj b l v 0>>=fun q=>some q
theorem zrt (h:zfg b l all v2=some (.inl (all',v2'))):zhj b l all v2=zhj b l all' v2':=zE h
theorem zru (h:zfg b l all v2=some (.inr wx)):zhj b l all v2=some wx:=zF h
def zfh (b:List UInt8) (k:Int) (l:List zc) (all:List Int) (v:Int):Option (((List Int)×Int)⊕(List Int)):=if (decide (v<(l.length:Int))) then (idx l v>>=fun x=>cut b x.Record.At x.Record.To>>=fun v2=>zmb k v2>>=fun rv=>app 8 all rv.1>>=fun v3=>some (.inl (v3,(i64.wrap (v+1))))) else some (.inr all)
def zgg (b:List UInt8) (k:Int) (l:List zc) (all:List Int) (v:Int):Option (List Int):=zac (fun s=>zfh b k l s.1 s.2) (all,v)
def zkv (k:Int) (b:List UInt8) (l:List zc):Option (List Int):=zgg b k l [] 0>>=fun q=>some q
theorem zrv (h:zfh b k l all v=some (.inl (all',v'))):zgg b k l all v=zgg b k l all' v':=zE h
theorem zrw (h:zfh b k l all v=some (.inr wx)):zgg b k l all v=some wx:=zF h
def zdn (b:List UInt8) (rv:((List zc)×Int×Int)) (known:List (Int×(List zc))) (v:Int) (f:List Str):Option (((List (Int×(List zc)))×Int×(List Str))⊕((List (Int×(List zc)))×(List Str))):=if (decide (v<(rv.1.length:Int))) then (idx rv.1 v>>=fun x2=>if (x2.Field==(-1)) then (cut b x2.Record.From x2.Record.To>>=fun v2=>app 16 f ([v2]:List Str)>>=fun v3=>some (.inl (known,(i64.wrap (v+1)),v3))) else app 56 ((mget known x2.Record.Number).getD []) ([x2]:List zc)>>=fun v4=>some (.inl ((mput known x2.Record.Number v4),(i64.wrap (v+1)),f))) else some (.inr (known,f))
def zeJ (b:List UInt8) (rv:((List zc)×Int×Int)) (known:List (Int×(List zc))) (v:Int) (f:List Str):Option ((List (Int×(List zc)))×(List Str)):=zac (fun s=>zdn b rv s.1 s.2.1 s.2.2) (known,v,f)
def zdo (b:List UInt8) (q:((List (Int×(List zc)))×(List Str))) (xc:(List ze)->zd->(List UInt8)->(List zc)->Option za) (sv:List ze) (v5:List Int) (x:ze) (v6:Int) (f3:List za):Option ((Int×(List za))⊕(List za)):=if (decide (v6<(v5.length:Int))) then (idx v5 v6>>=fun x3=>idx ((mget q.1 x3).getD []) 0>>=fun x4=>idx x.Fields x4.Field>>=fun x5=>xc sv x5 b ((mget q.1 x3).getD [])>>=fun wo=>zeW wo>>=fun wy=>if (decide (wy>0)) then (app 80 f3 ([wo]:List za)>>=fun v7=>some (.inl ((i64.wrap (v6+1)),v7))) else some (.inl ((i64.wrap (v6+1)),f3))) else some (.inr f3)
def zeK (b:List UInt8) (q:((List (Int×(List zc)))×(List Str))) (xc:(List ze)->zd->(List UInt8)->(List zc)->Option za) (sv:List ze) (v5:List Int) (x:ze) (v6:Int) (f3:List za):Option (List za):=zac (fun s=>zdo b q xc sv v5 x s.1 s.2) (v6,f3)
def zgE (xb:(List ze)->Int->(List UInt8)->Option zb) (xk:(List ze)->zd->(List UInt8)->(List zc)->Option (List zb)) (xc:(List ze)->zd->(List UInt8)->(List zc)->Option za) (sv:List ze) (message:Int) (b:List UInt8):Option zb:=idx sv message>>=fun x=>zmm x b>>=fun rv=>zeJ b rv ([]:List (Int×(List zc))) 0 []>>=fun q=>zqI q.1>>=fun v5=>zeK b q xc sv v5 x 0 []>>=fun q2=>some (⟨q2,q.2⟩:zb)
def zfO (b:List UInt8) (l:List zc) (pieces:List (List UInt8)) (v2:Int):Option (((List (List UInt8))×Int)⊕(List (List UInt8))):=if (decide (v2<(l.length:Int))) then (idx l v2>>=fun x=>cut b x.Record.At x.Record.To>>=fun v3=>idx pieces v2>>=fun x2=>some (.inl ((pieces.set (Int.toNat v2) v3),(i64.wrap (v2+1))))) else some (.inr pieces)
def zgR (b:List UInt8) (l:List zc) (pieces:List (List UInt8)) (v2:Int):Option (List (List UInt8)):=zac (fun s=>zfO b l s.1 s.2) (pieces,v2)
def zfP (f:zd) (p:List (List UInt8)) (xb:(List ze)->Int->(List UInt8)->Option zb) (sv:List ze) (all:List zb) (v6:Int):Option (((List zb)×Int)⊕(List zb)):=if (decide (v6<(p.length:Int))) then (idx p v6>>=fun x3=>xb sv f.Of x3>>=fun wo=>idx all v6>>=fun x4=>some (.inl ((all.set (Int.toNat v6) wo),(i64.wrap (v6+1))))) else some (.inr all)
def zgS (f:zd) (p:List (List UInt8)) (xb:(List ze)->Int->(List UInt8)->Option zb) (sv:List ze) (all:List zb) (v6:Int):Option (List zb):=zac (fun s=>zfP f p xb sv s.1 s.2) (all,v6)
def zhF (xb:(List ze)->Int->(List UInt8)->Option zb) (xk:(List ze)->zd->(List UInt8)->(List zc)->Option (List zb)) (xc:(List ze)->zd->(List UInt8)->(List zc)->Option za) (sv:List ze) (f:zd) (b:List UInt8) (l:List zc):Option (List zb):=mkO 24 ([]:List UInt8) (l.length:Int) (l.length:Int)>>=fun v=>zgR b l v 0>>=fun q=>((if ((!f.Repeated)&&(decide ((q.length:Int)>1))) then (zbe q>>=fun rv=>some ([rv]:List (List UInt8))) else (some q) :Option (List (List UInt8))))>>=fun p=>mkO 48 ((⟨[],[]⟩:zb):zb) (p.length:Int) (p.length:Int)>>=fun v5=>zgS f p xb sv v5 0>>=fun q2=>some q2
def zgT (xb:(List ze)->Int->(List UInt8)->Option zb) (xk:(List ze)->zd->(List UInt8)->(List zc)->Option (List zb)) (xc:(List ze)->zd->(List UInt8)->(List zc)->Option za) (sv:List ze) (f:zd) (b:List UInt8) (l:List zc):Option za:=((if ((!f.Repeated)&&(f.Kind !=17)) then (cut l (i64.wrap ((l.length:Int) - 1)) (l.length:Int)>>=fun v2=>some v2) else (some l) :Option (List zc)))>>=fun p=>if (f.Kind==17) then (xk sv f b p>>=fun rv=>some (⟨f.Number,[],[],rv⟩:za)) else ((if (f.Kind==15) then some (f.Kind==15) else (some (f.Kind==16)) :Option Bool))>>=fun p2=>if p2 then (zku b p>>=fun wo=>some (⟨f.Number,[],wo,[]⟩:za)) else zkv f.Kind b p>>=fun wy=>some (⟨f.Number,wy,[],[]⟩:za)
def zV:Nat->((List ze)->Int->(List UInt8)->Option zb)×((List ze)->zd->(List UInt8)->(List zc)->Option (List zb))×((List ze)->zd->(List UInt8)->(List zc)->Option za) | 0=>(fun _ _ _=>none,fun _ _ _ _=>none,fun _ _ _ _=>none) | fuel+1=>(fun sv message b=>zgE (zV fuel).1 (zV fuel).2.1 (zV fuel).2.2 sv message b,fun sv f b l=>zhF (zV fuel).1 (zV fuel).2.1 (zV fuel).2.2 sv f b l,fun sv f b l=>zgT (zV fuel).1 (zV fuel).2.1 (zV fuel).2.2 sv f b l)
def zee (fuel:Nat):(List ze)->Int->(List UInt8)->Option zb:=(zV fuel).1
def zpk (fuel:Nat):(List ze)->zd->(List UInt8)->(List zc)->Option (List zb):=(zV fuel).2.1
def ziJ (fuel:Nat):(List ze)->zd->(List UInt8)->(List zc)->Option za:=(zV fuel).2.2
theorem zjz (h:zdn b rv known v f=some (.inl (known',v',f'))):zeJ b rv known v f=zeJ b rv known' v' f':=zE h
theorem zpw (h:zdn b rv known v f=some (.inr wx)):zeJ b rv known v f=some wx:=zF h
theorem zjA {f3:List za} (h:zdo b q xc sv v5 x v6 f3=some (.inl (v6',f3'))):zeK b q xc sv v5 x v6 f3=zeK b q xc sv v5 x v6' f3':=zE h
theorem zpx {f3:List za} (h:zdo b q xc sv v5 x v6 f3=some (.inr wx)):zeK b q xc sv v5 x v6 f3=some wx:=zF h
theorem zsr (h:zfO b l pieces v2=some (.inl (pieces',v2'))):zgR b l pieces v2=zgR b l pieces' v2':=zE h
theorem zss (h:zfO b l pieces v2=some (.inr wx)):zgR b l pieces v2=some wx:=zF h
theorem zst (h:zfP f p xb sv all v6=some (.inl (all',v6'))):zgS f p xb sv all v6=zgS f p xb sv all' v6':=zE h
theorem zsu (h:zfP f p xb sv all v6=some (.inr wx)):zgS f p xb sv all v6=some wx:=zF h
def zrs (fuel:Nat) (sv:List ze) (root:Int) (b:List UInt8) (d:Int):Option (zb×Int):=zgH fuel sv root b d>>=fun rv=>if (rv.2 !=0) then some ((⟨[],[]⟩:zb),rv.2) else zee fuel sv root b>>=fun wo=>some (wo,0)
def zdT (v:za):Option Int:=some (i64.wrap ((i64.wrap ((v.Words.length:Int)+(v.Texts.length:Int)))+(v.Subs.length:Int)))
def zbN (av:zb) (b:zb) (xh:za->za->Option Bool) (i:Int):Option (Int⊕(Unit⊕Unit)):=if (decide (i<(av.Values.length:Int))) then (idx av.Values i>>=fun x=>idx b.Values i>>=fun x2=>xh x x2>>=fun rv=>if (!rv) then some (.inr (.inr ())) else some (.inl (i64.wrap (i+1)))) else some (.inr (.inl ()))
def zcJ (av:zb) (b:zb) (xh:za->za->Option Bool) (i:Int):Option (Unit⊕Unit):=zac (fun s=>zbN av b xh s) i
def zbO (av:zb) (b:zb) (i2:Int):Option (Int⊕(Unit⊕Unit)):=if (decide (i2<(av.Unknown.length:Int))) then (idx av.Unknown i2>>=fun x3=>idx b.Unknown i2>>=fun x4=>if (!(x3==x4)) then some (.inr (.inr ())) else some (.inl (i64.wrap (i2+1)))) else some (.inr (.inl ()))
def zcK (av:zb) (b:zb) (i2:Int):Option (Unit⊕Unit):=zac (fun s=>zbO av b s) i2
def zdZ (xg:zb->zb->Option Bool) (xh:za->za->Option Bool) (av:zb) (b:zb):Option Bool:=if (((av.Values.length:Int) !=(b.Values.length:Int))|| ((av.Unknown.length:Int) !=(b.Unknown.length:Int))) then some false else (zcJ av b xh 0>>=fun q=>match q with | .inl u=>(zcK av b 0>>=fun q2=>match q2 with | .inl u2=>(some true) | .inr u3=>(some false)) | .inr u4=>(some false))
def zaL (av:za) (b:za) (i:Int):Option (Int⊕(Unit⊕Unit)):=if (decide (i<(av.Words.length:Int))) then (idx av.Words i>>=fun x=>idx b.Words i>>=fun x2=>if (x !=x2) then some (.inr (.inr ())) else some (.inl (i64.wrap (i+1)))) else some (.inr (.inl ()))
def zbh (av:za) (b:za) (i:Int):Option (Unit⊕Unit):=zac (fun s=>zaL av b s) i
def zaM (av:za) (b:za) (i2:Int):Option (Int⊕(Unit⊕Unit)):=if (decide (i2<(av.Texts.length:Int))) then (idx av.Texts i2>>=fun x3=>idx b.Texts i2>>=fun x4=>if (!(x3==x4)) then some (.inr (.inr ())) else some (.inl (i64.wrap (i2+1)))) else some (.inr (.inl ()))
def zbi (av:za) (b:za) (i2:Int):Option (Unit⊕Unit):=zac (fun s=>zaM av b s) i2
def zaN (av:za) (b:za) (xg:zb->zb->Option Bool) (i3:Int):Option (Int⊕(Unit⊕Unit)):=if (decide (i3<(av.Subs.length:Int))) then (idx av.Subs i3>>=fun x5=>idx b.Subs i3>>=fun x6=>xg x5 x6>>=fun rv=>if (!rv) then some (.inr (.inr ())) else some (.inl (i64.wrap (i3+1)))) else some (.inr (.inl ()))
def zbj (av:za) (b:za) (xg:zb->zb->Option Bool) (i3:Int):Option (Unit⊕Unit):=zac (fun s=>zaN av b xg s) i3
def zcn (xg:zb->zb->Option Bool) (xh:za->za->Option Bool) (av:za) (b:za):Option Bool:=if ((av.Number !=b.Number)|| (((av.Words.length:Int) !=(b.Words.length:Int))|| (((av.Texts.length:Int) !=(b.Texts.length:Int))|| ((av.Subs.length:Int) !=(b.Subs.length:Int))))) then some false else (zbh av b 0>>=fun q=>match q with | .inl u=>(zbi av b 0>>=fun q2=>match q2 with | .inl u2=>(zbj av b xg 0>>=fun q3=>match q3 with | .inl u3=>(some true) | .inr u4=>(some false)) | .inr u5=>(some false)) | .inr u6=>(some false))
def zaa:Nat->(zb->zb->Option Bool)×(za->za->Option Bool) | 0=>(fun _ _=>none,fun _ _=>none) | fuel+1=>(fun av b=>zdZ (zaa fuel).1 (zaa fuel).2 av b,fun av b=>zcn (zaa fuel).1 (zaa fuel).2 av b)
def zaR (fuel:Nat):zb->zb->Option Bool:=(zaa fuel).1
def zbm (fuel:Nat):za->za->Option Bool:=(zaa fuel).2
theorem zlv (h:zbN av b xh i=some (.inl i')):zcJ av b xh i=zcJ av b xh i':=zE h
theorem zhe (h:zbN av b xh i=some (.inr wx)):zcJ av b xh i=some wx:=zF h
theorem zlw (h:zbO av b i2=some (.inl i2')):zcK av b i2=zcK av b i2':=zE h
theorem zhf (h:zbO av b i2=some (.inr wx)):zcK av b i2=some wx:=zF h
theorem ziY (h:zaL av b i=some (.inl i')):zbh av b i=zbh av b i':=zE h
theorem zfA (h:zaL av b i=some (.inr wx)):zbh av b i=some wx:=zF h
theorem ziZ (h:zaM av b i2=some (.inl i2')):zbi av b i2=zbi av b i2':=zE h
theorem zfB (h:zaM av b i2=some (.inr wx)):zbi av b i2=some wx:=zF h
theorem zja (h:zaN av b xg i3=some (.inl i3')):zbj av b xg i3=zbj av b xg i3':=zE h
theorem zfC (h:zaN av b xg i3=some (.inr wx)):zbj av b xg i3=some wx:=zF h
def zbM (b:List UInt8) (i:Int) (xa:(List ze)->Int->(List UInt8)->Option zb) (rv:((List zD)×Int×Int)) (wo:List Int) (sv:List ze) (x5:zd) (wN:List UInt8) (met:Bool) (k:Int) (f3:List Int) (f4:List Str) (f5:List zb):Option (((List UInt8)×Bool×Int×(List Int)×(List Str)×(List zb))⊕((List UInt8)×Bool×(List Int)×(List Str)×(List zb))):=if (decide (k<(rv.1.length:Int))) then (idx rv.1 k>>=fun x6=>idx wo i>>=fun x7=>if (x6.Field !=x7) then some (.inl (wN,met,(i64.wrap (k+1)),f3,f4,f5)) else idx rv.1 k>>=fun x8=>idx rv.1 k>>=fun x9=>cut b x8.R.At x9.R.To>>=fun v=>((if (!x5.Repeated) then some ([],[]) else (some (f3,f4)) :Option ((List Int)×(List Str))))>>=fun p=>idx rv.1 k>>=fun x10=>if x10.Run then (zeq x5.Kind v>>=fun wy=>app 8 p.1 wy.1>>=fun v2=>some (.inl (wN,true,(i64.wrap (k+1)),v2,p.2,f5))) else zba x5.Kind>>=fun rv4=>if rv4 then (zdQ x5.Kind v>>=fun rv5=>app 8 p.1 ([rv5.1]:List Int)>>=fun v3=>some (.inl (wN,true,(i64.wrap (k+1)),v3,p.2,f5))) else if ((x5.Kind==17)&&x5.Repeated) then (xa sv x5.Of v>>=fun rv6=>app 48 f5 ([rv6]:List zb)>>=fun v5=>some (.inl (wN,true,(i64.wrap (k+1)),p.1,p.2,v5))) else if (x5.Kind==17) then (app 1 wN v>>=fun v6=>some (.inl (v6,true,(i64.wrap (k+1)),p.1,p.2,f5))) else app 16 p.2 ([v]:List Str)>>=fun v7=>some (.inl (wN,true,(i64.wrap (k+1)),p.1,v7,f5))) else some (.inr (wN,met,f3,f4,f5))
def zdC (b:List UInt8) (i:Int) (xa:(List ze)->Int->(List UInt8)->Option zb) (rv:((List zD)×Int×Int)) (wo:List Int) (sv:List ze) (x5:zd) (wN:List UInt8) (met:Bool) (k:Int) (f3:List Int) (f4:List Str) (f5:List zb):Option ((List UInt8)×Bool×(List Int)×(List Str)×(List zb)):=zac (fun s=>zbM b i xa rv wo sv x5 s.1 s.2.1 s.2.2.1 s.2.2.2.1 s.2.2.2.2.1 s.2.2.2.2.2) (wN,met,k,f3,f4,f5)
def zbL (b:List UInt8) (xa:(List ze)->Int->(List UInt8)->Option zb) (root:Int) (rv:((List zD)×Int×Int)) (wo:List Int) (sv:List ze) (i:Int) (f:List za):Option ((Int×(List za))⊕(List za)):=if (decide (i<(wo.length:Int))) then (idx sv root>>=fun x3=>idx wo i>>=fun x4=>idx x3.Fields x4>>=fun x5=>zdC b i xa rv wo sv x5 [] false 0 [] [] []>>=fun q=>((if (q.2.1&&((x5.Kind==17)&&(!x5.Repeated))) then (xa sv x5.Of q.1>>=fun rv7=>some ([rv7]:List zb)) else (some q.2.2.2.2) :Option (List zb)))>>=fun p2=>zdT (⟨x5.Number,q.2.2.1,q.2.2.2.1,p2⟩:za)>>=fun rv8=>if (decide (rv8>0)) then (app 80 f ([(⟨x5.Number,q.2.2.1,q.2.2.2.1,p2⟩:za)]:List za)>>=fun v9=>some (.inl ((i64.wrap (i+1)),v9))) else some (.inl ((i64.wrap (i+1)),f))) else some (.inr f)
def zdB (b:List UInt8) (xa:(List ze)->Int->(List UInt8)->Option zb) (root:Int) (rv:((List zD)×Int×Int)) (wo:List Int) (sv:List ze) (i:Int) (f:List za):Option (List za):=zac (fun s=>zbL b xa root rv wo sv s.1 s.2) (i,f)
def zaU (b:List UInt8) (rv:((List zD)×Int×Int)) (k2:Int) (f12:List Str):Option ((Int×(List Str))⊕(List Str)):=if (decide (k2<(rv.1.length:Int))) then (idx rv.1 k2>>=fun x11=>if (decide (x11.Field<0)) then (idx rv.1 k2>>=fun x12=>idx rv.1 k2>>=fun x13=>cut b x12.R.From x13.R.To>>=fun v10=>app 16 f12 ([v10]:List Str)>>=fun v11=>some (.inl ((i64.wrap (k2+1)),v11))) else some (.inl ((i64.wrap (k2+1)),f12))) else some (.inr f12)
def zdD (b:List UInt8) (rv:((List zD)×Int×Int)) (k2:Int) (f12:List Str):Option (List Str):=zac (fun s=>zaU b rv s.1 s.2) (k2,f12)
def zeS (xa:(List ze)->Int->(List UInt8)->Option zb) (sv:List ze) (root:Int) (b:List UInt8):Option zb:=idx sv root>>=fun x=>zfo x b>>=fun rv=>idx sv root>>=fun x2=>zdY x2>>=fun wo=>zdB b xa root rv wo sv 0 []>>=fun q2=>zdD b rv 0 []>>=fun q3=>some (⟨q2,q3⟩:zb)
def zbS:Nat->(List ze)->Int->(List UInt8)->Option zb | 0,_,_,_=>none | fuel+1,sv,root,b=>zeS (zbS fuel) sv root b
theorem zhP {b:List UInt8} {i:Int} {xa:(List ze)->Int->(List UInt8)->Option zb} {rv:((List zD)×Int×Int)} {wo:List Int} {sv:List ze} {x5:zd} {wN:List UInt8} {met:Bool} {k:Int} {f3:List Int} {f4:List Str} {f5:List zb} {joined':List UInt8} {wD:Bool} {k':Int} {f3':List Int} {f4':List Str} {f5':List zb} (h:zbM b i xa rv wo sv x5 wN met k f3 f4 f5=some (.inl (joined',wD,k',f3',f4',f5'))):zdC b i xa rv wo sv x5 wN met k f3 f4 f5=zdC b i xa rv wo sv x5 joined' wD k' f3' f4' f5':=zE h
theorem zmE {b:List UInt8} {i:Int} {xa:(List ze)->Int->(List UInt8)->Option zb} {rv:((List zD)×Int×Int)} {wo:List Int} {sv:List ze} {x5:zd} {wN:List UInt8} {met:Bool} {k:Int} {f3:List Int} {f4:List Str} {f5:List zb} {wx:((List UInt8)×Bool×(List Int)×(List Str)×(List zb))} (h:zbM b i xa rv wo sv x5 wN met k f3 f4 f5=some (.inr wx)):zdC b i xa rv wo sv x5 wN met k f3 f4 f5=some wx:=zF h
theorem zmC {b:List UInt8} {xa:(List ze)->Int->(List UInt8)->Option zb} {root:Int} {rv:((List zD)×Int×Int)} {wo:List Int} {sv:List ze} {i:Int} {f:List za} {i':Int} {f':List za} (h:zbL b xa root rv wo sv i f=some (.inl (i',f'))):zdB b xa root rv wo sv i f=zdB b xa root rv wo sv i' f':=zE h
theorem zmD {b:List UInt8} {xa:(List ze)->Int->(List UInt8)->Option zb} {root:Int} {rv:((List zD)×Int×Int)} {wo:List Int} {sv:List ze} {i:Int} {f:List za} {wx:List za} (h:zbL b xa root rv wo sv i f=some (.inr wx)):zdB b xa root rv wo sv i f=some wx:=zF h
theorem zhQ {b:List UInt8} {rv:((List zD)×Int×Int)} {k2:Int} {f12:List Str} {k2':Int} {f12':List Str} (h:zaU b rv k2 f12=some (.inl (k2',f12'))):zdD b rv k2 f12=zdD b rv k2' f12':=zE h
theorem zmF {b:List UInt8} {rv:((List zD)×Int×Int)} {k2:Int} {f12:List Str} {wx:List Str} (h:zaU b rv k2 f12=some (.inr wx)):zdD b rv k2 f12=some wx:=zF h
def zcf (number:Int) (x:zb) (i:Int):Option (Int⊕(Unit⊕Int)):=if (decide (i<(x.Values.length:Int))) then (idx x.Values i>>=fun x2=>if (x2.Number==number) then some (.inr (.inr i)) else some (.inl (i64.wrap (i+1)))) else some (.inr (.inl ()))
def zdi (number:Int) (x:zb) (i:Int):Option (Unit⊕Int):=zac (fun s=>zcf number x s) i
def zfq (x:zb) (number:Int):Option Int:=zdi number x 0>>=fun q=>match q with | .inl u=>(some (-1)) | .inr u2=>(some u2)
theorem zlN (h:zcf number x i=some (.inl i')):zdi number x i=zdi number x i':=zE h
theorem zhq (h:zcf number x i=some (.inr wx)):zdi number x i=some wx:=zF h
def zcg (v:za) (x:zb) (done:Bool) (i:Int) (f:List za):Option ((Bool×Int×(List za))⊕(Bool×(List za))):=if (decide (i<(x.Values.length:Int))) then ((if (!done) then (idx x.Values i>>=fun x2=>some (decide (x2.Number>=v.Number))) else some false)>>=fun g=>((if g then (app 80 f ([v]:List za)>>=fun v3=>some (true,v3)) else (some (done,f)) :Option (Bool×(List za))))>>=fun p=>idx x.Values i>>=fun x3=>if (x3.Number !=v.Number) then (idx x.Values i>>=fun x4=>app 80 p.2 ([x4]:List za)>>=fun v4=>some (.inl (p.1,(i64.wrap (i+1)),v4))) else some (.inl (p.1,(i64.wrap (i+1)),p.2))) else some (.inr (done,f))
def zdj (v:za) (x:zb) (done:Bool) (i:Int) (f:List za):Option (Bool×(List za)):=zac (fun s=>zcg v x s.1 s.2.1 s.2.2) (done,i,f)
def zbX (x:zb) (v:za):Option zb:=zdT v>>=fun rv=>zdj v x (rv==0) 0 []>>=fun q=>if (!q.1) then (app 80 q.2 ([v]:List za)>>=fun v5=>some (⟨v5,x.Unknown⟩:zb)) else some (⟨q.2,x.Unknown⟩:zb)
theorem zlO (h:zcg v x done i f=some (.inl (done',i',f'))):zdj v x done i f=zdj v x done' i' f':=zE h
theorem zlP (h:zcg v x done i f=some (.inr wx)):zdj v x done i f=some wx:=zF h
def zbP (av:zb) (b:zb) (xi:(List ze)->Int->zb->zb->Option zb) (root:Int) (sv:List ze) (i:Int) (f:List za) (f2:List Str):Option ((Int×(List za)×(List Str))⊕((List za)×(List Str))):=if (decide (i<(b.Values.length:Int))) then (idx b.Values i>>=fun x=>idx sv root>>=fun x2=>idx sv root>>=fun x3=>zdA x3 x.Number>>=fun rv=>idx x2.Fields rv>>=fun x4=>zfq av x.Number>>=fun wo=>if (decide (wo>=0)) then (idx av.Values wo>>=fun x5=>if x4.Repeated then (app 8 ([]:List Int) x5.Words>>=fun v=>app 8 v x.Words>>=fun v2=>app 16 ([]:List Str) x5.Texts>>=fun v3=>app 16 v3 x.Texts>>=fun v4=>app 48 ([]:List zb) x5.Subs>>=fun v5=>app 48 v5 x.Subs>>=fun v6=>zbX (⟨f,f2⟩:zb) (⟨x.Number,v2,v4,v6⟩:za)>>=fun wy=>some (.inl ((i64.wrap (i+1)),wy.Values,wy.Unknown))) else if (x4.Kind==17) then (idx x5.Subs 0>>=fun x6=>idx x.Subs 0>>=fun x7=>xi sv x4.Of x6 x7>>=fun rv4=>zbX (⟨f,f2⟩:zb) (⟨x.Number,[],[],([rv4]:List zb)⟩:za)>>=fun rv5=>some (.inl ((i64.wrap (i+1)),rv5.Values,rv5.Unknown))) else zbX (⟨f,f2⟩:zb) x>>=fun rv6=>some (.inl ((i64.wrap (i+1)),rv6.Values,rv6.Unknown))) else zbX (⟨f,f2⟩:zb) x>>=fun rv7=>some (.inl ((i64.wrap (i+1)),rv7.Values,rv7.Unknown))) else some (.inr (f,f2))
def zcL (av:zb) (b:zb) (xi:(List ze)->Int->zb->zb->Option zb) (root:Int) (sv:List ze) (i:Int) (f:List za) (f2:List Str):Option ((List za)×(List Str)):=zac (fun s=>zbP av b xi root sv s.1 s.2.1 s.2.2) (i,f,f2)
def zea (xi:(List ze)->Int->zb->zb->Option zb) (sv:List ze) (root:Int) (av:zb) (b:zb):Option zb:=zcL av b xi root sv 0 av.Values av.Unknown>>=fun q=>app 16 ([]:List Str) av.Unknown>>=fun v7=>app 16 v7 b.Unknown>>=fun v8=>some (⟨q.1,v8⟩:zb)
def zcZ:Nat->(List ze)->Int->zb->zb->Option zb | 0,_,_,_,_=>none | fuel+1,sv,root,av,b=>zea (zcZ fuel) sv root av b
theorem zlx {f2:List Str} (h:zbP av b xi root sv i f f2=some (.inl (i',f',f2'))):zcL av b xi root sv i f f2=zcL av b xi root sv i' f' f2':=zE h
theorem zly {f2:List Str} (h:zbP av b xi root sv i f f2=some (.inr wx)):zcL av b xi root sv i f f2=some wx:=zF h
def zhx (fuel:Nat) (sv:List ze) (root:Int) (av:List UInt8) (b:List UInt8) (d:Int):Option Int:=zgH fuel sv root av d>>=fun rv=>if (rv.2 !=0) then some rv.2 else zgH fuel sv root b d>>=fun wo=>some wo.2
def zjO (fuel:Nat) (sv:List ze) (root:Int) (av:List UInt8) (b:List UInt8) (d:Int):Option ((List UInt8)×Int):=zhx fuel sv root av b d>>=fun rv=>if (rv !=0) then some ([],rv) else zbe ([av,b]:List (List UInt8))>>=fun wo=>some (wo,0)
def zhy (m:ze) (b:List UInt8):Option (List zc):=zmm m b>>=fun rv=>some rv.1
def zch (m:ze) (rv:List zc) (fields:List (Int×Bool)) (v:Int):Option (((List (Int×Bool))×Int)⊕(List (Int×Bool))):=if (decide (v<(rv.length:Int))) then (idx rv v>>=fun x=>(if (x.Field !=(-1)) then (idx m.Fields x.Field>>=fun x2=>if (!x2.Repeated) then (idx m.Fields x.Field>>=fun x3=>some (x3.Kind !=17)) else some false) else some false)>>=fun g=>if g then some (.inl ((mput fields x.Field true),(i64.wrap (v+1)))) else some (.inl (fields,(i64.wrap (v+1))))) else some (.inr fields)
def zdf (m:ze) (rv:List zc) (fields:List (Int×Bool)) (v:Int):Option (List (Int×Bool)):=zac (fun s=>zch m rv s.1 s.2) (fields,v)
def zgA (m:ze) (b:List UInt8):Option (List (Int×Bool)):=zhy m b>>=fun rv=>zdf m rv ([]:List (Int×Bool)) 0>>=fun q=>some q
theorem zij {m:ze} {rv:List zc} {fields:List (Int×Bool)} {v:Int} {fields':List (Int×Bool)} {v':Int} (h:zch m rv fields v=some (.inl (fields',v'))):zdf m rv fields v=zdf m rv fields' v':=zE h
theorem znx {m:ze} {rv:List zc} {fields:List (Int×Bool)} {v:Int} {wx:List (Int×Bool)} (h:zch m rv fields v=some (.inr wx)):zdf m rv fields v=some wx:=zF h
def zeg (wo:List (Int×Bool)) (wy:List zc) (gone:Int) (v:Int):Option ((Int×Int)⊕Int):=if (decide (v<(wy.length:Int))) then (idx wy v>>=fun x2=>if ((mget wo x2.Field).getD false) then some (.inl ((i64.wrap (gone+1)),(i64.wrap (v+1)))) else some (.inl (gone,(i64.wrap (v+1))))) else some (.inr gone)
def zgd (wo:List (Int×Bool)) (wy:List zc) (gone:Int) (v:Int):Option Int:=zac (fun s=>zeg wo wy s.1 s.2) (gone,v)
def ziA (fuel:Nat) (sv:List ze) (root:Int) (av:List UInt8) (b:List UInt8) (d:Int):Option (Int×Int):=zhx fuel sv root av b d>>=fun rv=>if (rv !=0) then some (0,rv) else idx sv root>>=fun x=>zgA x b>>=fun wo=>zhy x av>>=fun wy=>zgd wo wy 0 0>>=fun q=>some (q,0)
theorem zkW {wo:List (Int×Bool)} {wy:List zc} {gone:Int} {v:Int} {gone':Int} {v':Int} (h:zeg wo wy gone v=some (.inl (gone',v'))):zgd wo wy gone v=zgd wo wy gone' v':=zE h
theorem zqS {wo:List (Int×Bool)} {wy:List zc} {gone:Int} {v:Int} {wx:Int} (h:zeg wo wy gone v=some (.inr wx)):zgd wo wy gone v=some wx:=zF h
def zek (fuel:Nat):Option Bool:=zjO fuel ([(⟨[109],([(⟨[97],1,3,false,false,0⟩:zd)]:List zd)⟩:ze)]:List ze) 0 ([(8:UInt8),(1:UInt8)]:List UInt8) ([(8:UInt8),(2:UInt8)]:List UInt8) 0>>=fun rv=>ziA fuel ([(⟨[109],([(⟨[97],1,3,false,false,0⟩:zd)]:List zd)⟩:ze)]:List ze) 0 ([(8:UInt8),(1:UInt8)]:List UInt8) ([(8:UInt8),(2:UInt8)]:List UInt8) 0>>=fun wo=>(if ((i64.wrap ((i64.wrap rv.2)+(i64.wrap wo.2)))==0) then (if (wo.1==1) then (zgo rv.1 ([(8:UInt8),(1:UInt8),(8:UInt8),(2:UInt8)]:List UInt8)>>=fun wy=>some wy) else some false) else some false)>>=fun g=>some g
def zcB (fuel:Nat) (sv:List ze) (root:Int) (av:List UInt8) (b:List UInt8) (d:Int):Option Bool:=zek fuel>>=fun rv=>if (!rv) then some false else (zfm sv>>=fun wo=>if ((!wo)|| (decide ((i64.wrap ((av.length:Int)+(b.length:Int)))>1500))) then some true else zjO fuel sv root av b d>>=fun wy=>zcy fuel sv root av d>>=fun rv4=>((if (rv4.2==0) then (zcy fuel sv root b d>>=fun rv5=>some rv5.2) else (some rv4.2) :Option Int))>>=fun p=>if (p !=0) then some (((i64.wrap wy.2)==p)&&((wy.1.length:Int)==0)) else zrs fuel sv root wy.1 d>>=fun rv6=>zbS fuel sv root av>>=fun rv7=>zbS fuel sv root b>>=fun rv8=>zcZ fuel sv root rv7 rv8>>=fun rv9=>(if ((i64.wrap ((i64.wrap wy.2)+(i64.wrap rv6.2)))==0) then (if ((wy.1.length:Int)==(i64.wrap ((av.length:Int)+(b.length:Int)))) then (zfR fuel sv root wy.1 d>>=fun rv10=>if rv10 then (zbS fuel sv root wy.1>>=fun rv11=>zaR fuel rv11 rv9>>=fun rv12=>if rv12 then (zcs fuel rv6.1>>=fun rv13=>zaR fuel rv13 rv9>>=fun rv14=>some rv14) else some false) else some false) else some false) else some false)>>=fun g=>some g)
end
end Go.Proofs.YtnckiilakdkklaaGreat
