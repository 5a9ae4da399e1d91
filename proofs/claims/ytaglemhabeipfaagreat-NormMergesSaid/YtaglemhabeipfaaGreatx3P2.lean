/-
  What the plain functions are. No condition.
-/
import Derived.Test.YtaglemhabeipfaaGreatx3P1
import Derived.Test.YtaglemhabeipfaaGreatx3S1
import Derived.Test.YtaglemhabeipfaaGreatx3K3
import Derived.Test.YtaglemhabeipfaaGreatx3K1
set_option autoImplicit true
set_option relaxedAutoImplicit true
namespace Go.Proofs.YtaglemhabeipfaaGreat
open Go.IntKind (i64 u32 u64)
open Go
theorem zGj:∀a<256,zoO ((a:Nat):Int)=some (if a<128 then (1,(a:Int)) else if a/32=6 then (2,((a%32:Nat):Int)) else if a/16=14 then (3,((a%16:Nat):Int)) else if a/8=30 then (4,((a%8:Nat):Int)) else (0,0)):=by decide+kernel
theorem zwa (w k:Nat) (h:k<=32):shrI .u32 (w:Int) (k:Int)=((w/2^k:Nat):Int):=zoF (k:= .u32) (a:=w) (b:=k) (by simpa [IntKind.bits] using h)
theorem zqZ (w:Nat):zkb (w:Int)=some (if w<128 then 1 else if w<2048 then 2 else if 55296<=w/\w<=57343 then 0 else if w<65536 then 3 else if w<=1114111 then 4 else 0):=by
 unfold zkb;have e7:shrI .u32 (w:Int) 7=((w/128:Nat):Int):=zwa w 7 (by omega);have e11:shrI .u32 (w:Int) 11=((w/2048:Nat):Int):=zwa w 11 (by omega);have e16:shrI .u32 (w:Int) 16=((w/65536:Nat):Int):=zwa w 16 (by omega);rw [e7,e11,e16];by_cases h1:w<128
 ·rw [ui,xm h1]
 ·rw [uj,xl h1];by_cases h2:w<2048
  ·rw [ui,xm h2]
  ·rw [uj,xl h2];by_cases h3:55296<=w/\w<=57343
   ·rw [ui,xm h3]
   ·rw [uj,xl h3];by_cases h4:w<65536
    ·rw [ui,xm h4]
    ·rw [uj,xl h4];by_cases h5:w<=1114111
     ·rw [ui,xm h5]
     ·rw [uj,xl h5]
theorem zBS:∀c<256,shrI .u8 ((c:Nat):Int) 6=((c/64:Nat):Int)/\u32.wrap (andI .u8 ((c:Nat):Int) 63)=((c%64:Nat):Int):=by decide+kernel
theorem zhT {v:List UInt8} {w i:Nat} (h:i<v.length) (hv:v.length<=1000) (hw:w<=1000000):
  zbl v w i=if cont v[i] then zbl v ((64*w+v[i].toNat%64:Nat):Int) ((i+1:Nat):Int) else some (.inr ()):=by
 have hc:=v[i].toNat_lt;obtain ⟨e1,e2⟩:=zBS v[i].toNat (by omega);have hb:zdV v w i=if cont v[i] then some (.inl (((64*w+v[i].toNat%64:Nat):Int),((i+1:Nat):Int))) else some (.inr (.inr ())):=by
  unfold zdV;rw [ui,zao rfl h,sb,e1,e2];by_cases hk:cont v[i]=true
  ·rw [xm hk];unfold cont at hk;simp only [xP] at hk;rw [uj,uk];have e3:shlI .u32 (w:Int) 6=((w*64:Nat):Int):=by
    have:shlI .u32 (w:Int) 6=((w*64%4294967296:Nat):Int):=by simp [shlI,IntKind.bits,zyA]
    rw [this,qi (by omega)]
   rw [e3,zrc rfl (by simp [IntKind.bits];omega) (by simp [IntKind.bits];omega),pp,zsz _ w 6 (by omega)];have e4:v[i].toNat%64+w*2^6=64*w+v[i].toNat%64:=by omega
   rw [e4];rfl
  ·rw [xl hk];unfold cont at hk;simp only [xP] at hk;rw [ui]
 by_cases hk:cont v[i]=true
 ·rw [xm hk] at hb|-;exact zqJ hb
 ·rw [xl hk] at hb|-;exact zkM hb
theorem zoe (h:v.length<=i):zbl v w i=some (.inl (w:Int)):=by
 refine zkM ?_;unfold zdV;rw [uj]
theorem zIP {w:Nat} {b:UInt8} (hw:w<=100):zbl [b] w 0=if cont b then some (.inl ((64*w+b.toNat%64:Nat):Int)) else some (.inr ()):=by
 have h:=zhT (v:=[b]) (w:=w) (i:=0) (by simp) (by simp) (by omega);refine Eq.trans h ?_;simp only [pW];rw [zoe (by simp)]
theorem zIQ {w:Nat} {b c:UInt8} (hw:w<=100):zbl [b,c] w 0=if cont b then (if cont c then some (.inl ((64*(64*w+b.toNat%64)+c.toNat%64:Nat):Int)) else some (.inr ())) else some (.inr ()):=by
 have h:=zhT (v:=[b,c]) (w:=w) (i:=0) (by simp) (by simp) (by omega);refine Eq.trans h ?_;rw [zhT (i:=0+1) (by simp) (by simp) (by omega)];simp only [pW,pV,xJ];rw [zoe (by simp)]
theorem zIR {w:Nat} {b c d:UInt8} (hw:w<=100):zbl [b,c,d] w 0=if cont b then (if cont c then (if cont d then some (.inl ((64*(64*(64*w+b.toNat%64)+c.toNat%64)+d.toNat%64:Nat):Int)) else some (.inr ())) else some (.inr ())) else some (.inr ()):=by
 have h:=zhT (v:=[b,c,d]) (w:=w) (i:=0) (by simp) (by simp) (by omega);refine Eq.trans h ?_;rw [zhT (i:=0+1) (by simp) (by simp) (by omega),zhT (i:=0+1+1) (by simp) (by simp) (by omega)];simp only [pW,pV,xJ];rw [zoe (by simp)]
theorem zEf (n:Nat) (h:∀m,m≠n->isN m l=false):nxt l=if isN n l then n else 0:=by
 by_cases hn:isN n l=true
 ·rw [xm hn,zHV hn]
 ·rw [xl hn];by_cases h0:nxt l=0
  ·exact h0
  ·have h1:=zrb h0;by_cases h2:nxt l=n
   ·rw [h2] at h1;exact absurd h1 hn
   ·rw [h _ h2] at h1;cases h1
theorem zjJ (n:Nat) (h:n=1/\a.toNat<128\/n=2/\192<=a.toNat/\a.toNat<224\/n=3/\224<=a.toNat/\a.toNat<240\/n=4/\240<=a.toNat):nxt (a::t)=if isN n (a::t) then n else 0:=by
 refine zEf n fun m hm=>?_
 cases hh:isN m (a::t) with
 | false=>rfl
 | true=>
  obtain ⟨a',t',e,_,g⟩:=zjB hh;cases e;omega
theorem zAD (b:List UInt8):zka b=some ((nxt b:Nat):Int):=by
 cases b with
 | nil=>rfl
 | cons a t=>
  have ha:=a.toNat_lt;unfold zka;have e00:idx (a::t) (0:Int)=some a:=zao (n:=0) rfl (by simp);rw [uj,e00,sb];rw [zGj _ (by omega),sb];by_cases h1:a.toNat<128
  ·rw [zjJ 1 (.inl ⟨rfl,h1⟩),xm h1];simp only;rw [uj,zfR (i:=1) (j:=1) (a:=1) (b:=1) rfl rfl (by omega) (by simp),sb];have e0:zbl (((a::t).drop 1).take (1 - 1)) (a.toNat:Int) 0=some (.inl (a.toNat:Int)):=zoe (i:=0) (by simp);rw [e0,sb];simp only;rw [zqZ,sb,xm h1,uh];simp [isN,is1,h1]
  ·rw [xl h1];by_cases h2:a.toNat/32=6
   ·rw [zjJ 2 (.inr (.inl ⟨rfl,by omega,by omega⟩)),xm h2];simp only
    match t with
    | []=>rw [itT (by simp)];rfl
    | b::t=>
     rw [uj,zfR (i:=1) (j:=2) (a:=1) (b:=2) rfl rfl (by omega) (by simp),sb];have e0:=zIP (w:=a.toNat%32) (b:=b) (by omega);have e0':zbl (((a::b::t).drop 1).take (2 - 1)) ((a.toNat%32:Nat):Int) 0=_:=e0;rw [e0'];have hb:=b.toNat_lt;by_cases c1:cont b=true
     ·rw [xm c1,sb];simp only;have hn:=zqZ (64*(a.toNat%32)+b.toNat%64);simp only [isN,is2,c1,qo,xP];simp only [cont,xP] at c1;by_cases h:194<=a.toNat
      ·rw [xl (by omega),xm (by omega)] at hn;rw [hn,sb,uh,xm (by omega)];rfl
      ·rw [xm (by omega)] at hn;rw [hn,sb,ug,xl (by omega)];rfl
     ·rw [xl c1,sb];simp only;simp [isN,is2,c1]
   ·rw [xl h2];by_cases h3:a.toNat/16=14
    ·rw [zjJ 3 (.inr (.inr (.inl ⟨rfl,by omega,by omega⟩))),xm h3];simp only
     match t with
     | []=>rw [itT (by simp)];rfl
     | [b]=>rw [itT (by simp)];rfl
     | b::c::t=>
      rw [uj,zfR (i:=1) (j:=3) (a:=1) (b:=3) rfl rfl (by omega) (by simp),sb];have e0:=zIQ (w:=a.toNat%16) (b:=b) (c:=c) (by omega);have e0':zbl (((a::b::c::t).drop 1).take (3 - 1)) ((a.toNat%16:Nat):Int) 0=_:=e0;rw [e0'];have hb:=b.toNat_lt;have hc:=c.toNat_lt;by_cases c1:cont b=true
      ·rw [xm c1];by_cases c2:cont c=true
       ·rw [xm c2,sb];simp only;have hn:=zqZ (64*(64*(a.toNat%16)+b.toNat%64)+c.toNat%64);simp only [isN,is3,c1,c2,y6,xP];simp only [cont,xP] at c1 c2;by_cases h:(a.toNat=224->160<=b.toNat)/\(a.toNat=237->b.toNat<160)
        ·rw [xl (by omega),xl (by omega),xl (by omega),xm (by omega)] at hn;rw [hn,sb,uh,xm (by omega)];rfl
        ·by_cases g:64*(64*(a.toNat%16)+b.toNat%64)+c.toNat%64<2048
         ·by_cases g':64*(64*(a.toNat%16)+b.toNat%64)+c.toNat%64<128
          ·rw [xm g'] at hn;rw [hn,sb,ug,xl (by omega)];rfl
          ·rw [xl g',xm g] at hn;rw [hn,sb,ug,xl (by omega)];rfl
         ·rw [xl (by omega),xl g,xm (by omega)] at hn;rw [hn,sb,ug,xl (by omega)];rfl
       ·rw [xl c2,sb];simp only;simp [isN,is3,c2]
      ·rw [xl c1,sb];simp only;simp [isN,is3,c1]
    ·rw [xl h3];by_cases h4:a.toNat/8=30
     ·rw [zjJ 4 (.inr (.inr (.inr ⟨rfl,by omega⟩))),xm h4];simp only
      match t with
      | []=>rw [itT (by simp)];rfl
      | [b]=>rw [itT (by simp)];rfl
      | [b,c]=>rw [itT (by simp)];rfl
      | b::c::d::t=>
       rw [uj,zfR (i:=1) (j:=4) (a:=1) (b:=4) rfl rfl (by omega) (by simp),sb];have e0:=zIR (w:=a.toNat%8) (b:=b) (c:=c) (d:=d) (by omega);have e0':zbl (((a::b::c::d::t).drop 1).take (4 - 1)) ((a.toNat%8:Nat):Int) 0=_:=e0;rw [e0'];have hb:=b.toNat_lt;have hc:=c.toNat_lt;have hd:=d.toNat_lt;by_cases c1:cont b=true
       ·rw [xm c1];by_cases c2:cont c=true
        ·rw [xm c2];by_cases c3:cont d=true
         ·rw [xm c3,sb];simp only;have hn:=zqZ (64*(64*(64*(a.toNat%8)+b.toNat%64)+c.toNat%64)+d.toNat%64);simp only [isN,is4,c1,c2,c3,y6,xP];simp only [cont,xP] at c1 c2 c3;by_cases h:a.toNat<245/\(a.toNat=240->144<=b.toNat)/\(a.toNat=244->b.toNat<144)
          ·rw [xl (by omega),xl (by omega),xl (by omega),xl (by omega),xm (by omega)] at hn;rw [hn,sb,uh,xm (by omega)];rfl
          ·have hw:¬(65536<=64*(64*(64*(a.toNat%8)+b.toNat%64)+c.toNat%64)+d.toNat%64/\64*(64*(64*(a.toNat%8)+b.toNat%64)+c.toNat%64)+d.toNat%64<=1114111):=by omega
           generalize 64*(64*(64*(a.toNat%8)+b.toNat%64)+c.toNat%64)+d.toNat%64=w at hn hw
           have hx:∃x:Int,zkb w=some x/\x≠4:=⟨_,hn,by (repeat' split)<;>omega⟩;obtain ⟨x,hx,h4⟩:=hx;rw [hx,sb,ui,xl (by omega)];rfl
         ·rw [xl c3,sb];simp only;simp [isN,is4,c3]
        ·rw [xl c2,sb];simp only;simp [isN,is4,c2]
       ·rw [xl c1,sb];simp only;simp [isN,is4,c1]
     ·rw [xl h4,ug];by_cases h5:240<=a.toNat
      ·rw [zjJ 4 (.inr (.inr (.inr ⟨rfl,h5⟩)))];cases hh:isN 4 (a::t) with
       | false=>rfl
       | true=>
        match t,hh with
        | b::c::d::t,hh=>simp only [isN,is4,xP] at hh;omega
      ·by_cases h0:nxt (a::t)=0
       ·rw [h0];rfl
       ·obtain ⟨a',t',e,_,g⟩:=zjB (zrb h0);cases e;omega
theorem zCG (hb:b.length<=1152921504606846976) (l:List UInt8):∀(a c:Nat),c<=a->a<=b.length->l=b.drop a->
  zeP b a c ((nxt l:Nat):Int)=some (((a+(pre4 l).1:Nat):Int),((c+(pre4 l).2:Nat):Int)):=by
 refine zEm (fun l=>∀(a c:Nat),c<=a->a<=b.length->l=b.drop a->zeP b a c ((nxt l:Nat):Int)=some (((a+(pre4 l).1:Nat):Int),((c+(pre4 l).2:Nat):Int))) ?_ ?_ l
 ·intro l h a c hc ha hl;rw [h,zCk h];refine zqL ?_;unfold zeO;rw [uh];rfl
 ·intro l h ih a c hc ha hl;subst hl;have h4:=zGh (b.drop a);have hle:=zsr (b.drop a);simp only [xT] at hle;have e1:(b.drop a).drop (nxt (b.drop a))=b.drop (a+nxt (b.drop a)):=by rw [ym]
  refine (zqK (atv':=((a+nxt (b.drop a):Nat):Int)) (points':=((c+1:Nat):Int)) (size':=((nxt (b.drop (a+nxt (b.drop a))):Nat):Int)) ?_).trans ?_
  ·unfold zeO;rw [ui,uk,znM (a:=a+nxt (b.drop a)) (by push_cast;rfl) rfl (by omega),sb,zAD,sb,uk];rfl
  ·rw [<-e1,ih (a+nxt (b.drop a)) (c+1) (by omega) (by omega) e1,zGo h];simp only [qL,pq 1]
theorem zEZ (hb:b.length<=1152921504606846976):zlV b=some (((pre4 b).1:Int),((pre4 b).2:Int)):=by
 unfold zlV;rw [zAD,sb];have h:=zCG hb b 0 0 (xr _) (xB _) rfl;simp only [xJ] at h;have h':zeP b 0 0 ((nxt b:Nat):Int)=some (((pre4 b).1:Int),((pre4 b).2:Int)):=h;rw [h',sb]
theorem zCB (hb:b.length<=1152921504606846976):zjZ b=some ((pre4 b).1:Int):=by
 unfold zjZ;rw [zEZ hb,sb]
theorem zpN (hb:b.length<=1152921504606846976):zib b=some (zgL b):=by
 unfold zib zgL;rw [zCB hb,sb,zAa]
set_option linter.unusedVariables false
def zHU:List Str:=[[],[105,110,116,51,50],[105,110,116,54,52],[117,105,110,116,51,50],[117,105,110,116,54,52],[115,105,110,116,51,50],[115,105,110,116,54,52],[98,111,111,108],[101,110,117,109],[102,105,120,101,100,51,50],[115,102,105,120,101,100,51,50],[102,108,111,97,116],[102,105,120,101,100,54,52],[115,102,105,120,101,100,54,52],[100,111,117,98,108,101],[115,116,114,105,110,103],[98,121,116,101,115],[109,101,115,115,97,103,101]]
def zDE (k:Int):Str:=(zHU[k.toNat]?).getD []
def kT:List (Int×zq):=[(1,⟨[105,110,116,51,50],0⟩),(2,⟨[105,110,116,54,52],0⟩),(3,⟨[117,105,110,116,51,50],0⟩),(4,⟨[117,105,110,116,54,52],0⟩),(5,⟨[115,105,110,116,51,50],0⟩),(6,⟨[115,105,110,116,54,52],0⟩),(7,⟨[98,111,111,108],0⟩),(8,⟨[101,110,117,109],0⟩),(9,⟨[102,105,120,101,100,51,50],5⟩),(10,⟨[115,102,105,120,101,100,51,50],5⟩),(11,⟨[102,108,111,97,116],5⟩),(12,⟨[102,105,120,101,100,54,52],1⟩),(13,⟨[115,102,105,120,101,100,54,52],1⟩),(14,⟨[100,111,117,98,108,101],1⟩),(15,⟨[115,116,114,105,110,103],2⟩),(16,⟨[98,121,116,101,115],2⟩),(17,⟨[109,101,115,115,97,103,101],2⟩)]
theorem zxl:zin=some kT:=rfl
theorem zqk (h:zaQ k=true):k=1\/k=2\/k=3\/k=4\/k=5\/k=6\/k=7\/k=8\/k=9\/k=10\/k=11\/k=12\/k=13\/k=14\/k=15\/k=16\/k=17:=by
 have:=yh h;omega
theorem zHE (h:zaQ k=true):mget kT k=some ⟨zDE k,zX k⟩:=by
 rcases zqk h with rfl| rfl| rfl| rfl| rfl| rfl| rfl| rfl| rfl| rfl| rfl| rfl| rfl| rfl| rfl| rfl| rfl<;>rfl
theorem zFL (h:e∈kT):zaQ e.1=true/\e.2=⟨zDE e.1,zX e.1⟩:=by
 have:kT.all (fun e=>zaQ e.1&&decide (e.2=⟨zDE e.1,zX e.1⟩))=true:=by decide
 have h1:=xy.1 this e h;simp only [xp,xP] at h1;exact h1
theorem zFM (h:zaQ k=false):mget kT k=none:=by
 cases hg:mget kT k with
 | none=>rfl
 | some x=>
  have mem:∀{m:List (Int×zq)} {x:zq},mget m k=some x->(k,x)∈m:=fun {m x} hg=>by
   induction m with
   | nil=>cases hg
   | cons p m ih=>
    rw [mget] at hg;split at hg
    ·rename_i e;cases hg;rw [e];exact xn
    ·exact xo _ (ih hg)
  have h1:=(zFL (mem hg)).1;simp only at h1;rw [h] at h1;cases h1
theorem zxo (k:Int):zhS k=some (if zaQ k then (zX k,0) else (0,2)):=by
 unfold zhS;rw [zxl,sb];cases h:zaQ k with
 | true=>rw [zHE h];rfl
 | false=>rw [zFM h];rfl
theorem zsc (k:Int):zfB k=some (kNum k):=by
 unfold zfB;rw [zxo,sb];cases h:zaQ k with
 | true=>
  rcases zqk h with rfl| rfl| rfl| rfl| rfl| rfl| rfl| rfl| rfl| rfl| rfl| rfl| rfl| rfl| rfl| rfl| rfl<;>rfl
 | false=>
  have h1:=pw h;have:kNum k=false:=xR (by omega);rw [this];rfl
theorem zFN:zlk=some [1,2,3,4,5,6,7,8,9,10,11,12,13,14,15,16,17]:=by
 have e:zjD kT=some [1,2,3,4,5,6,7,8,9,10,11,12,13,14,15,16,17]:=by
  unfold zjD;rfl
 unfold zlk;rw [zxl,sb,e,sb]
theorem zhR (k:Int) (h:0<=w/\w<=18446744073709551615):zeG k w=some (if kNum k then (zaM k w,0) else (0,2)):=by
 have hs:=zzF w;have hc:=zeE k h;unfold zeG;by_cases h1:k=1\/k=8
 ·have e:(if (k==1)=true then some (k==1) else some (k==8))=some true:=by rcases h1 with rfl| rfl<;>rfl
  have hn:kNum k=true:=xK (by omega);rw [e,sb,itT rfl,zCs,sb,zCH (by omega),sb,hn];unfold zaM;rw [xm h1];rfl
 ·have e:(if (k==1)=true then some (k==1) else some (k==8))=some false:=by rw [uj];simp;omega
  rw [e,sb,itF rfl];by_cases h2:k=3\/k=5\/k=9\/k=10\/k=11
  ·have e2:(if (k==3)=true then some (k==3) else if (k==5)=true then some (k==5) else if (k==9)=true then some (k==9) else if (k==10)=true then some (k==10) else some (k==11))=some true:=by
    rcases h2 with rfl| rfl| rfl| rfl| rfl<;>rfl
   have hn:kNum k=true:=xK (by omega);have hw:u64.wrap (w%4294967296)=w%4294967296:=by rw [wrap_u64];omega
   rw [e2,sb,itT rfl,zxy,sb,hn,hw];unfold zaM;rw [xl h1,xm h2];rfl
  ·have e2:(if (k==3)=true then some (k==3) else if (k==5)=true then some (k==5) else if (k==9)=true then some (k==9) else if (k==10)=true then some (k==10) else some (k==11))=some false:=by
    rw [uj,uj,uj,uj];simp;omega
   rw [e2,sb,itF rfl];by_cases h7:k=7
   ·have hn:kNum k=true:=xK (by omega);rw [itT (by simpa using h7),hn];unfold zkm zaM;rw [sb,xl h1,xl h2,xm h7];by_cases h0:0<w
    ·rw [xm h0];by_cases h10:1<w
     ·rw [xm h10];rfl
     ·rw [xl h10,show w=1 by omega];rfl
    ·rw [xl h0,xl (by omega),show w=0 by omega];rfl
   ·rw [itF (by simpa using h7)];by_cases hn:kNum k=true
    ·have hk:=yh hn;have e3:(if (k==2)=true then some (k==2) else if (k==4)=true then some (k==4) else if (k==6)=true then some (k==6) else if (k==12)=true then some (k==12) else if (k==13)=true then some (k==13) else some (k==14))=some true:=by
      have:k=2\/k=4\/k=6\/k=12\/k=13\/k=14:=by omega
      rcases this with rfl| rfl| rfl| rfl| rfl| rfl<;>rfl
     rw [e3,sb,itT rfl,hn];unfold zaM;rw [xl h1,xl h2,xl h7];rfl
    ·have hn:kNum k=false:=by simpa using hn
     have hk:=pw hn;have e3:(if (k==2)=true then some (k==2) else if (k==4)=true then some (k==4) else if (k==6)=true then some (k==6) else if (k==12)=true then some (k==12) else if (k==13)=true then some (k==13) else some (k==14))=some false:=by
      rw [uj,uj,uj,uj,uj];simp;omega
     rw [e3,sb,itF rfl,hn];rfl
def lt7 (c:UInt8):Bool:=decide (97<=c.toNat/\c.toNat<=122\/65<=c.toNat/\c.toNat<=90\/c.toNat=95)
def dg7 (c:UInt8):Bool:=decide (48<=c.toNat/\c.toNat<=57)
theorem zrW (c:UInt8):zdN (c.toNat:Int)=some (dg7 c):=by
 unfold zdN dg7;congr 1;rw [yC];simp;omega
theorem zwW (c:UInt8):zem (c.toNat:Int)=some (lt7 c):=by
 unfold zem lt7;congr 1;by_cases h1:(c.toNat:Int)>=97<;>by_cases h2:(c.toNat:Int)>=65<;>simp only [h1,h2,decide_true,decide_false,yf,yu,yS]<;>rw [yC]<;>simp<;>omega
theorem zwX (s:List UInt8) (hs:s.length<=1152921504606846976):∀(l:List UInt8) (i:Nat),s.drop i=l->zcW s i=some (if (l.all fun c=>lt7 c|| dg7 c)=true then .inl () else .inr ()):=by
 intro l
 induction l with
 | nil=>
  intro i hd;have:=zpd hd;refine zhs ?_;unfold zcl;rw [uj];rfl
 | cons c l ih=>
  intro i hd;obtain ⟨hi,hc,hd'⟩:=zni hd;have hb:zcl s i=if (lt7 c|| dg7 c)=true then some (.inl ((i+1:Nat):Int)) else some (.inr (.inr ())):=by
   unfold zcl;rw [ui,zao rfl hi,sb,hc,zwW,sb,sb,zrW,uk];cases lt7 c<;>cases dg7 c<;>rfl
  rw [yz];cases hk:(lt7 c|| dg7 c) with
  | false=>
   rw [hk] at hb;rw [zhs hb];rfl
  | true=>
   rw [hk] at hb;rw [zlM hb,ih _ hd',xW]
theorem zAP:∀(l:List UInt8) (i:Nat),0<i->nmA i l=l.all fun c=>lt7 c|| dg7 c
 | [],_,_=>rfl
 | c::l,i,h=>by
  rw [nmA,zAP l (i+1) (by omega),yz];congr 1;unfold nmc lt7 dg7;rw [yC];simp;omega
theorem zuh (hs:s.length<=1152921504606846976):zes s=some (zfb s):=by
 unfold zes zfb;have hl:=zwX s hs s 0 rfl;have hl':zcW s 0=_:=hl;cases s with
 | nil=>rfl
 | cons c l=>
  rw [itF (by simp)];by_cases h60:((c::l).length:Int)>60
  ·rw [itT (by simpa using h60),sb,itT rfl];have:decide (1<=(c::l).length/\(c::l).length<=60)=false:=by simp only [uf];omega
   rw [this,qH]
  ·have hd:decide (1<=(c::l).length/\(c::l).length<=60)=true:=by simp only [xP];refine ⟨by simp,by omega⟩
   have hc:idx (c::l) 0=some c:=by simp [idx]
   rw [itF (by simpa using h60),hc,sb,zrW,sb,sb,hd,qE,hl',sb];have e:nmA 0 (c::l)=(lt7 c&&l.all fun c=>lt7 c|| dg7 c):=by
    rw [nmA,zAP l 1 (by omega)];congr 1;unfold nmc lt7;rw [yC];simp;omega
   have hx:lt7 c=true->dg7 c=false:=by
    unfold lt7 dg7;simp only [xP,uf];omega
   rw [e,yz];cases h1:lt7 c<;>cases h2:dg7 c<;>first| (rw [hx h1] at h2;cases h2;done)| skip
   ·rfl
   ·rfl
   ·cases l.all fun c=>lt7 c|| dg7 c<;>rfl
theorem zDr (hl:l.length<=1152921504606846976) (v:Int):zbC l v=some (zij (fun x=>v==x) l):=by
 unfold zbC;have h:=zpi (fun x=>v==x) l (fun i=>zaI l v i) (zdO (by unfold zat;rw [itF (by simp)])) (fun i hi=>by
  by_cases hp:(v==l[i])=true
  ·rw [xm hp];exact zdO (by unfold zat;rw [ui,zao rfl hi,sb,itT hp])
  ·rw [xl hp];exact zgO (by unfold zat;rw [ui,zao rfl hi,sb,itF (by simpa using hp),uk];rfl)) l.length 0 (by omega) (fun j _ h=>by omega)
 have h':zaI l v 0=_:=h;rw [h',sb];unfold zij;cases l.findIdx? (fun x=>v==x)<;>rfl
theorem zty {α:Type} (p:α->Bool) (l:List α):decide (zij p l>=0)=l.any p:=by
 cases h:l.findIdx? p with
 | none=>
  rw [ziO h];rw [ud] at h
  symm
  rw [List.any_eq_false.2 fun x hx=>by simpa using h x hx];rfl
 | some i=>
  rw [ziP h];rw [pr] at h;obtain ⟨hi,hp,_⟩:=h
  symm
  rw [List.any_eq_true.2 ⟨l[i],xD hi,hp⟩];simp
theorem zwE (hl:l.length<=1152921504606846976) (v:Int):zaZ l v=some (l.any fun x=>v==x):=by
 unfold zaZ;rw [zDr hl,sb,zty]
def K17:List Int:=[1,2,3,4,5,6,7,8,9,10,11,12,13,14,15,16,17]
theorem zBP (k:Int):(K17.any fun x=>k==x)=zaQ k:=by
 unfold zaQ K17;rw [yC];simp;omega
def hasN (m:List (zt×Bool)) (i:Int) (n:Str):Bool:=(mget m (⟨i,n⟩:zt)).getD false
def hasU (m:List (zd×Bool)) (i:Int) (n:Int):Bool:=(mget m (⟨i,n⟩:zd)).getD false
theorem zjA (m:List (zt×Bool)) (i j:Int) (n k:Str):hasN (mput m ⟨i,n⟩ true) j k=(decide (j=i/\k=n)|| hasN m j k):=by
 unfold hasN;rw [zdq];by_cases h:j=i/\k=n
 ·obtain ⟨rfl,rfl⟩:=h;simp
 ·rw [xl (fun e=>h (by injection e with e1 e2;exact ⟨e1,e2⟩))];simp [h]
theorem zwS (m:List (zd×Bool)) (i j:Int) (n k:Int):hasU (mput m ⟨i,n⟩ true) j k=(decide (j=i/\k=n)|| hasU m j k):=by
 unfold hasU;rw [zdq];by_cases h:j=i/\k=n
 ·obtain ⟨rfl,rfl⟩:=h;simp
 ·rw [xl (fun e=>h (by injection e with e1 e2;exact ⟨e1,e2⟩))];simp [h]
theorem zwY (n:Int):zen n=some (decide ¬(n<1\/n>536870911\/(19000<=n/\n<20000))):=by
 unfold zen;congr 1;rw [yC];simp;omega
theorem zzk (f:Fld):zeL f=some (f.Repeated&&kNum f.Kind):=by
 unfold zeL;rw [zsc];cases f.Repeated<;>rfl
theorem zDL (n:Int) (K:List Int) (nm:List (zt×Bool)) (nu:List (zd×Bool)) (f:Fld):zdf ⟨n,K,nm,nu⟩ f=some (decide ¬(f.Kind=17/\(f.Of<0\/f.Of>=n)\/f.Kind≠17/\f.Of≠0)):=by
 unfold zdf;by_cases h:f.Kind=17
 ·rw [itT (by simpa using h)];congr 1;rw [yC];simp [h]
 ·rw [itF (by simpa using h)];congr 1;rw [yC];simp [h]
theorem zDh (hf:f.Name.length<=1152921504606846976) (hN:hasN nm i f.Name=prev.any fun g=>g.Name==f.Name) (hU:hasU nu i f.Number=prev.any fun g=>g.Number==f.Number):
  zde ⟨n,K17,nm,nu⟩ i f=some (zbH n prev f,if zbH n prev f=0 then (mput nm ⟨i,f.Name⟩ true,mput nu ⟨i,f.Number⟩ true) else (nm,nu)):=by
 unfold zde;rw [zuh hf,sb];have e1:(mget nm (⟨i,f.Name⟩:zt)).getD false=hasN nm i f.Name:=rfl;have e2:(mget nu (⟨i,f.Number⟩:zd)).getD false=hasU nu i f.Number:=rfl;simp only [e1,e2,hN,hU];have hz:∀(k:Int) (x y:List (zt×Bool)×List (zd×Bool)),k≠0->(if k=0 then x else y)=y:=fun k x y h=>xl h
 by_cases h1:zfb f.Name=false
 ·have hF:zbH n prev f=5:=by unfold zbH;rw [xm h1]
  rw [hF,hz 5 _ _ (by decide),itT (by rw [h1];rfl)]
 rw [itF (show (!zfb f.Name)=false by simpa using h1)];by_cases h2:(prev.any fun g=>g.Name==f.Name)=true
 ·have hF:zbH n prev f=6:=by unfold zbH;rw [xl h1,xm h2]
  rw [hF,hz 6 _ _ (by decide),itT h2]
 have h2':(prev.any fun g=>g.Name==f.Name)=false:=qX h2;rw [itF h2',zwY,sb];by_cases h3:f.Number<1\/f.Number>536870911\/(19000<=f.Number/\f.Number<20000)
 ·have hF:zbH n prev f=7:=by unfold zbH;rw [xl h1,xl h2,xm h3]
  rw [hF,hz 7 _ _ (by decide),itT (by rw [xR (fun h=>h h3)];rfl)]
 rw [itF (by rw [xK h3];rfl)];by_cases h4:(prev.any fun g=>g.Number==f.Number)=true
 ·have hF:zbH n prev f=8:=by unfold zbH;rw [xl h1,xl h2,xl h3,xm h4]
  rw [hF,hz 8 _ _ (by decide),itT h4]
 have h4':(prev.any fun g=>g.Number==f.Number)=false:=qX h4;rw [itF h4',zwE (by decide),sb,zBP];by_cases h5:zaQ f.Kind=false
 ·have hF:zbH n prev f=9:=by unfold zbH;rw [xl h1,xl h2,xl h3,xl h4,xm h5]
  rw [hF,hz 9 _ _ (by decide),itT (by rw [h5];rfl)]
 rw [itF (show (!zaQ f.Kind)=false by simpa using h5),zzk];have hg:(if f.Packed=true then (some (f.Repeated&&kNum f.Kind)>>=fun rv4=>some (!rv4)) else some false)=some (decide (f.Packed=true/\¬(f.Repeated=true/\kNum f.Kind=true))):=by
  cases f.Packed<;>cases f.Repeated<;>cases kNum f.Kind<;>rfl
 rw [hg,sb];by_cases h6:f.Packed=true/\¬(f.Repeated=true/\kNum f.Kind=true)
 ·have hF:zbH n prev f=10:=by unfold zbH;rw [xl h1,xl h2,xl h3,xl h4,xl h5,xm h6]
  rw [hF,hz 10 _ _ (by decide),itT (xK h6)]
 rw [itF (xR h6),zDL,sb];by_cases h7:f.Kind=17/\(f.Of<0\/f.Of>=n)\/f.Kind≠17/\f.Of≠0
 ·have hF:zbH n prev f=11:=by unfold zbH;rw [xl h1,xl h2,xl h3,xl h4,xl h5,xl h6,xm h7]
  rw [hF,hz 11 _ _ (by decide),itT (by rw [xR (fun h=>h h7)];rfl)]
 have hF:zbH n prev f=0:=by unfold zbH;rw [xl h1,xl h2,xl h3,xl h4,xl h5,xl h6,xl h7]
 rw [hF,xm rfl,itF (by rw [xK h7];rfl)]
theorem zzl {n:Int} {nm:List (zt×Bool)} {nu:List (zd×Bool)} {prev:List Mes} {m:Mes} (hm:m.Name.length<=1152921504606846976) (hN:hasN nm (-1) m.Name=prev.any fun g=>g.Name==m.Name):
  zcv ⟨n,K17,nm,nu⟩ m=some (if zfb m.Name=false then (2,nm,nu) else if (prev.any fun g=>g.Name==m.Name)=true then (3,nm,nu) else if 200<m.Fields.length then (4,nm,nu) else (0,mput nm ⟨-1,m.Name⟩ true,nu)):=by
 unfold zcv;rw [zuh hm,sb];have e1:(mget nm (⟨(-1),m.Name⟩:zt)).getD false=hasN nm (-1) m.Name:=rfl;simp only [e1,hN];by_cases h1:zfb m.Name=false
 ·rw [xm h1,itT (show (!zfb m.Name)=true by rw [h1];rfl)]
 rw [xl h1,itF (show (!zfb m.Name)=false by simpa using h1)];by_cases h2:(prev.any fun g=>g.Name==m.Name)=true
 ·rw [xm h2,itT h2]
 have h2':(prev.any fun g=>g.Name==m.Name)=false:=qX h2;rw [xl h2,itF h2'];by_cases h3:200<m.Fields.length
 ·rw [xm h3,itT (show decide ((m.Fields.length:Int)>200)=true by simp;omega)]
 rw [xl h3,itF (show decide ((m.Fields.length:Int)>200)=false by simp;omega)]
structure Met (nm:List (zt×Bool)) (nu:List (zd×Bool)) (i:Nat) (prev:List Mes) (p:List Fld):Prop where
 mes:∀n,hasN nm (-1) n=prev.any fun g=>g.Name==n
 nam:∀n,hasN nm i n=p.any fun g=>g.Name==n
 num:∀n,hasU nu i n=p.any fun g=>g.Number==n
 later:∀(j:Nat) n,i<j->hasN nm j n=false
 laterU:∀(j:Nat) n,i<j->hasU nu j n=false
theorem Met.step (h:Met nm nu i prev p) (f:Fld):Met (mput nm ⟨i,f.Name⟩ true) (mput nu ⟨i,f.Number⟩ true) i prev (p++[f]):=by
 refine ⟨fun n=>?_,fun n=>?_,fun n=>?_,fun j n hj=>?_,fun j n hj=>?_⟩
 ·rw [zjA,h.mes,xR (by omega),pB]
 ·rw [zjA,h.nam,pX,Bool.or_comm];congr 1;simp only [pY,List.any_nil,qV];rw [yC];simp;exact eq_comm
 ·rw [zwS,h.num,pX,Bool.or_comm];congr 1;simp only [pY,List.any_nil,qV];rw [yC];simp;exact eq_comm
 ·rw [zjA,h.later j n hj,xR (by omega)];rfl
 ·rw [zwS,h.laterU j n hj,xR (by omega)];rfl
theorem zDb (hb:m.Fields.length<=140737488351232) (hn:∀f∈m.Fields,f.Name.length<=140737488351232):
  ∀(l:List Fld) (k:Nat) (nm:List (zt×Bool)) (nu:List (zd×Bool)),m.Fields.drop k=l->k<=m.Fields.length->Met nm nu i prev (m.Fields.take k)->
   (∃j w,msgF s.length (m.Fields.take k) l=some (j,w)/\zbZ K17 s i m k nm nu=some (.inr ((j:Int),w)))\/
   (msgF s.length (m.Fields.take k) l=none/\∃nm' nu',zbZ K17 s i m k nm nu=some (.inl (nm',nu'))/\Met nm' nu' i prev m.Fields):=by
 intro l
 induction l with
 | nil=>
  intro k nm nu hd hk hM;have:=zpd hd;have hkl:k=m.Fields.length:=by omega
  subst hkl;refine .inr ⟨rfl,nm,nu,zhH ?_,by simpa using hM⟩;unfold zbq;rw [itF (by simp)]
 | cons f l ih=>
  intro k nm nu hd hk hM;obtain ⟨hi,hc,hd'⟩:=zni hd;have hf:=hn f (by rw [<-hc];exact xD hi);have hfld:=zDh (n:=(s.length:Int)) (i:=(i:Int)) (nm:=nm) (nu:=nu) (prev:=m.Fields.take k) (f:=f) (by omega) (hM.nam _) (hM.num _);have htk:m.Fields.take (k+1)=m.Fields.take k++[f]:=by rw [pZ hi,hc]
  have vF:(m.Fields.take k).length=k:=by simp;omega
  obtain ⟨bd,_⟩:=zwI (s.length:Int) (m.Fields.take k) f;rw [msgF];by_cases h0:zbH s.length (m.Fields.take k) f=0
  ·rw [xl (by omega)];rw [h0,xm rfl] at hfld;have hstep:zbq K17 s i m k nm nu=some (.inl (((k+1:Nat):Int),mput nm ⟨i,f.Name⟩ true,mput nu ⟨i,f.Number⟩ true)):=by
    unfold zbq;rw [ui,zao rfl hi,sb,hc,hfld,sb];dsimp only;rw [itF (show ((0:Int) !=0)=false from rfl),uk];rfl
   rw [zmH hstep,<-htk];exact ih (k+1) _ _ hd' (by omega) (by rw [htk];exact hM.step f)
  ·rw [xm (by omega)];rw [xl h0] at hfld;refine .inl ⟨k,_,by rw [vF],zhH ?_⟩;unfold zbq;rw [ui,zao rfl hi,sb,hc,hfld,sb];dsimp only;rw [itT (show (zbH (s.length:Int) (m.Fields.take k) f !=0)=true by simpa using h0)]
theorem zDa {s:List Mes} (hw:WS s):∀(l:List Mes) (i:Nat) (nm:List (zt×Bool)) (nu:List (zd×Bool)),s.drop i=l->i<=s.length->Met nm nu i (s.take i) []->
  zds K17 s i nm nu=some (match chkF s.length (s.take i) l with| some (j,k,w)=> .inr ((j:Int),k,w)| none=> .inl ()):=by
 intro l
 induction l with
 | nil=>
  intro i nm nu hd hi hM;have:=zpd hd;refine zcO ?_;unfold zaF;rw [uj];rfl
 | cons m l ih=>
  intro i nm nu hd hi hM;obtain ⟨hil,hc,hd'⟩:=zni hd;obtain ⟨w1,w2⟩:=hw;obtain ⟨m1,m2,m3⟩:=w2 m (by rw [<-hc];exact xD hil);have hmes:=zzl (n:=(s.length:Int)) (nm:=nm) (nu:=nu) (prev:=s.take i) (m:=m) (by omega) (hM.mes _);have htk:s.take (i+1)=s.take i++[m]:=by rw [pZ hil,hc]
  have vF:(s.take i).length=i:=by simp;omega
  rw [chkF];by_cases h1:zfb m.Name=false
  ·rw [xm h1] at hmes|-;refine zcO ?_;unfold zaF;rw [ui,zao rfl hil,sb,hc,hmes,sb];dsimp only;rw [itT (show ((2:Int) !=0)=true from rfl),vF]
  rw [xl h1] at hmes|-;by_cases h2:((s.take i).any fun g=>g.Name==m.Name)=true
  ·rw [xm h2] at hmes|-;refine zcO ?_;unfold zaF;rw [ui,zao rfl hil,sb,hc,hmes,sb];dsimp only;rw [itT (show ((3:Int) !=0)=true from rfl),vF]
  rw [xl h2] at hmes|-;by_cases h3:200<m.Fields.length
  ·rw [xm h3] at hmes|-;refine zcO ?_;unfold zaF;rw [ui,zao rfl hil,sb,hc,hmes,sb];dsimp only;rw [itT (show ((4:Int) !=0)=true from rfl),vF]
  rw [xl h3] at hmes|-;have hM0:Met (mput nm ⟨-1,m.Name⟩ true) nu i (s.take i++[m]) (m.Fields.take 0):=by
   refine ⟨fun n=>?_,fun n=>?_,fun n=>?_,fun j n hj=>?_,fun j n hj=>hM.laterU j n hj⟩
   ·rw [zjA,hM.mes,pX,Bool.or_comm];congr 1;simp only [pY,List.any_nil,qV];rw [yC];simp;exact eq_comm
   ·rw [zjA,hM.nam,xR (by omega)];rfl
   ·rw [hM.num];rfl
   ·rw [zjA,hM.later j n hj,xR (by omega)];rfl
  have hl2:=zDb (s:=s) (i:=i) m2 m3 m.Fields 0 _ nu rfl (by omega) hM0;simp only [pS] at hl2;rcases hl2 with ⟨j,w,g1,g2⟩| ⟨g1,nm',nu',g2,g3⟩
  ·rw [g1];refine zcO ?_;unfold zaF;have g2':zbZ K17 s i m 0 (mput nm ⟨-1,m.Name⟩ true) nu=_:=g2;rw [ui,zao rfl hil,sb,hc,hmes,sb];dsimp only;rw [itF (show ((0:Int) !=0)=false from rfl),g2',sb];simp only [vF]
  ·rw [g1];have hstep:zaF K17 s i nm nu=some (.inl (((i+1:Nat):Int),nm',nu')):=by
    unfold zaF;have g2':zbZ K17 s i m 0 (mput nm ⟨-1,m.Name⟩ true) nu=_:=g2;rw [ui,zao rfl hil,sb,hc,hmes,sb];dsimp only;rw [itF (show ((0:Int) !=0)=false from rfl),g2',sb];dsimp only;rw [uk];rfl
   rw [zmG hstep];simp only [];rw [<-htk];refine ih (i+1) nm' nu' hd' (by omega) ⟨fun n=>?_,fun n=>?_,fun n=>?_,fun j n hj=>g3.later j n (by omega),fun j n hj=>g3.laterU j n (by omega)⟩
   ·rw [htk];exact g3.mes n
   ·rw [g3.later (i+1) n (by omega)];rfl
   ·rw [g3.laterU (i+1) n (by omega)];rfl
theorem zCZ (hw:WS s):zgi s=some (⟨(zig s).1,(zig s).2.1,(zig s).2.2⟩,if (zig s).2.2=0 then 0 else 9):=by
 unfold zgi zig;by_cases h:s.length=0\/100<s.length
 ·rw [ui,xm h];rfl
 ·rw [uj,xl h,zFN,sb];have hl:=zDa hw s 0 [] [] rfl (by omega) ⟨fun n=>rfl,fun n=>rfl,fun n=>rfl,fun j n _=>rfl,fun j n _=>rfl⟩;simp only [pS] at hl;have hl':zds [1,2,3,4,5,6,7,8,9,10,11,12,13,14,15,16,17] s 0 [] []=_:=hl;rw [hl',sb];cases hc:chkF s.length [] s with
  | none=>rfl
  | some q=>
   obtain ⟨i,k,w⟩:=q;have:=zAd _ _ _ _ _ _ hc;simp only;rw [xl (by omega)]
theorem zEv (hw:WS s):zgj s=some (zjj s):=by
 unfold zgj zjj;rw [zCZ hw,sb];by_cases h:(zig s).2.2=0<;>simp [h]
theorem zhy (h:(zZ k b).2=0):kNum k=true/\(pcs k b).2=0/\(zZ k b).1=(pcs k b).1.map (zcT k):=by
 unfold zZ at h|-;cases hn:kNum k with
 | false=>rw [hn,xm rfl] at h;simp at h
 | true=>
  rw [hn,xl (by simp)] at h;rw [xl (by simp)];by_cases h0:(pcs k b).2=0
  ·rw [xm h0];exact ⟨rfl,h0,rfl⟩
  ·rw [xl h0] at h;exact absurd h h0
theorem zmz {k:Int} {b:List UInt8} (hn:kNum k=true) (h0:(pcs k b).2=0):zZ k b=((pcs k b).1.map (zcT k),0):=by
 unfold zZ;rw [hn,xl (by simp),xm h0]
theorem znF (h:(zZ k b).2≠0):(zZ k b).1=[]/\((zZ k b).2=2\/(zZ k b).2=3\/(zZ k b).2=4):=by
 unfold zZ at h|-;by_cases hn:kNum k=false
 ·rw [xm hn];simp
 ·rw [xl hn] at h|-;by_cases h0:(pcs k b).2=0
  ·rw [xm h0] at h;exact absurd rfl h
  ·rw [xl h0];rcases zxD k b with h1| h1| h1
   ·exact absurd h1 h0
   ·rw [h1];simp
   ·rw [h1];simp
theorem ztn (k:Int) (b:List UInt8):(zZ k b).1.length<=b.length:=by
 by_cases h:(zZ k b).2=0
 ·rw [(zhy h).2.2,pU];exact zvS k b
 ·rw [(znF h).1];exact xB _
theorem zwp {k:Int} {a b:List UInt8} (ha:(zZ k a).2=0):(zZ k (a++b)).2=(zZ k b).2/\((zZ k b).2=0->(zZ k (a++b)).1=(zZ k a).1++(zZ k b).1):=by
 obtain ⟨hn,h0,e⟩:=zhy ha;have hp:=zzv k b a h0;by_cases hb:(pcs k b).2=0
 ·rw [zmz hn (b:=a++b) (by rw [hp];exact hb),zmz hn hb,e,hp];exact ⟨rfl,fun _=>by simp⟩
 ·have:(zZ k b).2=(pcs k b).2:=by unfold zZ;rw [xl (by rw [hn];simp),xl hb]
  have h2:(zZ k (a++b)).2=(pcs k b).2:=by unfold zZ;rw [xl (by rw [hn];simp),hp,xl hb]
  rw [this,h2];exact ⟨rfl,fun h=>absurd h hb⟩
theorem zDy {α:Type} (x y:α):(if (true:Bool)=false then x else y)=y:=rfl
def wid (k:Int):Nat:=if 12<=k then 8 else if 9<=k then 4 else 0
theorem zpK (k:Int):zeg k=some (if kNum k then ((wid k:Int),0) else (0,2)):=by
 cases hn:kNum k with
 | true=>
  have h:=zdc.1 hn;have hk:k=1\/k=2\/k=3\/k=4\/k=5\/k=6\/k=7\/k=8\/k=9\/k=10\/k=11\/k=12\/k=13\/k=14:=by omega
  rcases hk with rfl| rfl| rfl| rfl| rfl| rfl| rfl| rfl| rfl| rfl| rfl| rfl| rfl| rfl<;>rfl
 | false=>
  have h:=pw hn;unfold zeg;have vR:∀c:Int,1<=c->c<=14->(k==c)=false:=fun c h1 h2=>by simp;omega
  simp only [vR 1 (by omega) (by omega),vR 2 (by omega) (by omega),vR 3 (by omega) (by omega),vR 4 (by omega) (by omega),vR 5 (by omega) (by omega),vR 6 (by omega) (by omega),vR 7 (by omega) (by omega),vR 8 (by omega) (by omega),vR 9 (by omega) (by omega),vR 10 (by omega) (by omega),vR 11 (by omega) (by omega),vR 12 (by omega) (by omega),vR 13 (by omega) (by omega),vR 14 (by omega) (by omega)];rfl
theorem zBO (hk:kNum k=true):(zX k=0↔wid k=0)/\(wid k≠0->∀b:List UInt8,zaW (zX k) b=decide (wid k=b.length))/\(wid k=0\/wid k=4\/wid k=8):=by
 have:=zdc.1 hk;unfold zX wid zaW;by_cases h1:12<=k
 ·rw [xl (by omega),xm h1,xm h1];refine ⟨by simp,fun _ b=>?_,by simp⟩;rw [xl (by omega)];simp only [show ((1:Int)=2)=False from by simp,show ((1:Int)=5)=False from by simp,false_or,false_and,xF,y6];simp [eq_comm]
 ·rw [xl (by omega),xl h1,xl h1];by_cases h2:9<=k
  ·rw [xm h2,xm h2];refine ⟨by simp,fun _ b=>?_,by simp⟩;rw [xl (by omega)];simp [eq_comm]
  ·rw [xl h2,xl h2];exact ⟨by simp,fun h=>absurd rfl h,by simp⟩
theorem zCw (b:List UInt8):zgg b=some (if zaW 0 b then ((rd b).1,0) else (0,12)):=by
 unfold zgg zaW;rw [zrg,sb,xm rfl];by_cases h:(rd b).2.2=0/\(rd b).2.1=(b.length:Int)
 ·rw [itF (by simp [h.1,h.2]),xm (by simpa using h)]
 ·rw [ui,xl (by simpa using h)]
theorem zCu (k:Int) (b:List UInt8):zgf k b=some (if kNum k=false then (0,2) else if zaW (zX k) b=false then (0,12) else (rawW k b,0)):=by
 unfold zgf;rw [zpK,sb];cases hn:kNum k with
 | false=>rw [xm rfl];rfl
 | true=>
  obtain ⟨e0,ef,_⟩:=zBO hn;simp only [yf];rw [itF (by simp),xl (show ¬(true=false) by simp)];by_cases h0:wid k=0
  ·have hw:=e0.2 h0;rw [itT (by simp [h0]),zCw,sb,hw];unfold rawW;cases hf:zaW 0 b with
   | true=>simp [hw]
   | false=>simp
  ·rw [itF (by simpa using h0),ef h0];by_cases hl:wid k=b.length
   ·rw [uj,zGJ,sb,xl (by simpa using hl)];unfold rawW;rw [xl (fun h=>h0 (e0.1 h))]
   ·rw [ui,xm (by simpa using hl)]
theorem zEL (k:Int) (b:List UInt8):zhr k b=some (zjQ k b):=by
 unfold zhr zjQ;rw [zCu,sb];cases hn:kNum k with
 | false=>rfl
 | true=>
  simp only [zDy];cases hf:zaW (zX k) b with
  | false=>rfl
  | true=>
   simp only [zDy];rw [uh,zhR k (zkx k),sb,hn,xm rfl]
theorem zBi {k w:Int} (h:0<=w/\w<=18446744073709551615):zgN k w=some (if kNum k then (sPut k w,0) else ([],2)):=by
 have hc:=zeE k h;obtain ⟨c,hcc⟩:∃c:Nat,zaM k w=c:=⟨(zaM k w).toNat,by omega⟩;unfold zgN;rw [zpK,sb];cases hn:kNum k with
 | false=>rfl
 | true=>
  simp only [yf];rw [uh,zhR k h,sb,hn];simp only [yf];rw [hcc];unfold sPut zhD;rw [hcc,xA];unfold wid;by_cases h1:12<=k
  ·rw [xm h1,xm h1,uh,zuo,sb];rfl
  ·rw [xl h1,xl h1];by_cases h2:9<=k
   ·rw [xm h2,xm h2,uh,zuo,sb];rfl
   ·rw [xl h2,xl h2,ug,zzx [] (by omega) (by simp),sb,xz]
theorem zsZ (h:0<=w/\w<=18446744073709551615):zeK k w=some (if kNum k then ((sPut k w).length:Int) else 0):=by
 have hc:=zeE k h;obtain ⟨c,hcc⟩:∃c:Nat,zaM k w=c:=⟨(zaM k w).toNat,by omega⟩;unfold zeK;rw [zpK,sb];cases hn:kNum k with
 | false=>rfl
 | true=>
  simp only [yf];unfold sPut zhD;rw [hcc,xA];unfold wid;by_cases h1:12<=k
  ·rw [xm h1,xm h1,ug,zar]
  ·rw [xl h1,xl h1];by_cases h2:9<=k
   ·rw [xm h2,xm h2,ug,zar]
   ·rw [xl h2,xl h2,uh,zhR k h,sb,hn];simp only [yf];rw [hcc,zDP (by omega),sb,zfm]
theorem ztT {α:Type} {l t:List α} {x:α} {k:Nat} (h:l.drop k=x::t):∃hk:k<l.length,l[k]=x/\l.drop (k+1)=t:=by
 have hk:k<l.length:=by
  rcases yk k l.length with h'| h'
  ·exact h'
  ·rw [yE h'] at h;cases h
 rw [yy hk] at h;injection h with h1 h2;exact ⟨hk,h1,h2⟩
theorem zvp (l:List (List UInt8)) (hl:l.length<=1099511627776):∀(t:List (List UInt8)) (k s:Nat),l.drop k=t->s+t.flatten.length<=1099511627776->
  zax l s k=some ((s+t.flatten.length:Nat):Int):=by
 intro t
 induction t with
 | nil=>
  intro k s hd _;have hk:l.length<=k:=by have:=congrArg List.length hd;simp at this;omega
  refine zfN ?_;unfold zaf;rw [uj];simp
 | cons x t ih=>
  intro k s hd hs;obtain ⟨hk,hx,hd'⟩:=ztT hd;simp only [qh,xt] at hs;refine (zfM (size':=((s+x.length:Nat):Int)) (v':=((k+1:Nat):Int)) ?_).trans ?_
  ·unfold zaf;rw [ui,zao rfl hk,sb,hx,uk,uj,uk];push_cast;rfl
  ·rw [ih _ _ hd' (by omega)];simp only [qh,xt];congr 2;omega
theorem zvq (l:List (List UInt8)) (hl:l.length<=1099511627776):∀(t:List (List UInt8)) (k:Nat) (acc:List UInt8),l.drop k=t->acc.length+t.flatten.length<=1099511627776->
  zay l acc k=some (acc++t.flatten):=by
 intro t
 induction t with
 | nil=>
  intro k acc hd _;have hk:l.length<=k:=by have:=congrArg List.length hd;simp at this;omega
  refine zfP ?_;unfold zag;rw [uj];simp
 | cons x t ih=>
  intro k acc hd hs;obtain ⟨hk,hx,hd'⟩:=ztT hd;simp only [qh,xt] at hs;refine (zfO (newslice':=acc++x) (v2':=((k+1:Nat):Int)) ?_).trans ?_
  ·unfold zag;rw [ui,zao rfl hk,sb,hx,zdX (by omega),sb,uk];push_cast;rfl
  ·rw [ih _ _ hd' (by rw [xt];omega)];simp
theorem zFG {n:Nat} (h:n<=1099511627776):zbo (n:Int)=some []:=by
 unfold zbo;have e:i64.wrap ((n:Int) - i64.wrap (0 - 0))=n:=by rw [wrap_i64 (x:=0 - 0) (by omega),uk];omega
 rw [itF (by simp),e];by_cases h0:(n:Int)>0
 ·rw [itT (by simpa using h0),zzm (a:=n) rfl (Int.le_refl _) (by omega),sb];have e0:cut (List.replicate n (0:UInt8)) 0 0=some []:=zrC (b:=0) rfl (xB _);rw [e0,sb]
 ·rw [itF (by simpa using h0)]
theorem zpb (hl:l.length<=1099511627776) (h:l.flatten.length<=1099511627776):zas l=some l.flatten:=by
 unfold zas;have h1:=zvp l hl l 0 0 rfl (by omega);have h1':zax l 0 0=_:=h1;have h2:=zvq l hl l 0 [] rfl (by simpa using h);have h2':zay l [] 0=_:=h2;rw [h1',sb,zFG (by omega),sb,h2',sb];simp
def wid9 (k:Int):Int:=if kNum k then (if 12<=k then 8 else if 9<=k then 4 else 1) else 0
theorem ztD (hk:kNum k=true):(((sPut k 0).length:Nat):Int)=(if 12<=k then 8 else if 9<=k then 4 else 1):=by
 have hk':=zdc.1 hk;have hc:(zaM k 0).toNat=0:=by
  have:k=1\/k=2\/k=3\/k=4\/k=5\/k=6\/k=7\/k=8\/k=9\/k=10\/k=11\/k=12\/k=13\/k=14:=by omega
  rcases this with h| h| h| h| h| h| h| h| h| h| h| h| h| h<;>subst h<;>decide
 unfold sPut;rw [hc];unfold zhD;by_cases h1:12<=k
 ·rw [xm h1,xm h1,zar];rfl
 ·rw [xl h1,xl h1];by_cases h2:9<=k
  ·rw [xm h2,xm h2,zar];rfl
  ·rw [xl h2,xl h2,zfm];simp [lenN]
theorem zuL (k:Int):zhY k=some (wid9 k):=by
 unfold zhY wid9;rw [zsZ (by omega),sb];cases hk:kNum k with
 | false=>rfl
 | true=>simp only [yf];rw [ztD hk]
theorem zBw (hk:kNum k=true):(k<9->wid9 k=1)/\(¬k<9->k<12->wid9 k=4)/\(¬k<12->wid9 k=8):=by
 unfold wid9
 grind
theorem zyu (hk:kNum k=false):wid9 k=0:=by unfold wid9;rw [hk];rfl
theorem zBv (hk:kNum k=true):(wid9 k==0)=false:=by
 obtain ⟨h1,h2,h3⟩:=zBw hk
 grind
theorem zuI (hk:kNum k=true) (b:List UInt8):zjP (wid9 k) b=some (match zgu k b with| .inl c=>(0,c)| .inr n=>((n:Int),0)):=by
 grind [zjP,zgu,zBw,zBe,sb,ziv]
def zhx (k:Int) (b:List UInt8):List (List UInt8)×Int:=if kNum k=false then ([],2) else pcs k b
def go9 {σ ρ:Type} (kb:σ->(List UInt8×Int)->Option (σ⊕ρ)):List (List UInt8)->Int->σ->Option (σ⊕ρ)
 | [],c,s=>if c=0 then some (.inl s) else kb s ([],c)
 | p::ps,c,s=>match kb s (p,0) with
  | some (.inl s')=>go9 kb ps c s'
  | some (.inr r)=>some (.inr r)
  | none=>none
theorem zzA {σ ρ χ:Type} {kb:σ->χ->Option (σ⊕ρ)} {s:σ} {x:χ} {o:σ⊕ρ} (h:kb s x=some o):∃c,rnd kb (.inl s) x=some (c,o)/\(c=true/\(∃s',o= .inl s')\/c=false/\∃r,o= .inr r):=by
 cases o with
 | inl s'=>exact ⟨true,by simp only [rnd,h],.inl ⟨rfl,s',rfl⟩⟩
 | inr r=>exact ⟨false,by simp only [rnd,h],.inr ⟨rfl,r,rfl⟩⟩
theorem zIY {σ ρ:Type} (kb:σ->(List UInt8×Int)->Option (σ⊕ρ)) {k:Int} (hk:kNum k=true) (b:List UInt8):∀(s:σ) (o:σ⊕ρ),go9 kb (pcs k b).1 (pcs k b).2 s=some o->
  ∃q,zdr (rnd kb) (wid9 k) b (.inl s)=some q/\(q= .inl o\/q= .inr o):=by
 refine zmn k (fun b=>∀(s:σ) (o:σ⊕ρ),go9 kb (pcs k b).1 (pcs k b).2 s=some o->
  ∃q,zdr (rnd kb) (wid9 k) b (.inl s)=some q/\(q= .inl o\/q= .inr o)) ?_ ?_ ?_ b
 ·intro s o h;rw [zgW] at h;have h':some (.inl s)=some o:=h;refine ⟨.inl o,zfc ?_,.inl rfl⟩;unfold zbc
  grind
 ·intro l c hl hu hc s o h;rw [zmm hl hu] at h;have h':kb s ([],c)=some o:=by
   have h2:(if c=0 then some (.inl s) else kb s ([],c))=some o:=h
   grind
  obtain ⟨t,ht,_⟩:=zzA h';refine ⟨.inr o,zfc ?_,.inr rfl⟩;have hp:=qU.2 hl;unfold zbc;rw [ui,zuI hk,sb,hu];simp only;rw [zfR (i:=0) (j:=0) (a:=0) (b:=0) rfl rfl (xr _) (xB _),sb]
  grind
 ·intro l n hl hu g1 g2 g3 ih s o h;rw [zgc hl hu] at h;have hp:=qU.2 hl;have hbody:∀{t:Bool} {y:σ⊕ρ},rnd kb (.inl s) (l.take n,0)=some (t,y)->zbc (rnd kb) (wid9 k) l (.inl s)=(if t then some (.inl (l.drop n,y)) else some (.inr (.inr y))):=by
   intro t y ht;unfold zbc;rw [ui,zuI hk,sb,hu];simp only;rw [zfR (i:=0) (j:=(n:Int)) (a:=0) (b:=n) rfl rfl (xB _) g2,sb];simp only [yq,qx];rw [ht,sb];cases t with
   | false=>rw [ug];rfl
   | true=>rw [uh,znM (a:=n) rfl rfl g2,sb];rfl
  simp only [go9] at h;cases hb:kb s (l.take n,0) with
  | none=>rw [hb] at h;cases h
  | some z=>
   rw [hb] at h;obtain ⟨t,ht,hcase⟩:=zzA hb;have hB:=hbody ht;rcases hcase with ⟨rfl,s',rfl⟩| ⟨rfl,r,rfl⟩
   ·obtain ⟨q,hq,hq'⟩:=ih s' o h;exact ⟨q,by rw [zmF hB];exact hq,hq'⟩
   ·have h':some (.inr r)=some o:=h;exact ⟨.inr (.inr r),zfc hB,.inr (by rw [qm h'])⟩
theorem zBu {σ ρ:Type} (kb:σ->(List UInt8×Int)->Option (σ⊕ρ)) (k:Int) (b:List UInt8) {s:σ} {o:σ⊕ρ} (h:go9 kb (zhx k b).1 (zhx k b).2 s=some o):zcR k b (rnd kb) (.inl s)=some o:=by
 unfold zcR;rw [zuL,sb];unfold zhx at h;cases hk:kNum k with
 | false=>
  rw [hk,xm rfl] at h;have h':kb s ([],2)=some o:=h;obtain ⟨t,ht,_⟩:=zzA h';rw [zyu hk,ug,ht,sb]
 | true=>
  rw [hk,xl (by simp)] at h;have hw:=zBv hk;obtain ⟨q,hq,hq'⟩:=zIY kb hk b s o h
  grind
theorem zti (k:Int) (b:List UInt8):(zhx k b).2=(zZ k b).2/\((zZ k b).2=0->(zhx k b).1=(pcs k b).1)/\(∀p∈(zhx k b).1,zaW (zX k) p=true/\1<=p.length/\p.length<=10)/\(zhx k b).1.length<=b.length/\((zhx k b).1=[]\/kNum k=true):=by
 unfold zhx zZ;by_cases hn:kNum k=false
 ·grind
 ·have hk:kNum k=true:=by simpa using hn
  rw [xl hn,xl hn];refine ⟨?_,fun _=>rfl,zsG hk b,zvS k b,.inr hk⟩
  grind
theorem zyx (hk:kNum k=true) (c:Int):∀(ps:List (List UInt8)) (acc:List Int),(∀p∈ps,zaW (zX k) p=true/\1<=p.length/\p.length<=10)->acc.length+ps.length<=1048576->
  go9 (fun (s:List Int) (x:List UInt8×Int)=>zcp k s x.1 x.2) ps c acc=some (if c=0 then .inl (acc++ps.map (zcT k)) else .inr (c,acc++ps.map (zcT k)))
 | [],acc,_,hl=>by
  simp only [go9,yA,xS]
  grind [zcp]
 | p::ps,acc,hf,hl=>by
  simp only [ya] at hl;have h1:zcp k acc p 0=some (.inl (acc++[zcT k p])):=by
   unfold zcp
   grind [zEL,sb,zhq,zdX]
  simp only [go9,h1];rw [zyx hk c ps _ (fun q hq=>hf q (xo _ hq)) (by simp;omega)];simp
theorem zCq (k:Int) {b:List UInt8} (hb:b.length<=1048576):zjO k b=some (zZ k b):=by
 obtain ⟨h1,h2,h3,h4,h5⟩:=zti k b;unfold zjO zgM;rw [sb];simp only;have hgo:go9 (fun (s:List Int) (x:List UInt8×Int)=>zcp k s x.1 x.2) (zhx k b).1 (zhx k b).2 []=some (if (zhx k b).2=0 then .inl ([]++(zhx k b).1.map (zcT k)) else .inr ((zhx k b).2,[]++(zhx k b).1.map (zcT k))):=by
  rcases h5 with h5| h5
  ·rw [h5];simp only [go9,yA,xS]
   grind [zcp]
  ·exact zyx h5 _ _ _ h3 (by simp;omega)
 grind [zBu,sb,zhy,znF]
theorem zwF (c:Int):∀(ps:List (List UInt8)) (n:Nat),n+ps.length<=1048576->
  go9 (fun (s:Int) (x:List UInt8×Int)=>zdC s x.1 x.2) ps c (n:Int)=some (if c=0 then .inl ((n+ps.length:Nat):Int) else .inr (c,((n+ps.length:Nat):Int)))
 | [],n,hl=>by
  simp only [go9,yn,yr]
  grind [zdC]
 | p::ps,n,hl=>by
  simp only [ya] at hl;have h1:zdC (n:Int) p 0=some (.inl ((n+1:Nat):Int)):=by
   grind [zdC,sb,wrap_i64]
  simp only [go9,h1];rw [zwF c ps (n+1) (by omega)]
  grind
theorem zCl (k:Int) {b:List UInt8} (hb:b.length<=1048576):zjN k b=some (((zZ k b).1.length:Int),(zZ k b).2):=by
 obtain ⟨h1,h2,h3,h4,h5⟩:=zti k b;unfold zjN zgM;rw [sb];simp only;have hgo:=zwF (zhx k b).2 (zhx k b).1 0 (by omega)
 grind [zBu,sb,zhy,znF]
theorem zCf {k:Int} (hk:kNum k=true) {l:List Int} (h:∀w∈l,0<=w/\w<=18446744073709551615) (hl:l.length<=1048576):∀(d i:Nat),i+d=l.length->
  zho k l ((l.take i).flatMap (sPut k)) i=some (l.flatMap (sPut k)):=by
 intro d
 induction d with
 | zero=>
  intro i hi;refine zqD ?_;unfold zdT
  grind
 | succ d ih=>
  intro i hi;have vC:i<l.length:=by omega
  have hw:=h _ (xD vC);have vF:=zhp (k:=k) hw;have hpre:∀m:List Int,(∀w∈m,0<=w/\w<=18446744073709551615)->(m.flatMap (sPut k)).length<=10*m.length:=by
   intro m hm
   induction m with
   | nil=>simp
   | cons x m ihm=>
    have h1:=zhp (k:=k) (hm x xn);have h2:=ihm (fun w hw=>hm w (xo _ hw))
    grind
  have hp:=hpre (l.take i) (fun w hw=>h w (pD hw));have hti:(l.take i).length=i:=by rw [xY];omega
  have hb:zdT k l ((l.take i).flatMap (sPut k)) i=some (.inl ((l.take (i+1)).flatMap (sPut k),((i+1:Nat):Int))):=by
   unfold zdT;rw [ui,zao rfl vC,sb,zBi hw,sb,hk,xm rfl];simp only;rw [zdX (by omega),sb,uk,pZ vC,yw];simp
  rw [zqC hb]
  grind
theorem zEx (k:Int) {l:List Int} (h:∀w∈l,0<=w/\w<=18446744073709551615) (hl:l.length<=1048576):zlL k l=some (if kNum k then (l.flatMap (sPut k),0) else ([],2)):=by
 unfold zlL;rw [zuL,sb];cases hk:kNum k with
 | false=>rw [zyu hk];rfl
 | true=>
  have hlp:=zCf hk h hl l.length 0 (by omega)
  grind [zBv,sb]
abbrev PVw:=zf
def prV (v:Vw):PVw:=⟨v.R,v.Field,v.Run⟩
def zxL (b:List UInt8) (r:Rec):List UInt8:=(b.drop r.From.toNat).take (r.To.toNat - r.From.toNat)
theorem ztl (m:Mes) (he:∀p c,e=some (p,c)->3<=c/\c<=5):∀(l:List Rec) (p c:Int),(vws m e l).2=some (p,c)->3<=c/\c<=6
 | [],p,c,h=>by
  cases e with
  | none=>cases h
  | some q=>
   simp only [vws,qO,ye,yi] at h;have:=he q.1 q.2 rfl;omega
 | r::l,p,c,h=>by
  rw [vws] at h;rcases zdl m r.Number r.Wire with hv| ⟨hv,_⟩| ⟨i,run,hv,_⟩
  ·simp only [hv,ye,yi] at h;omega
  ·simp only [hv] at h;exact ztl m he l p c h
  ·simp only [hv] at h;exact ztl m he l p c h
theorem zIg (b:List UInt8):∀p c,(spl 0 b).2=some (p,c)->3<=c/\c<=5:=fun p c h=>by
 have:=(zEK 0 b p c h).1;omega
theorem zpR (m:Mes) (b:List UInt8):(zaD m b).2.2=0/\(vws m (spl 0 b).2 (spl 0 b).1).2=none/\(zaD m b).1=(vws m (spl 0 b).2 (spl 0 b).1).1/\(zaD m b).2.1=0\/(3<=(zaD m b).2.2/\(zaD m b).2.2<=6)/\(zaD m b).1=[]:=by
 unfold zaD vwR;cases h:(vws m (spl 0 b).2 (spl 0 b).1).2 with
 | none=>exact .inl ⟨rfl,rfl,rfl,rfl⟩
 | some q=>exact .inr ⟨ztl m (zIg b) _ q.1 q.2 h,rfl⟩
theorem ztm :∀{l:List Rec},(vws m e l).2=none->e=none/\(vws m e l).1.map (·.R)=l
 | [],h=>by
  cases e with
  | none=>exact ⟨rfl,rfl⟩
  | some q=>simp [vws] at h
 | r::l,h=>by
  rw [vws] at h|-;rcases zdl m r.Number r.Wire with hv| ⟨hv,_⟩| ⟨i,run,hv,_⟩
  ·simp only [hv] at h;cases h
  ·simp only [hv] at h|-;have:=ztm h;exact ⟨this.1,by simp [this.2]⟩
  ·simp only [hv] at h|-;have:=ztm h;exact ⟨this.1,by simp [this.2]⟩
theorem zyq :∀{l:List Rec},∀v∈(vws m e l).1,v.R∈l/\vw m v.R.Number v.R.Wire= .inr (v.Field,v.Run)
 | [],v,h=>by cases h
 | r::l,v,h=>by
  rw [vws] at h;rcases zdl m r.Number r.Wire with hv| ⟨hv,_⟩| ⟨i,run,hv,_⟩
  ·simp only [hv] at h;cases h
  all_goals
   simp only [hv] at h;rcases xq.1 h with rfl| h
   ·exact ⟨xn,hv⟩
   ·have:=zyq v h;exact ⟨xo _ this.1,this.2⟩
theorem zBr (h:v∈(zaD m b).1):v.R∈(spl 0 b).1/\vw m v.R.Number v.R.Wire= .inr (v.Field,v.Run):=by
 rcases zpR m b with ⟨_,_,e,_⟩| ⟨_,e⟩
 ·rw [e] at h;exact zyq v h
 ·rw [e] at h;cases h
theorem zzG (b:List UInt8) (base:Nat) (l:List UInt8):l=b.drop base->base<=b.length->(spl base l).2=none->(spl base l).1.flatMap (zxL b)=l:=by
 refine zfp (fun base l=>l=b.drop base->base<=b.length->(spl base l).2=none->(spl base l).1.flatMap (zxL b)=l) ?_ ?_ ?_ base l
 ·intro base _ _ _;rw [zcS];rfl
 ·intro base l c hl h _ _ _ hn;rw [zeC hl h] at hn;cases hn
 ·intro base l n w a t hl h _ g1 g2 g3 ih hld hbase hn;have vF:l.length=b.length - base:=by rw [hld];simp
  rw [zbO hl h] at hn|-;have ih':=ih (by rw [hld,ym]) (by omega) hn;have hr:zxL b ⟨n,w,(base:Int),((base+a:Nat):Int),((base+t:Nat):Int)⟩=l.take t:=by
   unfold zxL;simp only [xA];rw [<-hld,show base+t - base=t by omega]
  rw [xC,hr,ih',y7]
theorem zmx (t:zM):zhZ t=some (zba t.Number t.Wire):=by
 have e:zfh t.Wire=some (decide (t.Wire=0\/t.Wire=1\/t.Wire=2\/t.Wire=5)):=by
  unfold zfh;by_cases h0:t.Wire=0
  ·simp [h0]
  by_cases h1:t.Wire=1
  ·simp [h1]
  by_cases h2:t.Wire=2
  ·simp [h2]
  by_cases h5:t.Wire=5
  ·simp [h5]
  simp [h0,h1,h2,h5]
 unfold zhZ zba;rw [e];by_cases h1:1<=t.Number
 ·by_cases h2:t.Number<=536870911
  ·rw [itT (by simpa using h1),itT (by simpa using h2),sb,sb];simp [h1,h2]
  ·rw [itT (by simpa using h1),itF (by simpa using h2),sb];simp [h2]
 ·rw [itF (by simpa using h1),sb];simp [h1]
theorem zIF (w:Nat) (h:w<18446744073709551616):andI .u64 (w:Int) 7=((w%8:Nat):Int):=by
 have e:=zwt (k:= .u64) rfl (a:=w) (b:=7) (by simpa [IntKind.bits] using h) (by simp [IntKind.bits]);have e2:w&&&7=w%8:=uc w 3;rw [e2] at e;exact e
theorem zIV (w:Nat):shrI .u64 (w:Int) 3=((w/8:Nat):Int):=zoF (k:= .u64) (a:=w) (b:=3) (by simp [IntKind.bits])
theorem zEW (b:List UInt8):zlO b=some ((⟨(tg b).1,(tg b).2.1⟩:zM),(tg b).2.2.1,(tg b).2.2.2):=by
 obtain ⟨h1,h2,h3,h4,h5,h6,h7⟩:=zfE b;unfold zlO tg;rw [zrg,sb];by_cases h:(rd b).2.2=0
 ·rw [itF (by simpa using h)];obtain ⟨w,hw⟩:∃w:Nat,(rd b).1=w:=⟨(rd b).1.toNat,by omega⟩;rw [hw] at h2|-;rw [zIV,zIF w (by omega)];have e0:i64.wrap ((w%8:Nat):Int)=(w:Int)%8:=by rw [uk];omega
  by_cases hg:4294967295<w
  ·have e1:i64.wrap (if (536870912:Int)<((w/8:Nat):Int) then 536870912 else ((w/8:Nat):Int))=536870912:=by
    split
    ·rfl
    ·rw [uk];omega
   rw [e0,e1,zmx,sb];have e2:zba 536870912 ((w:Int)%8)=false:=by simp [zba]
   simp only [e2];rw [ug,ztc h (.inl (by rw [hw];omega))]
  ·have e1:i64.wrap (if (536870912:Int)<((w/8:Nat):Int) then 536870912 else ((w/8:Nat):Int))=(w:Int)/8:=by
    rw [xl (by omega),uk];omega
   rw [e0,e1,zmx,sb];simp only;cases ht:zba ((w:Int)/8) ((w:Int)%8)
   ·rw [ug,ztc h (.inr (by rw [hw];exact ht))]
   ·rw [uh,zzL h (by rw [hw,ht];simp;omega),hw]
 ·rw [itT (by simpa using h),zBp h]
theorem zIt {t:zM} (h:zba t.Number t.Wire=true):zlP t=some ((tW t.Number t.Wire:Nat):Int):=by
 have hr:=zdi.1 h;obtain ⟨e,vC⟩:=zqs h;unfold zlP;congr 1;obtain ⟨n,hn⟩:∃n:Nat,t.Number=n:=⟨t.Number.toNat,by omega⟩;obtain ⟨w,hw⟩:∃w:Nat,t.Wire=w:=⟨t.Wire.toNat,by omega⟩;have e3:tW t.Number t.Wire=8*n+w:=by omega
 rw [e3,hn,hw,wrap_u64,wrap_u64,yZ (by omega) (by omega),yZ (by omega) (by omega)];have e4:shlI .u64 (n:Int) 3=((n*8:Nat):Int):=by
  have h3:shlI .u64 (n:Int) 3=((n*8%18446744073709551616:Nat):Int):=by
   simp [shlI,IntKind.bits,wrap_u64]
  rw [h3,qi (by omega)]
 rw [e4,zrc rfl (by simp [IntKind.bits];omega) (by simp [IntKind.bits];omega),pp,zsz w n 3 (by omega)];congr 1;omega
theorem zGB {t:zM} (b:List UInt8) (hb:b.length<=1099511627776) (h:zba t.Number t.Wire=true):zkC b t=some (b++enc (tW t.Number t.Wire),0):=by
 obtain ⟨_,vC⟩:=zqs h;unfold zkC;rw [zmx,sb,h,uh,zIt h,sb,zzx b (by omega) hb,sb]
theorem zGC {t:zM} (b:List UInt8) (h:zba t.Number t.Wire=false):zkC b t=some ([],2):=by
 unfold zkC;rw [zmx,sb,h,ug]
theorem zBg (hw:w=0\/w=1\/w=2\/w=5) (hb:b.length<=1048576):
  zfF w b=some (match zez w 0 b with| .inl c=>(0,(if w=0 then (rd b).2.1 else 0),c)| .inr (a,t)=>((a:Int),(t:Int),0)):=by
 obtain ⟨h1,h2,h3,h4,h5,h6,h7⟩:=zfE b;unfold zfF zez;rcases hw with rfl| rfl| rfl| rfl
 ·rw [ug,zBe,sb,xm rfl];by_cases h:(rd b).2.2=0
  ·rw [xl (by simpa using h)];simp only [h,xJ];congr 3;simp;omega
  ·rw [xm h];rfl
 ·rw [uh,ug,sb,uh,xl (show ¬((1:Int)=0) by omega),xl (show ¬((1:Int)=2) by omega)];simp only;have e:u64.wrap (i64.wrap ((b.length:Int) - 0))=(b.length:Int):=by rw [uk,wrap_u64];omega
  rw [e];by_cases g:b.length<8
  ·rw [ui,xm (by simpa using g)];rfl
  ·rw [uj,xl (by simpa using g)];rfl
 ·rw [uh,uh,uh,ug,zrg,sb,sb,xl (show ¬((2:Int)=0) by omega),xm (show (2:Int)=2 from rfl)];by_cases h:(rd b).2.2=0
  ·have hk:=h7 h;rw [itF (by simpa using h),xl (show ¬((rd b).2.2≠0) from fun g=>g h)];simp only;have e:u64.wrap (i64.wrap ((b.length:Int) - (rd b).2.1))=(b.length:Int) - (rd b).2.1:=by rw [uk,wrap_u64];omega
   rw [e];by_cases g:(b.length:Int) - (rd b).2.1<(rd b).1
   ·rw [itT (by simpa using g),xm g];rfl
   ·rw [itF (by simpa using g),xl g,wrap_i64 (x:=(rd b).1) (by omega),uk];simp;omega
  ·rw [itT (by simpa using h),xm h];rfl
 ·rw [uh,uh,ug,sb,uh,xl (show ¬((5:Int)=0) by omega),xl (show ¬((5:Int)=2) by omega)];simp only;have e:u64.wrap (i64.wrap ((b.length:Int) - 0))=(b.length:Int):=by rw [uk,wrap_u64];omega
  rw [e];by_cases g:b.length<4
  ·rw [ui,xm (by simpa using g)];rfl
  ·rw [uj,xl (by simpa using g)];rfl
theorem zwz (w:Int) (k:Nat) (m:List UInt8):zez w k m=match zez w 0 m with| .inl c=> .inl c| .inr (a,t)=> .inr (k+a,k+t):=by
 unfold zez
 repeat' split
 all_goals first
  | rfl
  | (rename_i h1 h2;injection h2 with h3;injection h3 with h4 h5;subst h4 h5;simp<;>omega)
  | simp_all<;>omega
theorem zom (hb:b.length<=1048576) (at5:Int):zdA b at5=some (zcg b at5):=by
 unfold zdA zcg;by_cases h:at5<0\/at5>=b.length
 ·rw [itT (by simpa using h),xm h];rfl
 ·rw [itF (by simpa using h),xl h];obtain ⟨p,rfl⟩:∃p:Nat,at5=p:=⟨at5.toNat,by omega⟩;rw [znM rfl rfl (by omega),sb,zEW,sb,xA];have hdl:(b.drop p).length=b.length - p:=by simp
  rcases zyd (b.drop p) with ⟨c,ht,hc⟩| ⟨n,w,k,ht,hr,k1,k2,k3,hrd⟩
  ·have e:rec5 (b.drop p)= .inl c:=by unfold rec5;rw [ht,xm (by simp only;omega)]
   rw [e,ht,ui];rfl
  ·obtain ⟨k,rfl⟩:∃j:Nat,k=j:=⟨k.toNat,by omega⟩
   have e:rec5 (b.drop p)=match zez w k ((b.drop p).drop k) with
    | .inl c=> .inl c
    | .inr p=> .inr (n,w,p.1,p.2):=by unfold rec5;rw [ht];simp<;>rfl
   have hdd:(b.drop p).drop k=b.drop (p+k):=by rw [ym]
   have hml:(b.drop (p+k)).length=b.length - (p+k):=by simp
   have ew:i64.wrap ((p:Int)+k)=((p+k:Nat):Int):=by rw [uk];push_cast;rfl
   rw [e,ht,itF (by simp),hdd];simp only [ew];rw [znM rfl rfl (by omega),sb,zBg (zdi.1 hr).2.2 (by omega),sb,zwz w k];rcases zhd w 0 (b.drop (p+k)) with ⟨c,hc,hc2⟩| ⟨a,t,hc,_,_,hle,_⟩
   ·rw [hc];simp only;rw [ui];rfl
   ·rw [hc];simp only;rw [uh,uk,uk];simp only [ye,yi,zo.mk.injEq,y6,qo];push_cast;omega
theorem zFE {w:Int} {v:List UInt8} (hw:w=0\/w=1\/w=2\/w=5) (hv:v.length<=1048576):zhm w v=some (zaW w v):=by
 obtain ⟨h1,h2,h3,h4,h5,h6,h7⟩:=zfE v;unfold zhm;by_cases h:w=2
 ·rw [itT (by simpa using h)];subst h;rfl
 ·rw [itF (by simpa using h),zBg hw hv,sb];unfold zez zaW;congr 1;rcases hw with rfl| rfl| rfl| rfl
  ·rw [xm rfl,xm rfl];by_cases hg:(rd v).2.2=0
   ·rw [xl (by simpa using hg)];have e:(((0+(rd v).2.1.toNat:Nat):Int)==(v.length:Int))=decide ((rd v).2.1=v.length):=by rw [zAa];exact decide_eq_decide.2 (by omega)
    simp only [e,hg,y6];rfl
   ·rw [xm hg];simp [hg]
  ·by_cases g:v.length<8
   ·have:v.length≠8:=by omega
    simp [g,this]
   ·by_cases g8:v.length=8
    ·simp [g8]
    ·have:¬((8:Int)=v.length):=by omega
     simp [g,g8,this]
  ·exact absurd rfl h
  ·by_cases g:v.length<4
   ·have:v.length≠4:=by omega
    simp [g,this]
   ·by_cases g8:v.length=4
    ·simp [g8]
    ·have:¬((4:Int)=v.length):=by omega
     simp [g,g8,this]
theorem zxG {n w:Int} {v:List UInt8} (h:zba n w=true) (hv:v.length<=1048576):(put5 n w v).length<=v.length+20:=by
 obtain ⟨_,vC⟩:=zqs h;have h1:=zhz (v:=tW n w) (by omega);have h2:=zhz (v:=v.length) (by omega);rw [zfg];split<;>omega
theorem zBd {b v:List UInt8} {n w:Int} (hb:b.length<=1048576) (hv:v.length<=1048576):
  zgJ b n w v=some (if zba n w=true/\zaW w v=true then (b++put5 n w v,0) else ([],2)):=by
 unfold zgJ;cases h:zba n w
 ·rw [zGC [] h,sb,ug,sb,ug];rfl
 ·have hp:=zxG h hv;rw [zGB [] (by simp) h,sb,uh,zFE (zdi.1 h).2.2 hv,sb,sb];cases hf:zaW w v
  ·rw [ug];rfl
  ·rw [uh];have e:u64.wrap (v.length:Int)=(v.length:Int):=by rw [wrap_u64,yZ (by omega) (by omega)]
   obtain ⟨_,vC⟩:=zqs h;have h1:=zhz (v:=tW n w) (by omega);by_cases hw:w=2
   ·have hl:=zfg n w v;rw [xm hw] at hl;rw [itT (by simpa using hw),e,zzx _ (by omega) (by simp;omega),sb,zpb (by simp) (by simp;omega),sb];simp [put5,hw]
   ·have hl:=zfg n w v;rw [xl hw] at hl;rw [itF (by simpa using hw),zpb (by simp) (by simp;omega),sb];simp [put5,hw]
theorem zGs {b v:List UInt8} {n:Int} (hb:b.length<=1048576) (hv:v.length<=1048576):
  ziw b n v=some (if zba n 2=true then b++put5 n 2 v else b):=by
 unfold ziw;rw [zBd hb hv,sb];have hf:zaW 2 v=true:=rfl;simp only [hf,qo];cases h:zba n 2
 ·rw [xl (show ¬(false=true) by simp),xl (show ¬(false=true) by simp),ug,zpb (by simp) (by simp;omega),sb];simp
 ·rw [xm rfl,xm rfl,uh]
abbrev Head:=zL
abbrev Role:=zN
def rol (m:Mes) (h:Head):Role:=match vw m h.number h.wire with
 | .inl c=>⟨0,false,c⟩
 | .inr (i,run)=>⟨i,run,0⟩
theorem zCE (hm:m.Fields.length<=1152921504606846976) (n:Int):ziF m n=some (fldI m n):=by
 unfold ziF zV;have h:=zpi (fun f:Fld=>f.Number==n) m.Fields (fun i=>zE m.Fields n i) (zaC (by unfold zx;rw [itF (by simp)])) (fun i hi=>by
  by_cases hp:(m.Fields[i].Number==n)=true
  ·rw [xm hp];exact zaC (by unfold zx zgn;rw [ui,zao rfl hi,sb,sb,itT hp])
  ·rw [xl hp];exact zca (by unfold zx zgn;rw [ui,zao rfl hi,sb,sb,itF (qX hp),uk];rfl)) m.Fields.length 0 (by omega) (fun j _ h=>by omega)
 have h':zE m.Fields n 0=_:=h;rw [h',sb];unfold fldI zij;cases m.Fields.findIdx? (fun f:Fld=>f.Number==n) with
 | none=>rfl
 | some i=>rfl
theorem zCF (f:Fld) (w:Int):ziG f w=some (decide (f.Repeated=true/\kNum f.Kind=true/\w=2)):=by
 unfold ziG;cases f.Repeated
 ·simp [sb]
 ·by_cases hw:w=2
  ·subst hw;rw [itT rfl,itT (c:=(2:Int)==2) rfl,zsc,sb,sb];simp_all
  grind
theorem zFb (k w:Int):zkc k w=some (decide (¬(zaQ k=false\/zX k≠w))):=by
 unfold zkc;rw [zxo,sb];cases zaQ k with
 | false=>rfl
 | true=>
  grind
theorem zzR (hm:m.Fields.length<=1152921504606846976) (h:Head):zfL m h=some (rol m h):=by
 unfold zfL rol;rw [zCE hm,sb]
 grind [vw,sb,wrap_i64,zcK,zao,zbw,zCF,zFb]
def znI (m:Mes) (met:List (Head×Role)):Prop:=∀h x,mget met h=some x->x=rol m h
theorem znI.nil (m:Mes):znI m []:=fun h x g=>by cases g
theorem znI.put (g:znI m met) (h:Head):znI m (mput met h (rol m h)):=fun j x hx=>by
 rw [zdq] at hx;by_cases e:j=h
 ·grind
 ·rw [xl e] at hx;exact g j x hx
theorem zDX (hm:m.Fields.length<=1152921504606846976) (hb:b.length<=1048576) (p:Int) (g:znI m met):
  ∃met',zkd m b p met=some (prV (zee m b p).1,(zee m b p).2,met')/\znI m met':=by
 unfold zkd zee;rw [zom hb,sb];by_cases h:(zcg b p).2=0
 ·rw [itF (by simpa using h),xl (show ¬((zcg b p).2≠0) from fun q=>q h)]
  generalize (zcg b p).1=r
  have key:∃met',(if (!(mget met (⟨r.Number,r.Wire⟩:Head)).isSome) then (zfL m (⟨r.Number,r.Wire⟩:Head)>>=fun vA=>some ((mput met (⟨r.Number,r.Wire⟩:Head) vA),vA.field,vA.run,vA.e))
    else some (met,((mget met (⟨r.Number,r.Wire⟩:Head)).getD (⟨0,false,0⟩:Role)).field,((mget met (⟨r.Number,r.Wire⟩:Head)).getD (⟨0,false,0⟩:Role)).run,((mget met (⟨r.Number,r.Wire⟩:Head)).getD (⟨0,false,0⟩:Role)).e))=some (met',(rol m ⟨r.Number,r.Wire⟩).field,(rol m ⟨r.Number,r.Wire⟩).run,(rol m ⟨r.Number,r.Wire⟩).e)/\znI m met':=by
   cases hg:mget met (⟨r.Number,r.Wire⟩:Head) with
   | none=>
    rw [ug,zzR hm,sb];exact ⟨_,rfl,g.put _⟩
   | some x=>
    rw [uh];refine ⟨met,?_,g⟩;rw [<-g _ x hg];rfl
  obtain ⟨met',hk,hM⟩:=key;refine ⟨met',?_,hM⟩;rw [hk,sb];unfold rol;rcases zdl m r.Number r.Wire with hv| ⟨hv,_⟩| ⟨i,run,hv,_⟩
  ·simp only [hv];rfl
  ·simp only [hv];rfl
  ·simp only [hv];rfl
 ·rw [itT (by simpa using h),xm h];exact ⟨met,rfl,g⟩
theorem zyp (hm:m.Fields.length<=1152921504606846976) (hb:b.length<=1048576) (p:Int):zic m b p=some (prV (zee m b p).1,(zee m b p).2):=by
 obtain ⟨met',h,_⟩:=zDX hm hb p (znI.nil m);unfold zic;rw [h,sb]
theorem zGD (m:Mes) (b:List UInt8):(zaD m b).1.length<=b.length:=by
 grind [zpR,ztm,zGw]
def zkL (m:Mes) (g:Int->List UInt8->Nat) (b:List UInt8) (r:Rec):Nat:=match vw m r.Number r.Wire with
 | .inl _=>0
 | .inr (i,run)=>if i<0\/run=true then 0 else if (zr m i).Kind=17 then g (zr m i).Of (valB b r)+1 else 0
def ziQ (m:Mes) (g:Int->List UInt8->Nat) (b:List UInt8):List Rec->Nat
 | []=>0
 | r::l=>max (zkL m g b r) (ziQ m g b l)
def zgz (s:List Mes):Nat->Int->List UInt8->Nat
 | 0,k,b=>ziQ (zn s k) (fun _ _=>0) b (spl 0 b).1
 | d+1,k,b=>ziQ (zn s k) (zgz s d) b (spl 0 b).1
theorem znW :∀{l:List Rec},ziQ m g b l<=e↔∀r∈l,zkL m g b r<=e
 | []=>by simp [ziQ]
 | r::l=>by
  have ih:=znW (m:=m) (g:=g) (b:=b) (e:=e) (l:=l);unfold ziQ;rw [List.forall_mem_cons,<-ih];omega
theorem zmv (h:zcm m a b r=none) (hc0:c=none↔e=0)
  (hc:∀q,a=some q->∀q',c=some q'->∀k v,q k v=none->(q' k v=none↔g k v+1<=e)):zcm m c b r=none↔zkL m g b r<=e:=by
 unfold zcm at h|-;unfold zkL;cases hv:vw m r.Number r.Wire with
 | inl x=>rw [hv] at h;cases h
 | inr p=>
  obtain ⟨i,run⟩:=p;rw [hv] at h;simp only at h|-;by_cases hi:i<0
  ·grind
  ·rw [xl hi] at h|-;unfold zfq at h|-;by_cases hr:run=true
   ·grind
   ·rw [xl hr] at h|-;rw [xl (show ¬(i<0\/run=true) from fun q=>q.elim hi hr)];by_cases h15:(zr m i).Kind=15/\zgL (valB b r)=false
    ·grind
    ·rw [xl h15] at h|-;by_cases vD:(zr m i).Kind=17
     ·rw [xm vD] at h|-;rw [xm vD];cases a with
      | none=>cases h
      | some q=>
       simp only at h;cases hq:q (zr m i).Of (valB b r) with
       | some z=>rw [hq] at h;cases h
       | none=>
        cases c with
        | none=>
         grind
        | some q'=>
         grind
     grind
theorem zwH (s:List Mes):∀(d e:Nat) (k:Int) (b:List UInt8),e<=d->zF s d k b=none->(zF s e k b=none↔zgz s d k b<=e)
 | 0,e,k,b,he,h=>by
  have:e=0:=by omega
  subst this;refine ⟨fun _=>znW.2 (fun r hr=>?_),fun _=>h⟩;have h':=(zbx.1 h).1 r hr;exact (zmv (a:=none) (c:=none) h' (by simp) (fun q hq q' hq'=>nomatch hq')).1 h'
 | d+1,0,k,b,he,h=>by
  have h':zcs (zn s k) (some (zF s d)) b (spl 0 b)=none:=h;rw [zbx] at h';show zcs (zn s k) none b (spl 0 b)=none↔ziQ _ _ _ _<=0;rw [zbx,znW];constructor
  ·intro hh r hr;exact (zmv (a:=some (zF s d)) (c:=none) (h'.1 r hr) (by simp) (fun q hq q' hq'=>nomatch hq')).1 (hh.1 r hr)
  ·intro hh;exact ⟨fun r hr=>(zmv (a:=some (zF s d)) (c:=none) (h'.1 r hr) (by simp) (fun q hq q' hq'=>nomatch hq')).2 (hh r hr),h'.2⟩
 | d+1,e+1,k,b,he,h=>by
  have h':zcs (zn s k) (some (zF s d)) b (spl 0 b)=none:=h;rw [zbx] at h';show zcs (zn s k) (some (zF s e)) b (spl 0 b)=none↔ziQ _ _ _ _<=e+1;rw [zbx,znW];have key:∀r∈(spl 0 b).1,zcm (zn s k) (some (zF s e)) b r=none↔zkL (zn s k) (zgz s d) b r<=e+1:=fun r hr=>
   zmv (a:=some (zF s d)) (h'.1 r hr) (by simp) (fun q hq q' hq' k v hk=>by
    cases hq;cases hq';have:=zwH s d e k v (by omega) hk;rw [this];omega)
  exact ⟨fun hh r hr=>(key r hr).1 (hh.1 r hr),fun hh=>⟨fun r hr=>(key r hr).2 (hh r hr),h'.2⟩⟩
abbrev zgv:=zk
def zey (s:List Mes) (met:List (zgv×PVw)):Prop:=∀h x,mget met h=some x->vw (zn s h.message) h.number h.wire= .inr (x.Field,x.Run)
theorem zey.nil (s:List Mes):zey s []:=fun h x g=>by cases g
theorem zey.put (g:zey s met) (hv:vw (zn s h.message) h.number h.wire= .inr (v.Field,v.Run)):zey s (mput met h v):=fun j x hx=>by
 rw [zdq] at hx;by_cases e:j=h
 ·grind
 ·rw [xl e] at hx;exact g j x hx
theorem zyv {s:List Mes} {k:Nat} (hk:k<s.length) (hm:(zn s k).Fields.length<=1152921504606846976) {b:List UInt8} (hb:b.length<=1048576) (p:Int) {t:Nat} (ht:t<=b.length) {met:List (zgv×PVw)} (g:zey s met):
  ∃met',zep ⟨s,b,met⟩ k p t=some (prV (zee (zn s k) (b.take t) p).1,(zee (zn s k) (b.take t) p).2,met')/\zey s met':=by
 have hbt:(b.take t).length<=1048576:=by rw [xY];omega
 have hcut:cut b 0 (t:Int)=some (b.take t):=by
  rw [zfR (i:=0) (j:=t) rfl rfl (xB _) ht];simp
 have hidx:idx s (k:Int)=some (zn s k):=by rw [zao rfl hk,zcf hk]
 have hvl:=zyp hm hbt p;unfold zep;simp only;rw [hcut,sb,zom hbt,sb];unfold zee at hvl|-;by_cases h:(zcg (b.take t) p).2=0
 ·rw [itF (by simpa using h),xl (show ¬((zcg (b.take t) p).2≠0) from fun q=>q h)];rw [xl (show ¬((zcg (b.take t) p).2≠0) from fun q=>q h)] at hvl
  generalize (zcg (b.take t) p).1=r at hvl|-
  cases hg:mget met (⟨(k:Int),r.Number,r.Wire⟩:zgv) with
  | none=>
   rw [ug,hidx,sb,hvl,sb];cases hv:vw (zn s k) r.Number r.Wire with
   | inl c=>
    have hc:c=6:=by
     grind [zdl]
    subst hc;exact ⟨met,by rw [ug];rfl,g⟩
   | inr q=>
    obtain ⟨i,run⟩:=q;refine ⟨_,?_,g.put (h:=⟨(k:Int),r.Number,r.Wire⟩) (v:=prV ⟨r,i,run⟩) hv⟩;rfl
  | some x=>
   have hv:=g _ _ hg;simp only at hv;rw [uh,hv];exact ⟨met,rfl,g⟩
 ·rw [itT (by simpa using h),xm h];exact ⟨met,rfl,g⟩
def zlb (f:Fld) (run:Bool) (v:List UInt8):Int:=if run=true then (zkG f.Kind v).2 else if f.Kind=15/\zgL v=false then 7 else if f.Kind=17 then 8 else 0
theorem zCD (f:Fld) (run:Bool) (hv:v.length<=1048576):zhw f run v=some (zlb f run v):=by
 unfold zhw zlb
 grind [zZ,zkG,zpN,sb,zCl]
abbrev Find:=zu
def okR (o:Option (Int×Int)) (a dp:Nat) (r:Find):Prop:=match o with
 | none=>r=⟨(dp:Int),0,0⟩
 | some (p,c)=>r.place=(a:Int)+p/\r.e=c
def zta (s:List Mes):Nat->zjr
 | 0=>none
 | d+1=>some (zF s d)
def zpc (s:List Mes):Nat->Int->List UInt8->Nat
 | 0=>fun _ _=>0
 | d+1=>zgz s d
theorem zBG (s:List Mes) (d:Nat) (k:Int) (b:List UInt8):zF s d k b=zcs (zn s k) (zta s d) b (spl 0 b):=by cases d<;>rfl
theorem zFw (s:List Mes) (d:Nat) (k:Int) (b:List UInt8):zgz s d k b=ziQ (zn s k) (zpc s d) b (spl 0 b).1:=by cases d<;>rfl
theorem zES (s:List Mes) (d:Nat):∀g,zta s d=some g->zrm g:=fun g h=>by
 cases d with
 | zero=>cases h
 | succ d=>cases h;exact zik s d
theorem zGl (b:List UInt8) (t a x y:Nat) (h:a+y<=t):(((b.take t).drop a).drop x).take (y - x)=(b.take (a+y)).drop (a+x):=by
 rw [ym,qn,qn,y8];congr 1;omega
theorem zCI {s:List Mes} {k:Nat} (hk:k<s.length) (hm:(zn s k).Fields.length<=1152921504606846976) {b:List UInt8} (hb:b.length<=1048576) {d:Int} {a t:Nat} (hat:a<=t) (ht:t<=b.length) {sub:zjr} {gd:Int->List UInt8->Nat}
  (hg:∀g,sub=some g->zrm g) {recv:zQ->Int->zf->Int->Option (zu×(List (zk×zf)))} {met0:List (zgv×PVw)}
  (hval:∀met,zey s met->∀(n w i:Int) (run:Bool) (base x y:Nat),vw (zn s k) n w= .inr (i,run)->1<=x->x<=y->a+base+y<=t->
   ∃R met',recv ⟨s,b,met⟩ k ⟨⟨n,w,((a+base:Nat):Int),((a+(base+x):Nat):Int),((a+(base+y):Nat):Int)⟩,i,run⟩ d=some (R,met')/\zey s met'/\
    okR (zcm (zn s k) sub ((b.take t).drop a) ⟨n,w,base,(base+x:Nat),(base+y:Nat)⟩) a (zkL (zn s k) gd ((b.take t).drop a) ⟨n,w,base,(base+x:Nat),(base+y:Nat)⟩) R)
  (base:Nat) (l:List UInt8):∀(met:List (zgv×PVw)) (dp:Nat),zey s met->l=((b.take t).drop a).drop base->base<=t - a->
  ∃met' D,zey s met'/\zaR d k recv t ⟨s,b,met0⟩ met ((a+base:Nat):Int) dp=some (match zcs (zn s k) sub ((b.take t).drop a) (spl base l) with
   | none=> .inl (met',((max dp (ziQ (zn s k) gd ((b.take t).drop a) (spl base l).1):Nat):Int))
   | some (p,c)=> .inr (met',D,(a:Int)+p,c)):=by
 have hvl:((b.take t).drop a).length=t - a:=by simp;omega
 generalize hvv:(b.take t).drop a=v at hval hvl|-
 refine zfp (fun base l=>∀(met:List (zgv×PVw)) (dp:Nat),zey s met->l=v.drop base->base<=t - a->
  ∃met' D,zey s met'/\zaR d k recv t ⟨s,b,met0⟩ met ((a+base:Nat):Int) dp=some (match zcs (zn s k) sub v (spl base l) with
   | none=> .inl (met',((max dp (ziQ (zn s k) gd v (spl base l).1):Nat):Int))
   | some (p,c)=> .inr (met',D,(a:Int)+p,c))) ?_ ?_ ?_ base l
 ·intro base met dp g hl hbase;have:v.length<=base:=by have:=congrArg List.length hl;simp at this;omega
  refine ⟨met,0,g,?_⟩;rw [zcS];refine zce ?_;unfold zal;rw [uj];simp [zcs,ziQ]
 ·intro base l c hl h hc met dp g hld hbase;have vC:a+base<t:=by have:=qU.2 hl;rw [hld] at this;simp at this;omega
  have hdr:(b.take t).drop (a+base)=l:=by rw [hld,<-hvv,ym]
  have e:zcg (b.take t) ((a+base:Nat):Int)=(zrec,c):=by unfold zcg;rw [xl (by simp;omega),xA,hdr,h]
  have e2:zee (zn s k) (b.take t) ((a+base:Nat):Int)=(zvw,c):=by unfold zee;rw [e,xm (by simp only;omega)]
  obtain ⟨met',hlk,g'⟩:=zyv hk hm hb ((a+base:Nat):Int) ht g;refine ⟨met',0,g',?_⟩;rw [zeC hl h];refine zce ?_;unfold zal;simp only;rw [ui,hlk,sb,e2,ui];simp [zcs]
 ·intro base l n w x y hl h _ g1 g2 g3 ih met dp g hld hbase;have hly:base+y<=t - a:=by rw [hld] at g3;simp at g3;omega
  have hdr:(b.take t).drop (a+base)=l:=by rw [hld,<-hvv,ym]
  have e:zcg (b.take t) ((a+base:Nat):Int)=(⟨n,w,((a+base:Nat):Int),((a+(base+x):Nat):Int),((a+(base+y):Nat):Int)⟩,0):=by
   unfold zcg;rw [xl (by simp;omega),xA,hdr,h]
   grind
  obtain ⟨met',hlk,g'⟩:=zyv hk hm hb ((a+base:Nat):Int) ht g
  have hfr:zcs (zn s k) sub v (spl base l)=match zcm (zn s k) sub v ⟨n,w,base,(base+x:Nat),(base+y:Nat)⟩ with
    | some p=>some p
    | none=>zcs (zn s k) sub v (spl (base+y) (l.drop y)):=by
   unfold zcs;rw [zbO hl h];simp only [List.findSome?_cons];cases zcm (zn s k) sub v ⟨n,w,base,(base+x:Nat),(base+y:Nat)⟩<;>rfl
  have hfd:ziQ (zn s k) gd v (spl base l).1=max (zkL (zn s k) gd v ⟨n,w,base,(base+x:Nat),(base+y:Nat)⟩) (ziQ (zn s k) gd v (spl (base+y) (l.drop y)).1):=by
   rw [zbO hl h];rfl
  cases hv:vw (zn s k) n w with
  | inl c=>
   have hc:c=6:=by
    grind [zdl]
   subst hc;have e2:zee (zn s k) (b.take t) ((a+base:Nat):Int)=(zvw,6):=by unfold zee;rw [e];simp only [ne_eq,qT,yu,hv]
   have hst:zcm (zn s k) sub v ⟨n,w,base,(base+x:Nat),(base+y:Nat)⟩=some ((base:Int),6):=by unfold zcm;simp only [hv]
   refine ⟨met',0,g',?_⟩;rw [hfr,hst];refine zce ?_;unfold zal
   grind
  | inr q=>
   obtain ⟨i,run⟩:=q;have e2:zee (zn s k) (b.take t) ((a+base:Nat):Int)=(⟨⟨n,w,((a+base:Nat):Int),((a+(base+x):Nat):Int),((a+(base+y):Nat):Int)⟩,i,run⟩,0):=by unfold zee;rw [e];simp only [ne_eq,qT,yu,hv]
   obtain ⟨R,met2,hrv,g2',vH⟩:=hval met' g' n w i run base x y hv g1 g2 (by omega);have hpr:prV (⟨⟨n,w,((a+base:Nat):Int),((a+(base+x):Nat):Int),((a+(base+y):Nat):Int)⟩,i,run⟩:Vw)=⟨⟨n,w,((a+base:Nat):Int),((a+(base+x):Nat):Int),((a+(base+y):Nat):Int)⟩,i,run⟩:=rfl;cases hst:zcm (zn s k) sub v ⟨n,w,base,(base+x:Nat),(base+y:Nat)⟩ with
   | some pc=>
    obtain ⟨p,c⟩:=pc;have hgd:=zuR hg g1 g2 (b:=v) (base:=base) (by omega) hst;rw [hst] at vH;obtain ⟨o1,o2⟩:=vH;refine ⟨met2,R.depth,g2',?_⟩;rw [hfr,hst];refine zce ?_;unfold zal
    grind
   | none=>
    rw [hst] at vH;have hok':R=⟨((zkL (zn s k) gd v ⟨n,w,base,(base+x:Nat),(base+y:Nat)⟩:Nat):Int),0,0⟩:=vH;obtain ⟨met3,D,g3',h3⟩:=ih met2 (max dp (zkL (zn s k) gd v ⟨n,w,base,(base+x:Nat),(base+y:Nat)⟩)) g2' (by rw [hld,ym]) hly;refine ⟨met3,D,g3',?_⟩;rw [hfr,hst,hfd,<-Nat.max_assoc,<-h3];refine ziJ ?_;unfold zal
    grind
theorem zGM {s:List Mes} (hr:zcI s) {k:Nat} (hk:k<s.length) {b:List UInt8} (hb:b.length<=1048576) {d fuel:Nat} (hd:d<=64) {a t:Nat} (ht:t<=b.length)
  (ih:∀e,d=e+1->∀(q A T:Nat) (met:List (zgv×PVw)),q<s.length->A<=T->T<=b.length->zey s met->
   ∃R met',zau fuel ⟨s,b,met⟩ q A T e=some (R,met')/\zey s met'/\okR (zF s e q ((b.take T).drop A)) A (zgz s e q ((b.take T).drop A)) R)
  (met:List (zgv×PVw)) (g:zey s met) (n w i:Int) (run:Bool) (base x y:Nat) (hv:vw (zn s k) n w= .inr (i,run)) (h1:1<=x) (h2:x<=y) (hy:a+base+y<=t):
  ∃R met',zcn (fuel+1) ⟨s,b,met⟩ k ⟨⟨n,w,((a+base:Nat):Int),((a+(base+x):Nat):Int),((a+(base+y):Nat):Int)⟩,i,run⟩ d=some (R,met')/\zey s met'/\
    okR (zcm (zn s k) (zta s d) ((b.take t).drop a) ⟨n,w,base,(base+x:Nat),(base+y:Nat)⟩) a (zkL (zn s k) (zpc s d) ((b.take t).drop a) ⟨n,w,base,(base+x:Nat),(base+y:Nat)⟩) R:=by
 have hidx:idx s (k:Int)=some (zn s k):=by rw [zao rfl hk,zcf hk]
 have hun:∀w' v',zcn (fuel+1) w' k v' d=zdk (zau fuel) (zcn fuel) w' k v' d:=fun _ _=>rfl
 have hvb:valB ((b.take t).drop a) ⟨n,w,base,(base+x:Nat),(base+y:Nat)⟩=(b.take (a+(base+y))).drop (a+(base+x)):=by
  unfold valB
  grind [zGl]
 rcases zdl (zn s k) n w with h'| ⟨h',_⟩| ⟨j,run',h',_,hi⟩
 ·grind
 ·rw [hv] at h';obtain ⟨rfl,rfl⟩:i= -1/\run=false:=by simpa using h'
  refine ⟨⟨0,0,0⟩,met,?_,g,?_⟩
  ·rfl
  ·unfold zcm zkL;simp only [hv];rfl
 ·rw [hv] at h';obtain ⟨rfl,rfl⟩:i=j/\run=run':=by simpa using h'
  have hfm:zr (zn s k) (j:Int)∈(zn s k).Fields:=by rw [zbw hi];exact xD hi
  have hmem:zn s k∈s:=by rw [zcf hk];exact xD hk
  have vL:run=true->(zr (zn s k) (j:Int)).Kind≠17:=fun hh vD=>by
   subst hh;have:=(zwn hv).1;rw [vD] at this;cases this
  have hcut:cut b ((a+(base+x):Nat):Int) ((a+(base+y):Nat):Int)=some ((b.take (a+(base+y))).drop (a+(base+x))):=by
   rw [zfR rfl rfl (by omega) (by omega),qn]
  have vF:((b.take (a+(base+y))).drop (a+(base+x))).length<=1048576:=by simp;omega
  unfold zcm zkL;simp only [hv];rw [xl (show ¬((j:Int)<0) by omega),hvb];have hif:(if ((j:Int)<0\/run=true) then 0 else if (zr (zn s k) (j:Int)).Kind=17 then zpc s d (zr (zn s k) (j:Int)).Of ((b.take (a+(base+y))).drop (a+(base+x)))+1 else 0)=(if (zr (zn s k) (j:Int)).Kind=17 then zpc s d (zr (zn s k) (j:Int)).Of ((b.take (a+(base+y))).drop (a+(base+x)))+1 else 0):=by
   cases run with
   | false=>rw [xl (by simp)]
   | true=>rw [xm (.inr rfl),xl (vL rfl)]
  rw [hif];simp only [hun];unfold zdk;simp only;rw [itF (show ((j:Int)== -1)=false by simp),hidx,sb,zao (i:=j) rfl hi,sb,<-zbw hi]
  generalize hvv:(b.take (a+(base+y))).drop (a+(base+x))=v at vF hcut|-
  have hof:=(hr.fld _ hmem _ hfm).sub
  generalize zr (zn s k) (j:Int)=f at hfm vL hof|-
  by_cases hs:f.Kind=17/\0<d
  ·obtain ⟨e,rfl⟩:∃e,d=e+1:=⟨d - 1,by omega⟩;have hrf:run=false:=by
    cases run with
    | false=>rfl
    | true=>exact absurd hs.1 (vL rfl)
   subst hrf;have hof':=hof hs.1;obtain ⟨q,hq⟩:∃q:Nat,f.Of=q:=⟨f.Of.toNat,by omega⟩;obtain ⟨R,met',hR,g',vH⟩:=ih e rfl q (a+(base+x)) (a+(base+y)) met (by omega) (by omega) (by omega) g;rw [hvv] at vH;have hw1:i64.wrap (((e+1:Nat):Int) - 1)=(e:Int):=by rw [uk];omega
   refine ⟨⟨i64.wrap (R.depth+1),R.place,R.e⟩,met',?_,g',?_⟩
   ·grind
   ·rw [xm hs.1];unfold zfq;rw [xl (by simp),xl (by rw [hs.1];simp),xm hs.1];simp only [zta,zpc,hq];cases hf:zF s e q v with
    | none=>
     rw [hf] at vH;have hok':R=⟨((zgz s e q v:Nat):Int),0,0⟩:=vH;have hdl:=(zwH s e e q v (xr _) hf).1 hf;subst hok';show (⟨i64.wrap (((zgz s e q v:Nat):Int)+1),0,0⟩:Find)=_;rw [uk];rfl
    | some pc=>
     obtain ⟨p,c⟩:=pc;rw [hf] at vH;obtain ⟨o1,o2⟩:=vH;refine ⟨?_,o2⟩
     grind
  ·have hno:((f.Kind==17)&&decide (((d:Nat):Int)>0))=false:=by
    grind
   have hlf:zfq f run (zta s d) ⟨n,w,base,(base+x:Nat),(base+y:Nat)⟩ v=if zlb f run v≠0 then some ((base:Int),zlb f run v) else none:=by
    unfold zfq zlb;by_cases hrt:run=true
    ·grind
    ·rw [xl hrt,xl hrt];by_cases h15:f.Kind=15/\zgL v=false
     ·grind
     ·rw [xl h15,xl h15];by_cases vD:f.Kind=17
      ·have:d=0:=by have:=fun h=>hs ⟨vD,h⟩;omega
       subst this;rw [xm vD,xm vD,xm (by omega)];rfl
      grind
   rw [itF hno,hcut,sb,zCD f run vF,sb,hlf];by_cases h0:zlb f run v=0
   ·refine ⟨⟨0,0,0⟩,met,by rw [itF (by simpa using h0)],g,?_⟩;rw [xl (by simpa using h0)];have:f.Kind≠17:=fun vD=>by
     grind [zlb]
    rw [xl this];rfl
   ·refine ⟨⟨0,((a+base:Nat):Int),zlb f run v⟩,met,by rw [itT (by simpa using h0)],g,?_⟩;rw [xm h0];exact ⟨by simp,rfl⟩
theorem zGI (hr:zcI s) (hb:b.length<=1048576):∀(d fuel:Nat),d<=64->2*d+2<=fuel->∀(q A T:Nat) (met:List (zgv×PVw)),q<s.length->A<=T->T<=b.length->zey s met->
   ∃R met',zau fuel ⟨s,b,met⟩ q A T d=some (R,met')/\zey s met'/\okR (zF s d q ((b.take T).drop A)) A (zgz s d q ((b.take T).drop A)) R:=by
 have step:∀(d fuel:Nat),d<=64->(∀e,d=e+1->∀(q A T:Nat) (met:List (zgv×PVw)),q<s.length->A<=T->T<=b.length->zey s met->
   ∃R met',zau fuel ⟨s,b,met⟩ q A T e=some (R,met')/\zey s met'/\okR (zF s e q ((b.take T).drop A)) A (zgz s e q ((b.take T).drop A)) R)->
   ∀(q A T:Nat) (met:List (zgv×PVw)),q<s.length->A<=T->T<=b.length->zey s met->
   ∃R met',zau (fuel+2) ⟨s,b,met⟩ q A T d=some (R,met')/\zey s met'/\okR (zF s d q ((b.take T).drop A)) A (zgz s d q ((b.take T).drop A)) R:=by
  intro d fuel hd ih q A T met hq hAT hT g;have hun:∀w' k' p' t' d',zau (fuel+2) w' k' p' t' d'=zcz (zau (fuel+1)) (zcn (fuel+1)) w' k' p' t' d':=fun _ _ _ _ _=>rfl
  have hm:(zn s q).Fields.length<=1152921504606846976:=by
   rw [zcf hq];have:=hr.few _ (xD hq);omega
  obtain ⟨met',D,g',hl⟩:=zCI (s:=s) hq hm hb (d:=(d:Int)) hAT hT (sub:=zta s d) (gd:=zpc s d) (zES s d) (recv:=zcn (fuel+1)) (met0:=met)
   (fun met1 g1 n w i run base x y hv h1 h2 hy=>zGM hr hq hb hd hT ih met1 g1 n w i run base x y hv h1 h2 hy) 0 _ met 0 g rfl (xB _)
  have hl':zaR d q (zcn (fuel+1)) T ⟨s,b,met⟩ met (A:Int) 0=_:=hl;rw [hun,zBG,zFw];unfold zcz;simp only;rw [yq,Nat.zero_max] at hl';rw [hl',sb];cases hf:zcs (zn s q) (zta s d) ((b.take T).drop A) (spl 0 ((b.take T).drop A)) with
  | none=>exact ⟨_,_,rfl,g',rfl⟩
  | some pc=>exact ⟨_,_,rfl,g',rfl,rfl⟩
 intro d
 induction d with
 | zero=>
  intro fuel hd hf;obtain ⟨fuel,rfl⟩:∃z,fuel=z+2:=⟨fuel - 2,by omega⟩;exact step 0 fuel hd (fun e he=>by omega)
 | succ d ih=>
  intro fuel hd hf;obtain ⟨fuel,rfl⟩:∃z,fuel=z+2:=⟨fuel - 2,by omega⟩;refine step (d+1) fuel hd (fun e he=>?_)
  grind
theorem zyo (hw:WS s) (root d:Int):zgR s root d=some (argS s root d):=by
 unfold zgR argS
 grind [zEv,sb]
theorem zFD (hw:WS s) (root:Int) (hb:b.length<=1048576) (d:Int) (hf:130<=fuel):
  ∃R,ziE fuel s root b d=some R/\R.place=(zbj s root b d).1/\R.e=(zbj s root b d).2/\((zbj s root b d).2=0->R.depth=((zgz s d.toNat root b:Nat):Int)):=by
 unfold ziE zbj;rw [zyo hw,sb];by_cases h:argS s root d=0
 ·obtain ⟨hr,h1,h2,h3,h4⟩:=zma h;obtain ⟨k,rfl⟩:∃k:Nat,root=k:=⟨root.toNat,by omega⟩;obtain ⟨e,rfl⟩:∃k:Nat,d=k:=⟨d.toNat,by omega⟩;obtain ⟨R,met',hR,_,vH⟩:=zGI hr hb e fuel (by omega) (by omega) k 0 b.length [] (by omega) (xB _) (xr _) (zey.nil s);have hR':zau fuel ⟨s,b,[]⟩ k 0 (b.length:Int) e=some (R,met'):=hR;rw [pA,yq] at vH;rw [itF (by simpa using h),xl (by simpa using h),hR',sb,xA];refine ⟨R,rfl,?_⟩;cases hfi:zF s e k b with
  | none=>
   rw [hfi] at vH;have hok':R=⟨((zgz s e k b:Nat):Int),0,0⟩:=vH
   grind
  | some pc=>
   obtain ⟨p,c⟩:=pc;rw [hfi] at vH;obtain ⟨o1,o2⟩:=vH;have:=zik s e k b p c hfi
   grind
 ·simp_all
theorem zCC (hw:WS s) (root:Int) (hb:b.length<=1048576) (d:Int) (hf:130<=fuel):zhv fuel s root b d=some (zbj s root b d):=by
 obtain ⟨R,hR,h1,h2,_⟩:=zFD hw root hb d hf;unfold zhv
 grind
theorem zpT (hm:m.Fields.length<=140737488351232) (n:Int):zfo m n=some (match m.Fields.findIdx? (fun f=>f.Number==n) with| some i=>((i:Int),true)| none=>(0,false)):=by
 unfold zfo zdG zaH;have h:=zpi (fun f:Fld=>f.Number==n) m.Fields (fun i=>zA m.Fields n i) (zaz (by unfold zz;rw [itF (by simp)])) (fun i hi=>by
  by_cases hp:(m.Fields[i].Number==n)=true
  ·rw [xm hp];exact zaz (by unfold zz zgh;rw [ui,zao rfl hi,sb,sb,itT hp])
  ·rw [xl hp];exact zbB (by unfold zz zgh;rw [ui,zao rfl hi,sb,sb,itF (qX hp),uk];rfl)) m.Fields.length 0 (by omega) (fun j _ h=>by omega)
 have h':zA m.Fields n 0=_:=h;rw [h',sb];cases m.Fields.findIdx? (fun f:Fld=>f.Number==n) with
 | none=>rfl
 | some i=>simp [sb];omega
theorem zie {α:Type} (p:α->Bool) (l:List α) (F:Int->Option (Unit⊕Unit)) (h0:F (l.length:Int)=some (.inl ())) (hs:∀(i:Nat) (h:i<l.length),F (i:Int)=if p l[i]=true then F ((i+1:Nat):Int) else some (.inr ())):
  ∀(c i:Nat),i+c=l.length->F (i:Int)=some (if (l.drop i).all p=true then .inl () else .inr ())
 | 0,i,h=>by
  have e:l.drop i=[]:=yE (by omega);have hi:i=l.length:=by omega
  rw [e,hi,h0];simp
 | c+1,i,h=>by
  rw [hs i (by omega),yy (by omega),yz];cases hp:p l[i]
  ·rw [xl (by simp)];simp
  ·rw [xm rfl,xW];exact zie p l F h0 hs c (i+1) (by omega)
theorem zCz (hb:v.Words.length<=140737488351232/\v.Texts.length<=140737488351232/\v.Subs.length<=140737488351232):zgk v=some ((zaq v:Nat):Int):=by
 unfold zgk zaq;rw [wrap_i64 (x:=(v.Words.length:Int)+(v.Texts.length:Int)) (by omega),uk];push_cast;rfl
theorem zww (hl:l.length<=1152921504606846976) (h:∀t∈l,t.length<=140737488351232):zjm l=some (l.all zgL):=by
 unfold zjm;have h1:=zie zgL l (fun i=>zcZ l i) (by
   refine zhu ?_;unfold zcY;rw [itF (by simp)])
  (fun i hi=>by
   have hx:=h _ (xD hi);have e:lenO l[i]=some l[i]:=by unfold lenO;rw [xm (by omega)]
   cases hp:zgL l[i]
   ·rw [xl (by simp)];refine zhu ?_;unfold zcY;rw [ui,zao rfl hi,sb,e,sb,zpN (by omega),sb,hp,ug]
   ·rw [xm rfl];refine zlS ?_;unfold zcY;rw [ui,zao rfl hi,sb,e,sb,zpN (by omega),sb,hp,uh,uk];push_cast;rfl)
  l.length 0 (xJ _)
 have h1':zcZ l 0=_:=h1;rw [h1',sb,yq];cases l.all zgL<;>rfl
theorem zwv (hl:l.length<=1152921504606846976) (h:∀w∈l,0<=w/\w<=18446744073709551615):zgl k l=some (l.all fun w=>kNum k&&zaM k w==w):=by
 unfold zgl;have h1:=zie (fun w=>kNum k&&zaM k w==w) l (fun i=>zbD k l i) (by
   refine zdE ?_;unfold zbb;rw [itF (by simp)])
  (fun i hi=>by
   have hx:=h _ (xD hi);cases hk:kNum k
   ·rw [yI,xl (by simp)];refine zdE ?_;unfold zbb;rw [ui,zao rfl hi,sb,zhR k hx,sb,hk,ug]
   ·rw [xW];by_cases hp:zaM k l[i]=l[i]
    ·rw [xm (by simpa using hp)];refine zjl ?_;unfold zbb;rw [ui,zao rfl hi,sb,zhR k hx,sb,hk,itF (by simp [hp]),uk];push_cast;rfl
    ·rw [xl (by simpa using hp)];refine zdE ?_;unfold zbb;rw [ui,zao rfl hi,sb,zhR k hx,sb,hk,itT (by simp [hp])])
  l.length 0 (xJ _)
 have h1':zbD k l 0=_:=h1;rw [h1',sb,yq];cases l.all (fun w=>kNum k&&zaM k w==w)<;>rfl
theorem zDv (hm:m.Fields.length<=140737488351232) (hu:u.length<=1048576):ziD m u=some (unkR m u):=by
 unfold ziD unkR;have e:lenO u=some u:=by unfold lenO;rw [xm (by omega)]
 rw [e,sb,zom hu,sb]
 generalize zcg u 0=r
 by_cases c1:r.2=0
 ·by_cases c2:r.1.To=(u.length:Int)
  ·rw [itF (by simp [c1,c2]),zpT hm,sb];have hf:fldI m r.1.Number=zij (fun f:Fld=>f.Number==r.1.Number) m.Fields:=rfl;rw [hf];cases h:m.Fields.findIdx? (fun f:Fld=>f.Number==r.1.Number) with
   | none=>rw [ziO h];simp [c1,c2]
   | some i=>rw [ziP h];simp [c1,c2]
  ·rw [itT (by simp [c2])];simp [c2]
 ·rw [itT (by simp [c1])];simp [c1]
theorem zve {α:Type} {p:α->Bool} (h:∀x,p x=false) (l:List α):l.all p=l.isEmpty:=by
 cases l with
 | nil=>rfl
 | cons x l=>rw [yz,h];rfl
theorem zlf {α:Type} (l:List α):l.isEmpty=decide (l.length=0):=by cases l<;>simp
theorem zyg {s:List Mes} (hs:zcI s):∀(fuel:Nat),(∀(x:Msg) (k:Nat),k<s.length->2*szM x<fuel->bdM x->smM x->zdj fuel s k x=some (zap s x k))/\
  (∀(v:Vlu) (f:Fld),2*szV v<fuel->bdV v->smV v->zgP fuel f s v=some (zhf s v f))/\
  ∀(l:List Msg) (k:Int),2*szMs l+1<fuel->l.length<=1152921504606846976->bdMs l->smMs l->zeW fuel s k l=some (decide (0<=k/\k<s.length)&&l.all fun x=>zap s x k)
 | 0=>⟨fun x k _ h=>by omega,fun v f h=>by omega,fun l k h=>by omega⟩
 | fuel+1=>by
  obtain ⟨ih1,ih2,ih3⟩:=zyg hs fuel;have vF:=hs.len;refine ⟨fun x k hk vO hb hsm=>?_,fun v f vO hb hsm=>?_,fun l k vO hl hb hsm=>?_⟩
  ·obtain ⟨b1,⟨b2,b3⟩,b4⟩:=(zif x).1 hb;obtain ⟨s1,⟨s2,s3⟩,s4⟩:=(zsW x).1 hsm;rw [zbs] at vO;show zgQ (zeW fuel) (zgP fuel) (zdj fuel) s k x=_;unfold zgQ;rw [zhW,xK (show (0:Int)<=(k:Int)/\(k:Int)<(s.length:Int) by omega),xW];have hm:idx s (k:Int)=some (zn s k):=by rw [zao rfl hk,zcf hk]
   have hmm:zn s (k:Int)∈s:=by rw [zcf hk];exact xD hk
   have hfew:=hs.few _ hmm;have hfld:=hs.fld _ hmm
   generalize zn s (k:Int)=m at hm hmm hfew hfld|-
   rw [hm,sb];have hv:∀(c i:Nat) (p:Option Int) (last:Int),i+c=x.Values.length->(p=none/\last=0\/p=some last)->zcG (zgP fuel) s x m last i=some (if zdB s (x.Values.drop i) m p=true then .inl () else .inr ()):=by
    intro c
    induction c with
    | zero=>
     intro i p last hi _;have e:x.Values.drop i=[]:=yE (by omega);rw [e,zdB,xm rfl];refine zgs ?_;unfold zcE;rw [uj]
    | succ c ih=>
     intro i p last hi hp;have hil:i<x.Values.length:=by omega
     have hx:idx x.Values (i:Int)=some x.Values[i]:=zao rfl hil;have hmem:=xD hil;have z1:=zdh hmem;have hbv:=zdu.1 b4 _ hmem;have hsv:=zjU.1 s4 _ hmem;rw [yy hil,zdB]
     generalize x.Values[i]=v at hx hmem z1 hbv hsv|-
     have hw1:i64.wrap ((i:Int)+1)=((i+1:Nat):Int):=by rw [uk];push_cast;rfl
     have hbody:zcE (zgP fuel) s x m last i=if (decide (0<=fldI m v.Number)&&p.all (fun q=>decide (q<v.Number))&&zhf s v (zr m (fldI m v.Number)))=true then some (.inl (v.Number,((i+1:Nat):Int))) else some (.inr (.inr ())):=by
      unfold zcE;rw [ui,hx,sb,zpT (by omega),sb];have hf:fldI m v.Number=zij (fun f:Fld=>f.Number==v.Number) m.Fields:=rfl;cases h:m.Fields.findIdx? (fun f:Fld=>f.Number==v.Number) with
      | none=>
       rw [hf,ziO h,ug,sb,ug,xl (by simp)]
      | some j=>
       rw [hf,ziP h];have hjs:=pr.1 h;obtain ⟨hj,hjn,_⟩:=hjs;have hjn':(m.Fields[j]).Number=v.Number:=by simpa using hjn
       have hlo:=(hfld _ (xD hj)).lo;have hfj:idx m.Fields (j:Int)=some (zr m (j:Int)):=by rw [zao rfl hj,zbw hj]
       have hfit:=ih2 v (zr m (j:Int)) (by omega) hbv hsv;have hpl:p.all (fun q=>decide (q<v.Number))=decide (last<v.Number):=by
        rcases hp with ⟨rfl,rfl⟩| rfl
        ·rw [xK (show (0:Int)<v.Number by omega)];rfl
        ·rfl
       rw [uh,hpl,xK (show (0:Int)<=(j:Int) by omega),xW];by_cases vC:last<v.Number
       ·rw [itF (by simpa using vC),xK vC,xW];simp only;rw [hfj,sb,hfit,sb,sb];cases hfv:zhf s v (zr m (j:Int))
        ·rw [ug,xl (by simp)]
        ·rw [uh,xm rfl,hw1]
       ·rw [ui,sb,ug,xR vC,xl (by simp)]
     generalize (decide (0<=fldI m v.Number)&&p.all (fun q=>decide (q<v.Number))&&zhf s v (zr m (fldI m v.Number)))=bb at hbody|-
     cases bb
     ·rw [xl (by simp)] at hbody;rw [zgs hbody,yI,xl (by simp)]
     ·rw [xm rfl] at hbody;rw [zkT hbody,ih _ (some v.Number) v.Number (by omega) (.inr rfl),xW]
   have h1:=hv x.Values.length 0 none 0 (xJ _) (.inl ⟨rfl,rfl⟩);have h1':zcG (zgP fuel) s x m 0 0=_:=h1;rw [yq] at h1';rw [h1',sb];cases hrv:zdB s x.Values m none
   ·rw [xl (by simp)];rfl
   ·rw [xm rfl,xW];simp only;have h2:=zie (unkR m) x.Unknown (fun i=>zcH x m i) (by
      refine zgt ?_;unfold zcF;rw [itF (by simp)])
     (fun i hi=>by
      have hu:=zDv (m:=m) (by omega) (s3 _ (xD hi));cases hun:unkR m x.Unknown[i]
      ·rw [xl (by simp)];refine zgt ?_;unfold zcF;rw [ui,zao rfl hi,sb,hu,sb,hun,ug]
      ·rw [xm rfl];refine zkU ?_;unfold zcF;rw [ui,zao rfl hi,sb,hu,sb,hun,uh,uk];push_cast;rfl)
     x.Unknown.length 0 (xJ _)
    have h2':zcH x m 0=_:=h2;rw [h2',sb,yq];cases x.Unknown.all (unkR m)<;>rfl
  ·obtain ⟨_,⟨b1,b1'⟩,⟨b2,b3⟩,b4,b5⟩:=(zfQ v).1 hb;obtain ⟨s1,⟨s2,s3⟩,s4,s5⟩:=(zsX v).1 hsm;rw [zdP] at vO;show zlT (zeW fuel) (zgP fuel) (zdj fuel) f s v=_;unfold zlT;rw [zCz ⟨by omega,by omega,by omega⟩,sb,znU,zix];have hmany:zaq v=v.Words.length+v.Texts.length+v.Subs.length:=rfl;by_cases h0:zaq v=0\/1<zaq v/\f.Repeated=false
   ·have hmr:zmR f v=false:=by
     unfold zmR;rcases h0 with h0| ⟨h0,h1⟩
     ·simp [h0]
     ·rw [h1];simp;omega
    rw [hmr,itT (by
     rcases h0 with h0| ⟨h0,h1⟩
     ·simp [h0]
     ·rw [h1];simp;omega)]
    rfl
   ·have hmr:zmR f v=zaQ f.Kind:=by
     unfold zmR;rw [xK (show 0<zaq v by omega),xW];cases hr:f.Repeated
     ·rw [hr] at h0;rw [xK (show zaq v<=1 by simp at h0;omega)];rfl
     ·simp
    rw [hmr,itF (by
     cases hr:f.Repeated
     ·rw [hr] at h0;simp at h0|-;omega
     ·simp;omega)]
    have hW:kNum f.Kind=false->v.Words.all (zgo f)=decide (v.Words.length=0):=fun h=>by
     rw [zve (fun w=>by unfold zgo;rw [h];rfl),zlf]
    have hT:f.Kind≠15->f.Kind≠16->v.Texts.all (zhI f)=decide (v.Texts.length=0):=fun h1 h2=>by
     rw [zve (fun t=>by unfold zhI;simp [h1,h2]),zlf]
    have hS:f.Kind≠17->(v.Subs.all fun x=>f.Kind==17&&zap s x f.Of)=decide (v.Subs.length=0):=fun h=>by
     rw [zve (fun x=>by simp [h]),zlf]
    by_cases k15:f.Kind=15
    ·rw [itT (by simp [k15]),hW (by rw [k15];rfl),hS (by omega)];have hkr:zaQ f.Kind=true:=by rw [k15];rfl
     rw [hkr,xW];by_cases hl:v.Words.length=0/\v.Subs.length=0
     ·rw [ui,zww (by omega) b3,sb,sb,xK hl.1,xK hl.2,xW,qE];have:v.Texts.all (zhI f)=v.Texts.all zgL:=by
       congr 1;funext t;unfold zhI;simp [k15]
      rw [this]
     ·rw [uj,sb];congr 1
      symm
      by_cases hw0:v.Words.length=0
      ·rw [xR (show ¬v.Subs.length=0 by omega),qH]
      ·rw [xR hw0,yI,yI]
    ·rw [itF (by simp [k15])];by_cases k16:f.Kind=16
     ·rw [itT (by simp [k16]),hW (by rw [k16];rfl),hS (by omega)];have hkr:zaQ f.Kind=true:=by rw [k16];rfl
      have hta:v.Texts.all (zhI f)=true:=by rw [xy];intro t _;unfold zhI;simp [k16]
      rw [hkr,hta,xW,qE];congr 1;rw [<-Bool.decide_and];rw [yC];simp only [qW,xP];omega
     ·rw [itF (by simp [k16])];by_cases k17:f.Kind=17
      ·rw [itT (by simp [k17]),hW (by rw [k17];rfl),hT k15 k16];have hkr:zaQ f.Kind=true:=by rw [k17];rfl
       rw [hkr,xW];have hsub:(v.Subs.all fun x=>f.Kind==17&&zap s x f.Of)=v.Subs.all fun x=>zap s x f.Of:=by
        congr 1;funext x;simp [k17]
       rw [hsub];by_cases hl:v.Words.length=0/\v.Texts.length=0
       ·rw [ui,ih3 v.Subs f.Of (by omega) (by omega) b5 s5,sb,sb,xK hl.1,xK hl.2,xW,xW];by_cases hof:0<=f.Of/\f.Of<s.length
        ·rw [xK hof,xW]
        ·rw [xR hof,yI];congr 1
         symm
         have vR:v.Subs≠[]:=fun e=>h0 (.inl (by rw [hmany,hl.1,hl.2,e];rfl))
         obtain ⟨x,l,hxl⟩:=p9 vR;rw [hxl,yz,zhW,xR hof];rfl
       ·rw [uj,sb];congr 1
        symm
        by_cases hw0:v.Words.length=0
        ·rw [xR (show ¬v.Texts.length=0 by omega),qH,yI]
        ·rw [xR hw0,yI,yI]
      ·rw [itF (by simp [k17]),hT k15 k16,hS k17];have hck:(v.Words.all fun w=>kNum f.Kind&&zaM f.Kind w==w)=v.Words.all (zgo f):=rfl;by_cases hl:v.Texts.length=0/\v.Subs.length=0
       ·rw [ui,zwv (by omega) b1',sb,sb,xK hl.1,xK hl.2,qE,qE,hck];congr 1;cases hkn:kNum f.Kind
        ·rw [hW hkn,xR (show ¬v.Words.length=0 by omega),qH]
        ·have hkr:zaQ f.Kind=true:=by
          rw [zdc] at hkn;unfold zaQ;simp;omega
         rw [hkr,xW]
       ·rw [uj,sb];congr 1
        symm
        by_cases hw0:v.Texts.length=0
        ·rw [xR (show ¬v.Subs.length=0 by omega),qH]
        ·rw [xR hw0,qH,yI]
  ·show zft (zeW fuel) (zgP fuel) (zdj fuel) s k l=_;unfold zft;by_cases hk:0<=k/\k<s.length
   ·rw [uj,xK hk,xW];obtain ⟨n,rfl⟩:∃n:Nat,k=n:=⟨k.toNat,by omega⟩;have h1:=zie (fun x=>zap s x n) l (fun i=>zbS l n (zdj fuel) s i) (by
      refine zfI ?_;unfold zbR;rw [itF (by simp)])
     (fun i hi=>by
      have hm:=xD hi;have z1:=zdg hm;have hr:=ih1 l[i] n (by omega) (by omega) (zdJ.1 hb _ hm) (zjT.1 hsm _ hm);cases hp:zap s l[i] n
      ·rw [xl (by simp)];refine zfI ?_;unfold zbR;rw [ui,zao rfl hi,sb,hr,sb,hp,ug]
      ·rw [xm rfl];refine zjW ?_;unfold zbR;rw [ui,zao rfl hi,sb,hr,sb,hp,uh,uk];push_cast;rfl)
     l.length 0 (xJ _)
    have h1':zbS l n (zdj fuel) s 0=_:=h1;rw [h1',sb,yq];cases l.all (fun x=>zap s x n)<;>rfl
   ·rw [ui,xR hk];rfl
theorem zzM (root:Int) (hf:2*szM x<fuel) (hw:WS s) (hb:bdM x) (hsm:smM x) (hd:dM x<=131072):znz fuel s root x=some (zjj s&&zap s x root):=by
 unfold znz;rw [zyo hw,sb];by_cases h0:argS s root 0=0
 ·obtain ⟨hr,g1,g2,_,_⟩:=zma h0;have hrs:zjj s=true:=by
   unfold argS at h0;cases h:zjj s with
   | true=>rfl
   | false=>rw [h,xm rfl] at h0;cases h0
  obtain ⟨k,rfl⟩:∃k:Nat,root=k:=⟨root.toNat,by omega⟩;rw [itT (by simp [h0]),zyc (by omega) hb hd,sb,ug,(zyg hr fuel).1 x k (by omega) hf hb hsm,sb,sb,hrs,xW]
 ·rw [itF (by simp [h0]),sb];congr 1
  symm
  cases hrs:zjj s
  ·rfl
  ·rw [xW,zhW];unfold argS at h0;rw [xl (by rw [hrs];simp)] at h0;rw [xR (by split at h0<;>omega)];rfl
theorem zGn (hk:kNum k=true) (hf:zaW (zX k) v=true):pcs k v=([v],0):=by
 have hk':=zdc.1 hk;have hu:zgu k v= .inr v.length/\v≠[]:=by
  unfold zgu;unfold zaW zX at hf;by_cases h9:k<9
  ·rw [xl (show ¬15<=k by omega),xl (show ¬12<=k by omega),xl (show ¬9<=k by omega),xm rfl] at hf;obtain ⟨h1,h2⟩:=yh hf;obtain ⟨b1,b2,b3,b4,b5,b6,b7⟩:=zfE v;have hp:=b7 h1;rw [xm h9,xl (by simpa using h1),h2];refine ⟨by simp,fun e=>?_⟩;subst e;simp at h2;omega
  ·rw [xl h9];by_cases h12:k<12
   ·rw [xl (show ¬15<=k by omega),xl (show ¬12<=k by omega),xm (show 9<=k by omega),xl (by omega)] at hf;have hf':=yh hf;have hl:v.length=4:=by omega
    rw [xm h12,xl (by omega),hl];exact ⟨rfl,fun e=>by rw [e] at hl;simp at hl⟩
   ·rw [xl (show ¬15<=k by omega),xm (show 12<=k by omega),xl (by omega)] at hf;have hf':=yh hf;have hl:v.length=8:=by omega
    rw [xl h12,xl (by omega),hl];exact ⟨rfl,fun e=>by rw [e] at hl;simp at hl⟩
 rw [zgc hu.2 hu.1,pA,qY,zgW]
theorem zmA (hk:kNum k=true) (hf:zaW (zX k) v=true):zZ k v=([(zjQ k v).1],0):=by
 unfold zZ;rw [xl (by rw [hk];simp),zGn hk hf,xm rfl,zhq hk hf];rfl
def zbi (f:Fld) (T:List Th):List Th:=if f.Repeated=true then T else T.drop (T.length - 1)
def valT (g:Int->List UInt8->Msg) (f:Fld) (T:List Th):Vlu:=
 if f.Kind=17 then ⟨f.Number,[],[],if f.Repeated=true then T.map fun t=>g f.Of t.val else [g f.Of (T.flatMap (·.val))]⟩
 else if f.Kind=15\/f.Kind=16 then ⟨f.Number,[],(zbi f T).map (·.val),[]⟩
 else ⟨f.Number,(zbi f T).flatMap (fun t=>(zZ f.Kind t.val).1),[],[]⟩
theorem zkg (g:Int->List UInt8->Msg) (f:Fld) (i:Int):∀(l:List Th) (a:zbm),accF g f i a l=(l.filter fun t=>t.fi==i).foldl (stp g f) a
 | [],a=>rfl
 | t::l,a=>by
  rw [accF,yF];by_cases h:t.fi=i
  ·rw [xm h,xm (by simpa using h),xV];exact zkg g f i l _
  ·rw [xl h,xl (by simpa using h)];exact zkg g f i l _
def OkF (f:Fld) (t:Th):Prop:=(t.run=true->kNum f.Kind=true/\f.Repeated=true)/\(t.run=false->zaQ f.Kind=true/\zaW (zX f.Kind) t.val=true)
theorem zpz :zbi f (t::u::T)=if f.Repeated=true then t::u::T else zbi f (u::T):=by
 unfold zbi;simp_all
theorem zwO (g:Int->List UInt8->Msg) (hk:kNum f.Kind=true):∀(T:List Th) (a:zbm),T≠[]->(∀t∈T,OkF f t)->
  T.foldl (stp g f) a=(a.1,true,(if f.Repeated=true then a.2.2.1 else [])++(zbi f T).flatMap (fun t=>(zZ f.Kind t.val).1),(if f.Repeated=true then a.2.2.2.1 else []),a.2.2.2.2)
 | [],a,h,_=>absurd rfl h
 | [t],a,_,ht=>by
  obtain ⟨h1,h2⟩:=ht t xn;have hp:zbi f [t]=[t]:=by unfold zbi;simp
  rw [hp,xV,pz]
  grind [stp,sb,wrap_i64,zmA]
 | t::u::T,a,_,ht=>by
  obtain ⟨h1,h2⟩:=ht t xn;have hst:stp g f a t=(a.1,true,(if f.Repeated=true then a.2.2.1 else [])++(zZ f.Kind t.val).1,(if f.Repeated=true then a.2.2.2.1 else []),a.2.2.2.2):=by
   grind [stp,sb,wrap_i64,zmA]
  rw [xV,hst,zwO g hk (u::T) _ (by simp) fun x hx=>ht x (xo _ hx),zpz];cases hr:f.Repeated
  ·simp
  ·have hp:zbi f (u::T)=u::T:=by unfold zbi;rw [xm hr]
   rw [hp];simp
theorem zuc (g:Int->List UInt8->Msg) (hk:kNum f.Kind=false) (vD:f.Kind≠17):∀(T:List Th) (a:zbm),T≠[]->(∀t∈T,OkF f t)->
  T.foldl (stp g f) a=(a.1,true,(if f.Repeated=true then a.2.2.1 else []),(if f.Repeated=true then a.2.2.2.1 else [])++(zbi f T).map (·.val),a.2.2.2.2)
 | [],a,h,_=>absurd rfl h
 | [t],a,_,ht=>by
  obtain ⟨h1,h2⟩:=ht t xn;have hp:zbi f [t]=[t]:=by unfold zbi;simp
  have hr:t.run=false:=by
   grind
  rw [hp,xV,pz];unfold stp
  grind
 | t::u::T,a,_,ht=>by
  obtain ⟨h1,h2⟩:=ht t xn;have hr:t.run=false:=by
   grind
  have hst:stp g f a t=(a.1,true,(if f.Repeated=true then a.2.2.1 else []),(if f.Repeated=true then a.2.2.2.1 else [])++[t.val],a.2.2.2.2):=by
   unfold stp
   grind
  rw [xV,hst,zuc g hk vD (u::T) _ (by simp) fun x hx=>ht x (xo _ hx),zpz];cases hr:f.Repeated
  ·simp
  ·have hp:zbi f (u::T)=u::T:=by unfold zbi;rw [xm hr]
   rw [hp];simp
theorem zub (g:Int->List UInt8->Msg) (vD:f.Kind=17) (hr:f.Repeated=true):∀(T:List Th) (a:zbm),(∀t∈T,OkF f t)->(T≠[]\/a.2.1=true)->
  T.foldl (stp g f) a=(a.1,true,a.2.2.1,a.2.2.2.1,a.2.2.2.2++T.map fun t=>g f.Of t.val)
 | [],a,_,h=>by
  grind
 | t::T,a,ht,_=>by
  obtain ⟨h1,h2⟩:=ht t xn;have hrn:t.run=false:=by
   cases hr:t.run
   ·rfl
   ·have:=(h1 hr).1;rw [vD] at this;cases this
  have hst:stp g f a t=(a.1,true,a.2.2.1,a.2.2.2.1,a.2.2.2.2++[g f.Of t.val]):=by
   unfold stp;rw [hrn,xl (by simp),xl (by rw [vD];decide),xm ⟨vD,hr⟩,xm hr,xm hr]
  rw [xV,hst,zub g vD hr T _ (fun x hx=>ht x (xo _ hx)) (.inr rfl)];simp
theorem zwQ (g:Int->List UInt8->Msg) (vD:f.Kind=17) (hr:f.Repeated=false):∀(T:List Th) (a:zbm),(∀t∈T,OkF f t)->T≠[]->
  T.foldl (stp g f) a=(a.1++T.flatMap (·.val),true,[],[],a.2.2.2.2)
 | [],a,_,h=>absurd rfl h
 | [t],a,ht,_=>by
  obtain ⟨h1,h2⟩:=ht t xn;have hrn:t.run=false:=by
   grind
  rw [xV,pz];unfold stp;rw [hrn,xl (by simp),xl (by rw [vD];decide),xl (by rw [hr];simp),xm vD,hr];simp
 | t::u::T,a,ht,_=>by
  obtain ⟨h1,h2⟩:=ht t xn;have hrn:t.run=false:=by
   grind
  have hst:stp g f a t=(a.1++t.val,true,[],[],a.2.2.2.2):=by
   unfold stp;rw [hrn,xl (by simp),xl (by rw [vD];decide),xl (by rw [hr];simp),xm vD,hr];simp
  rw [xV,hst,zwQ g vD hr (u::T) _ (fun x hx=>ht x (xo _ hx)) (by simp)];simp
theorem zIx (g:Int->List UInt8->Msg) (hkr:zaQ f.Kind=true) (hT:T≠[]) (ht:∀t∈T,OkF f t):valO g f (T.foldl (stp g f) acc0)=valT g f T:=by
 unfold valT;by_cases vD:f.Kind=17
 ·rw [xm vD];cases hr:f.Repeated
  ·rw [zwQ g vD hr T acc0 ht hT];unfold valO;rw [xm ⟨rfl,vD,hr⟩];simp [acc0]
  ·rw [zub g vD hr T acc0 ht (.inl hT)];unfold valO;rw [xl (by rw [hr];simp)];simp [acc0]
 ·rw [xl vD];by_cases hx:f.Kind=15\/f.Kind=16
  ·rw [xm hx,zuc g (by unfold kNum;simp;omega) vD T acc0 hT ht];unfold valO;simp only;rw [xl (show ¬(True/\f.Kind=17/\f.Repeated=false) from fun h=>vD h.2.1)];cases f.Repeated<;>simp [acc0]
  ·have hk:kNum f.Kind=true:=by unfold zaQ at hkr;unfold kNum;simp at hkr|-;omega
   rw [xl hx,zwO g hk T acc0 hT ht];unfold valO;simp only;rw [xl (show ¬(True/\f.Kind=17/\f.Repeated=false) from fun h=>vD h.2.1)];cases f.Repeated<;>simp [acc0]
def At14 (b:List UInt8) (L:List Vw):Prop:=∀t∈L,0<=t.R.From/\t.R.From<t.R.At/\t.R.At<=t.R.To/\t.R.To<=b.length
theorem zFv (h:At14 b L) (ht:t∈L):cut b t.R.At t.R.To=some (valB b t.R):=by
 obtain ⟨r1,r2,r3,r4⟩:=h t ht;obtain ⟨x,hx1⟩:∃x:Nat,t.R.At=x:=⟨t.R.At.toNat,by omega⟩;obtain ⟨y,hy1⟩:∃x:Nat,t.R.To=x:=⟨t.R.To.toNat,by omega⟩;rw [zfR hx1 hy1 (by omega) (by omega)];unfold valB;rw [hx1,hy1];simp only [xA]
theorem zAf (h:At14 b L) (ht:t∈L):cut b t.R.From t.R.To=some (rawB b t.R):=by
 obtain ⟨r1,r2,r3,r4⟩:=h t ht;obtain ⟨x,hx1⟩:∃x:Nat,t.R.From=x:=⟨t.R.From.toNat,by omega⟩;obtain ⟨y,hy1⟩:∃x:Nat,t.R.To=x:=⟨t.R.To.toNat,by omega⟩;rw [zfR hx1 hy1 (by omega) (by omega)];unfold rawB;rw [hx1,hy1];simp only [xA]
def kn14 (acc:List (Int×List PVw)) (v:Vw):List (Int×List PVw):=if v.Field= -1 then acc else mput acc v.R.Number ((mget acc v.R.Number).getD []++[prV v])
def zda (L:List Vw) (n:Int):List Vw:=L.filter fun v=>decide (v.Field≠ -1/\v.R.Number=n)
theorem zvK {κ ν:Type} [DecidableEq κ] (m:List (κ×ν)) (k j:κ) (x:ν):j∈(mput m k x).map Prod.fst↔j∈m.map Prod.fst\/j=k:=by
 rw [zgG];cases h:mget m k with
 | none=>simp
 | some y=>
  simp only;exact ⟨.inl,fun h'=>h'.elim id fun e=>e▸zDZ h⟩
theorem zAA (n:Int):∀(L:List Vw) (acc:List (Int×List PVw)),n∈(L.foldl kn14 acc).map Prod.fst↔n∈acc.map Prod.fst\/∃v∈L,v.Field≠ -1/\v.R.Number=n
 | [],acc=>by simp
 | v::L,acc=>by
  rw [xV,zAA n L]
  grind [kn14,sb,wrap_i64,zvK]
theorem zxn:∀(L:List Vw) (acc:List (Int×List PVw)),(acc.map Prod.fst).Nodup->((L.foldl kn14 acc).map Prod.fst).Nodup
 | [],acc,h=>h
 | v::L,acc,h=>by
  rw [xV];refine zxn L _ ?_
  grind [kn14,sb,wrap_i64,zkq]
theorem zxz {κ ν:Type} [DecidableEq κ] (m:List (κ×ν)) (k:κ) (x:ν):(mput m k x).length<=m.length+1:=by
 have h:=congrArg List.length (zgG m k x)
 grind
theorem zzf:∀(L:List Vw) (acc:List (Int×List PVw)),(L.foldl kn14 acc).length<=acc.length+L.length
 | [],acc=>by simp
 | v::L,acc=>by
  rw [xV];have h:=zzf L (kn14 acc v);have h2:(kn14 acc v).length<=acc.length+1:=by
   grind [kn14,sb,wrap_i64,zxz]
  grind
theorem zxj {L:List Vw} (hwf:∀v∈L,v.Field≠ -1->(Lit.int .i64 v.R.Number).wf=true) (hL:L.length<=1048576):
  ∃ks,zjD (L.foldl kn14 [])=some ks/\ks.Pairwise (·<·)/\∀n,n∈ks↔∃v∈L,v.Field≠ -1/\v.R.Number=n:=by
 have vF:=zzf L [];have hnd:=zxn L [] (by simp);have hk:=fun n=>zAA n L []
 generalize L.foldl kn14 []=K at vF hnd hk
 refine ⟨(K.map Prod.fst).mergeSort fun x y=>decide (x<=y),?_,?_,fun n=>?_⟩
 ·have hall:(K.all fun p=>(Lit.int .i64 p.1).wf)=true:=by
   rw [xy];intro p hp;obtain h| ⟨v,hv,hf,hn⟩:=(hk p.1).1 (qk hp)
   ·simp at h
   grind
  have hl:K.length*8<=140737488355328:=by rw [yn] at vF;omega
  unfold zjD;rw [zzH]
  grind
 ·have hp:=List.mergeSort_perm (K.map Prod.fst) fun x y=>decide (x<=y)
  have hs:=List.pairwise_mergeSort (le:=fun x y:Int=>decide (x<=y)) (fun a b c h k=>by simp at*;omega) (fun a b=>by simp;omega) (K.map Prod.fst);have hnd':=hp.nodup_iff.2 hnd
  generalize (K.map Prod.fst).mergeSort (fun x y=>decide (x<=y))=ks at hs hnd'
  refine (List.Pairwise.and hs hnd').imp fun {a b} h=>?_
  grind
 ·simp_all
theorem zql:∀(l k:List Int),l.Pairwise (·<·)->k.Pairwise (·<·)->(∀w,w∈l↔w∈k)->l=k
 | [],[],_,_,_=>rfl
 | [],y::k,_,_,h=>absurd ((h y).2 xn) (by simp)
 | x::l,[],_,_,h=>absurd ((h x).1 xn) (by simp)
 | x::l,y::k,hl,hk,h=>by
  have hl':=xQ.1 hl;have hk':=xQ.1 hk;have hxy:x=y:=by
   rcases xq.1 ((h x).1 xn) with h1| h1
   ·exact h1
   ·rcases xq.1 ((h y).2 xn) with h2| h2
    ·exact h2.symm
    grind
  subst hxy;congr 1;refine zql l k hl'.2 hk'.2 fun w=>?_
  grind
theorem zrJ {α:Type} (vo:Int->α) (p:α->Bool) (met:Int->Bool):∀(o:List Int),(∀i∈o,met i=false->p (vo i)=false)->(o.map vo).filter p=((o.filter met).map vo).filter p
 | [],_=>rfl
 | i::o,h=>by
  have ih:=zrJ vo p met o fun j hj=>h j (xo _ hj)
  grind
theorem ztY:∀(T:List Th),(T.flatMap (·.val)).length+T.length<=wt T
 | []=>by simp [wt]
 | t::T=>by have:=ztY T;rw [xC,xt,ya,wt];omega
theorem znT {s:List Mes} {e:Nat} {k:Int}:∀(l:List (List UInt8)),(∀v∈l,zF s e k v=none)->zF s e k l.flatten=none
 | [],_=>by rw [List.flatten_nil];exact zlc s e k
 | v::l,h=>by
  rw [qh];exact (zdx s e k l.flatten (h v xn)).2 (znT l fun u hu=>h u (xo _ hu))
theorem zBZ {s:List Mes} (hs:zcI s) {d k:Nat} {b:List UInt8} (hk:k<s.length) (hfi:zF s d k b=none) {ks:List Int} (hkp:ks.Pairwise (·<·)) (hkm:∀n,n∈ks↔∃v∈(zaD (zn s (k:Int)) b).1,v.Field≠ -1/\v.R.Number=n):
  (∀n∈ks,∃i:Nat,i<(zn s (k:Int)).Fields.length/\(zr (zn s (k:Int)) i).Number=n/\fldI (zn s (k:Int)) n=i/\zda (zaD (zn s (k:Int)) b).1 n≠[]/\(∀v∈zda (zaD (zn s (k:Int)) b).1 n,v.Field=i)/\
   ∀t∈(zda (zaD (zn s (k:Int)) b).1 n).map (thOf b),OkF (zr (zn s (k:Int)) i) t/\OkT s d (zn s (k:Int)) t/\t.fi=i)/\
  (ofM s k b).Values=((ks.map fun n=>valT (ofM s) (zr (zn s (k:Int)) (fldI (zn s (k:Int)) n)) ((zda (zaD (zn s (k:Int)) b).1 n).map (thOf b))).filter fun v=>decide (0<zaq v))/\(ofM s k b).Unknown=unkO ((zaD (zn s (k:Int)) b).1.map (thOf b)):=by
 have hmm:zn s (k:Int)∈s:=by rw [zcf hk];exact xD hk
 have hfld:=hs.fld _ hmm;have vH:=zye hfi;have hris:=zoG hs hmm;have hat9:=fun {i:Int} (h0:0<=i) (h1:i<(zn s (k:Int)).Fields.length)=>znV hs hmm h0 h1
 rw [zgH];have hvk:∀v∈(zaD (zn s (k:Int)) b).1,v.Field= -1\/0<=v.Field/\v.Field<(zn s (k:Int)).Fields.length/\fldI (zn s (k:Int)) v.R.Number=v.Field/\(zr (zn s (k:Int)) v.Field).Number=v.R.Number:=by
  intro v hv;have h:=(zBr hv).2;rcases zdl (zn s (k:Int)) v.R.Number v.R.Wire with h1| ⟨h1,_⟩| ⟨i,run,h1,h2,h3⟩
  ·grind
  ·grind
  ·rw [h] at h1;simp only [Sum.inr.injEq,yi] at h1;refine .inr ⟨by omega,by omega,by rw [h2,h1.1],?_⟩;rcases zcK (zn s (k:Int)) v.R.Number with ⟨g1,_⟩| ⟨j,hj,g1,g2,_⟩
   ·omega
   ·rw [h1.1,<-h2,g1,zbw hj,g2]
 have hths:ths (zn s (k:Int)) b=(zaD (zn s (k:Int)) b).1.map (thOf b):=rfl;rw [hths] at vH|-
 generalize zn s (k:Int)=m at hmm hfld vH hris hat9 hvk hkm|-
 generalize (zaD m b).1=L at vH hvk hkm|-
 let vo:Int->Vlu:=fun i=>valO (ofM s) (zr m i) (accF (ofM s) (zr m i) i acc0 (L.map (thOf b)))
 have hby:∀{i:Int},0<=i->i<m.Fields.length->(zda L (zr m i).Number).map (thOf b)=(L.map (thOf b)).filter fun t=>t.fi==i:=fun {i} h0 h1=>by
  unfold zda;rw [List.filter_map];congr 1;refine List.filter_congr fun v hv=>?_
  show decide (v.Field≠ -1/\v.R.Number=(zr m i).Number)=(v.Field==i)
  grind
 have hmem:∀{i:Int},0<=i->i<m.Fields.length->∀t∈(zda L (zr m i).Number).map (thOf b),OkF (zr m i) t/\OkT s d m t/\t.fi=i:=fun {i} h0 h1 t ht=>by
  rw [hby h0 h1,xU] at ht;have hfi':t.fi=i:=by simpa using ht.2
  have ho:=vH t ht.1;refine ⟨⟨fun hr=>?_,fun hr=>?_⟩,ho,hfi'⟩
  ·have:=ho.run (by omega) hr
   grind
  ·have:=ho.one (by omega) hr
   grind
 have hvoT:∀{i:Int},0<=i->i<m.Fields.length->zda L (zr m i).Number≠[]->vo i=valT (ofM s) (zr m i) ((zda L (zr m i).Number).map (thOf b)):=fun {i} h0 h1 vR=>by
  have hT:=hby h0 h1;have hm:=hmem h0 h1;obtain ⟨j,rfl⟩:∃j:Nat,i=j:=⟨i.toNat,by omega⟩;have hjl:j<m.Fields.length:=by omega
  have hkr:zaQ (zr m (j:Int)).Kind=true:=by rw [zbw hjl];exact (hfld _ (xD hjl)).kind
  show valO _ _ (accF _ _ _ _ _)=_;rw [zkg,<-hT,zIx _ hkr (by simpa using vR) fun t ht=>(hm t ht).1]
 have hkn:∀n∈ks,∃i:Nat,i<m.Fields.length/\(zr m (i:Int)).Number=n/\fldI m n=i/\zda L n≠[]/\∀v∈zda L n,v.Field=i:=fun n hn=>by
  obtain ⟨v,hv,hf,hnn⟩:=(hkm n).1 hn;obtain ⟨g0,g1,g2,g3⟩:=(hvk v hv).resolve_left hf;obtain ⟨j,hj⟩:∃j:Nat,v.Field=j:=⟨v.Field.toNat,by omega⟩;refine ⟨j,by omega,by rw [<-hj,g3,hnn],by rw [<-hnn,g2,hj],fun e=>?_,fun u hu=>?_⟩
  ·have:v∈zda L n:=xU.2 ⟨hv,by simp [hf,hnn]⟩;rw [e] at this;cases this
  ·obtain ⟨hu1,hu2⟩:=xU.1 hu;obtain ⟨q1,q2⟩:=yh hu2;have:=(hvk u hu1).resolve_left q1;rw [<-this.2.2.1,q2,<-hnn,g2,hj]
 refine ⟨fun n hn=>?_,?_,rfl⟩
 ·obtain ⟨i,h1,h2,h3,h4,h5⟩:=hkn n hn;refine ⟨i,h1,h2,h3,h4,h5,?_⟩;have:=hmem (i:=(i:Int)) (by omega) (by omega);rw [h2] at this;exact this
 have e0:(ks.map fun n=>valT (ofM s) (zr m (fldI m n)) ((zda L n).map (thOf b)))=ks.map fun w=>vo (fldI m w):=yT fun n hn=>by
  obtain ⟨i,h1,h2,h3,h4,h5⟩:=hkn n hn;have:=hvoT (i:=(i:Int)) (by omega) (by omega) (by rw [h2];exact h4);rw [h3,this,h2]
 rw [e0];show ((zdU (zeF m) m.Fields.length).map vo).filter (fun v=>decide (0<zaq v))=_;rw [zrJ vo (fun v=>decide (0<zaq v)) (fun i=> !(zda L (zr m i).Number).isEmpty) _ fun i hi hme=>?_]
 ·have hsub:∀i∈(zdU (zeF m) m.Fields.length).filter (fun i=> !(zda L (zr m i).Number).isEmpty),0<=i/\i<m.Fields.length:=fun i hi=>zcX.1 (xU.1 hi).1
  have hks2:((zdU (zeF m) m.Fields.length).filter (fun i=> !(zda L (zr m i).Number).isEmpty)).map (zeF m)=ks:=by
   refine zql _ _ ?_ hkp fun w=>?_
   ·grind
   ·rw [xu];constructor
    ·rintro ⟨i,hi,rfl⟩;obtain ⟨hi1,hi2⟩:=xU.1 hi;have vR:zda L (zr m i).Number≠[]:=by
      grind
     obtain ⟨v0,r0,hv0⟩:=p9 vR;have hv0m:v0∈zda L (zr m i).Number:=by rw [hv0];exact xn
     obtain ⟨q1,q2⟩:=xU.1 hv0m;obtain ⟨q3,q4⟩:=yh q2;exact (hkm _).2 ⟨v0,q1,q3,q4⟩
    ·intro hw;obtain ⟨i,h1,h2,h3,h4,_⟩:=hkn w hw;exact ⟨i,xU.2 ⟨zcX.2 ⟨by omega,by omega⟩,by rw [h2];simpa using h4⟩,h2⟩
  have e1:(ks.map fun w=>vo (fldI m w))=((zdU (zeF m) m.Fields.length).filter (fun i=> !(zda L (zr m i).Number).isEmpty)).map vo:=by
   rw [<-hks2,yK];refine yT fun i hi=>?_
   show vo (fldI m (zeF m i))=vo i;rw [zlj,hat9 (hsub i hi).1 (hsub i hi).2]
  rw [e1]
 ·obtain ⟨h0,h1⟩:=zcX.1 hi;have hbe:zda L (zr m i).Number=[]:=by simpa using hme
  have hT:=hby h0 h1;rw [hbe] at hT;have hvo:vo i=valO (ofM s) (zr m i) acc0:=by
   show valO _ _ (accF _ _ _ _ _)=_;rw [zkg,<-hT];rfl
  rw [hvo];rfl
structure ztK (l:List zW):Prop where
 sorted:l.Pairwise (fun a b=>zbX a b=true)
 full:∀w∈l,w≠[]
 anti:∀v∈l,∀w∈l,v<+:w->v=w
theorem ztK.of (h:ztK l):ofW l=l:=
 zqq _ _ (zzr l) h.sorted fun w=>by
  rw [zAT];exact ⟨fun k=>k.1,fun hw=>⟨hw,h.full w hw,fun v hv _ hp=>h.anti v hv w hw hp⟩⟩
theorem ztK.filter (h:ztK l) (p:zW->Bool):ztK (l.filter p):=
 ⟨h.sorted.filter p,fun w hw=>h.full w (xU.1 hw).1,fun v hv w hw=>h.anti v (xU.1 hv).1 w (xU.1 hw).1⟩
structure Fo (pre acc:List zW):Prop where
 mask:ztK acc
 has:∀v,hasB acc v=hasB pre v
 mem:∀a∈acc,a∈pre
abbrev zID:=List (zHp×Int)
structure Trie (t:zID) (A:List zW) (P:List (zW×Int)):Prop where
 root:([],0)∈P
 same:∀p∈P,∀q∈P,(p.2=q.2↔p.1=q.1)
 ids:∀p∈P,0<=p.2/\p.2<=t.length
 keys:∀(i n:Int),(t.length:Int)<i->mget t ⟨i,n⟩=none
 leaf:∀p∈P,∀n,p.1++[n]∈A->mget t ⟨p.2,n⟩=some (-1)
 node:∀p∈P,∀n,∀q∈P,q.1=p.1++[n]->mget t ⟨p.2,n⟩=some q.2
 none:∀p∈P,∀n,p.1++[n]∉A->(∀q∈P,q.1≠p.1++[n])->mget t ⟨p.2,n⟩=none
 clo:∀q∈P,∀p n,q.1=p++[n]->∃i,(p,i)∈P
 comp:∀a∈A,∀p,p<+:a->p≠a->∃i,(p,i)∈P
 anti:∀v∈A,∀w∈A,v<+:w->v=w
 full:∀a∈A,a≠[]
section
end
def UW (w:List zW):Prop:=w.length<=4194304/\∀x∈w,x.length<=4194304
theorem UW.of (h:UW w):UW (ofW w):=⟨yb (zGi w) h.1,fun x hx=>h.2 x (zAT.1 hx).1⟩
theorem UW.filter (h:UW w) (p:zW->Bool):UW (w.filter p):=⟨yb (pT _ _) h.1,fun x hx=>h.2 x (xU.1 hx).1⟩
structure Ok15 (fuel:Nat) (x:Msg):Prop where
 b:bdM x
 s:smM x
 z:2*szM x<fuel
 d:szM x<=131072
theorem Ok15.dm (h:Ok15 fuel x):dM x<=131072:=by have:=zIG x;have:=h.d;omega
theorem Ok15.right {fuel:Nat} {x:Msg} (h:Ok15 fuel x) {s:List Mes} (hw:WS s) (root:Int):znz fuel s root x=some (zjj s&&zap s x root):=zzM root h.z hw h.b h.s h.dm
theorem Ok15.copy {fuel:Nat} {x:Msg} (h:Ok15 fuel x):zpM fuel x=some x:=zET (by have:=h.z;omega) h.b h.dm
def jv15 (s:List Mes) (a:Msg) (k:Int) (v:Vlu):Vlu:=zej s v (look a.Values v.Number) (zr (zn s k) (fldI (zn s k) v.Number))
structure Jm (s:List Mes) (a:Msg) (k:Int) (t:List Vlu) (q:List (Int×Vlu)):Prop where
 nd:(q.map Prod.fst).Nodup
 get:∀n,mget q n=match look t n with
  | some v=>some (jv15 s a k v)
  | none=>look a.Values n
 len:q.length<=a.Values.length+t.length
theorem Jm.put (h:Jm s a k t q) (hn:look t v.Number=none):Jm s a k (t++[v]) (mput q v.Number (jv15 s a k v)):=by
 refine ⟨zkq h.nd _ _,fun n=>?_,?_⟩
 ·rw [zdq,zlo];by_cases e:n=v.Number
  ·subst e;rw [xm rfl,hn];simp only;rw [zby,xm rfl]
  ·rw [xl e,h.get];cases hl:look t n with
   | some u=>rfl
   | none=>
    simp only;rw [zby,xl (fun e'=>e e'.symm)];rfl
 ·have:=zxz q v.Number (jv15 s a k v);have:=h.len;rw [xt,pK];omega
structure Ok16 (fuel:Nat) (x:Msg):Prop where
 b:bdM x
 s:smM x
 z:2*szM x<fuel
 w:wgM x<=30000
theorem zHi {k:Int} (h:kNum k=true):(sPut k 0).length=if 12<=k then 8 else if 9<=k then 4 else 1:=by
 have hc:zaM k 0=0:=by
  unfold zaM;simp [zmZ,sgnS]
 unfold sPut zhD;rw [hc];split
 ·rfl
 ·split
  ·rfl
  ·rw [show (0:Int).toNat=0 from rfl,zrF (by omega)];rfl
theorem zur (k:Int):zer k=some (kNum k):=by
 unfold zer;rw [zsZ (by omega),sb];cases h:kNum k with
 | false=>rfl
 | true=>
  have:=zHi h;simp only [yf];congr 1;rw [this];split
  ·rfl
  ·split<;>rfl
theorem zEe {k:Int} (h:kNum k=true):zhU k=some (zX k):=by
 have hs:=zHi h;unfold zhU;rw [zsZ (by omega),sb,h,xm rfl,hs];clear hs;have hk:1<=k/\k<=14:=yh h;unfold zX;by_cases h1:12<=k
 ·simp [h1,show ¬(15<=k) by omega]
 ·by_cases h2:9<=k
  ·simp [h1,h2,show ¬(15<=k) by omega]
  ·simp [h1,h2,show ¬(15<=k) by omega]
theorem zvN {out v:List UInt8} {n w:Int} (ho:out.length<=70368744177664) (hv:v.length<=1048576) (hr:zba n w=true) (hf:zaW w v=true):zis out n w v=some (out++put5 n w v):=by
 have hp:=zxG hr hv;unfold zis;rw [zBd (by simp) hv,sb,xm ⟨hr,hf⟩,xz,zdX (by simp only;omega),sb]
theorem zCb {n:Int} (hr:zba n 2=true) {z:Nat} (hz:z<=70368744177664):zir n (z:Int)=some (enc (tW n 2)++enc z):=by
 obtain ⟨_,vC⟩:=zqs hr;have h1:=zhz (v:=tW n 2) (by omega);have h2:=zhz (v:=z) (by omega);unfold zir;have e0:put5 n 2 []=enc (tW n 2)++[0]:=by
  unfold put5;rw [xm rfl,xS,yn,zrF (v:=0) (by omega)];rfl
 have hw:u64.wrap (z:Int)=(z:Int):=by rw [wrap_u64,yZ (by omega) (by omega)]
 rw [zGs (by simp) (by simp),sb,xm hr,xz,hw,zBi (by omega),sb,e0];rw [show (0:Int)=((0:Nat):Int) from rfl,zfR (a:=0) (b:=(enc (tW n 2)).length) rfl (by simp only [xt,pK];rw [uk];omega) (xB _) (by simp),sb];have e1:((enc (tW n 2)++[0]).drop 0).take ((enc (tW n 2)).length - 0)=enc (tW n 2):=by simp
 rw [e1];have hk:kNum 4=true:=rfl;rw [hk,xm rfl];have e2:sPut 4 (z:Int)=enc z:=rfl;rw [e2,zdX (by simp only;omega),sb]
abbrev zeX:=List (zd×Int)
def zeY (s:List Mes) (met:zeX):Prop:=∀(M n i:Int),mget met ⟨M,n⟩=some i->i=fldI (zn s M) n
def zgq (a b:zeX):Prop:=∀(q:zd) (i:Int),mget a q=some i->mget b q=some i
theorem zgq.refl (a:zeX):zgq a a:=fun _ _ h=>h
theorem zgq.trans {a b c:zeX} (h:zgq a b) (k:zgq b c):zgq a c:=fun q i hq=>k q i (h q i hq)
theorem zxx {m:Mes} {b:List UInt8} {p:Int} {v:Vw} (h:zee m b p=(v,0)):zcg b p=(v.R,0)/\v.Field=fldI m v.R.Number:=by
 unfold zee at h;split at h
 ·rename_i hc;simp only [yi] at h;exact absurd h.2 hc
 ·rename_i hc;have h0:(zcg b p).2=0:=by simpa using hc
  have hn:zcg b p=((zcg b p).1,0):=by rw [<-h0]
  split at h
  ·rename_i c hv;simp only [yi] at h;rcases zdl m (zcg b p).1.Number (zcg b p).1.Wire with h1| ⟨h1,_⟩| ⟨i,run,h1,_⟩
   ·rw [hv] at h1;cases h1;omega
   ·rw [hv] at h1;cases h1
   ·rw [hv] at h1;cases h1
  ·rename_i i run hv;simp only [yi,qo] at h;subst h;refine ⟨hn,?_⟩;rcases zdl m (zcg b p).1.Number (zcg b p).1.Wire with h1| ⟨h1,h2⟩| ⟨j,run',h1,h2,_⟩
   ·rw [hv] at h1;cases h1
   ·rw [hv] at h1;cases h1;exact h2.symm
   ·rw [hv] at h1;cases h1;exact h2.symm
theorem zEc {s:List Mes} (hs:zcI s) {k:Nat} (hk:k<s.length) {b:List UInt8} (hb:b.length<=1048576) {p:Int} {v:Vw} (h:zee (zn s k) b p=(v,0)) {met:zeX} (hm:zeY s met):
  ∃met',zeH ⟨s,met⟩ k b p=some (v.R,v.Field,met')/\zeY s met'/\zgq met met'/\mget met' ⟨k,v.R.Number⟩=some v.Field:=by
 obtain ⟨hn,hf⟩:=zxx h;have hmm:zn s (k:Int)∈s:=by rw [zcf hk];exact xD hk
 have hfew:=hs.few _ hmm;unfold zeH;rw [zom hb,hn,sb];cases hg:mget met ⟨(k:Int),v.R.Number⟩ with
 | some i=>
  have hi:=hm _ _ _ hg;refine ⟨met,?_,hm,.refl _,by rw [hg,hf,hi]⟩;simp only [Option.isSome_some,Bool.not_true,qJ];rw [itF rfl,hf,hi]
 | none=>
  refine ⟨mput met ⟨k,v.R.Number⟩ v.Field,?_,fun M n i hi=>?_,fun q i hq=>?_,by rw [zdq,xm rfl]⟩
  ·simp only [Option.isSome_none,Bool.not_false,yf];rw [zao rfl hk,sb,<-zcf hk,zyp (by omega) hb,sb,h];rfl
  ·rw [zdq] at hi;split at hi
   ·rename_i e;cases e;cases hi;exact hf
   ·exact hm M n i hi
  ·rw [zdq];split
   ·rename_i e;rw [e,hg] at hq;cases hq
   ·exact hq
def pc18 (f:Fld) (t:Th):List UInt8:=if f.Repeated=true/\kNum f.Kind=false then t.raw else t.val
def gat1 (f:Fld) (a:List UInt8) (t:Th):List UInt8:=if f.Repeated=false/\f.Kind≠17 then pc18 f t else a++pc18 f t
theorem zzo {f:Fld} {a b:List UInt8} {v:Vw} (ha:a.length<=70368744177664) (h:0<=v.R.From/\v.R.From<v.R.At/\v.R.At<=v.R.To/\v.R.To<=b.length) (hb:b.length<=70368744177664):zhk f a b v.R=some (gat1 f a (thOf b v)):=by
 obtain ⟨h1,h2,h3,h4⟩:=h;have hL:At14 b [v]:=fun t ht=>by rw [x9.1 ht];exact ⟨h1,h2,h3,h4⟩
 have hc1:=zFv hL (x9.2 rfl);have hc2:=zAf hL (x9.2 rfl);have hpl:(pc18 f (thOf b v)).length<=b.length:=by
  unfold pc18;have e1:(thOf b v).raw=rawB b v.R:=rfl;have e2:(thOf b v).val=valB b v.R:=rfl;split
  ·rw [e1];exact zxN b _
  ·rw [e2];unfold valB;rw [xY,xT];omega
 have hp:cut b (if f.Repeated=true/\kNum f.Kind=false then v.R.From else v.R.At) v.R.To=some (pc18 f (thOf b v)):=by
  unfold pc18;split
  ·exact hc2
  ·exact hc1
 unfold zhk gat1;rw [zur,sb];have e1:(if f.Repeated=true then some (!kNum f.Kind) else some false)=some (decide (f.Repeated=true/\kNum f.Kind=false)):=by
  cases f.Repeated<;>cases kNum f.Kind<;>rfl
 rw [e1,sb];have e2:(if decide (f.Repeated=true/\kNum f.Kind=false)=true then some v.R.From else some v.R.At)=some (if f.Repeated=true/\kNum f.Kind=false then v.R.From else v.R.At):=by
  by_cases h:f.Repeated=true/\kNum f.Kind=false
  ·rw [xm h,xm (by simpa using h)]
  ·rw [xl h,xl (by simpa using h)]
 rw [e2,sb,hp,sb,sb];by_cases hl:f.Repeated=false/\f.Kind≠17
 ·rw [xm hl,itT (by simp [hl.1,hl.2])]
 ·rw [xl hl];by_cases h0:a=[]
  ·subst h0;rw [itT (by simp),xz]
  ·have vR:a.length≠0:=fun e=>h0 (yo e)
   have hc:((!f.Repeated&&(f.Kind !=17))|| ((a.length:Int)==0))=false:=by
    have g1:(!f.Repeated&&(f.Kind !=17))=false:=by
     cases hr:f.Repeated
     ·have:f.Kind=17:=pP fun h=>hl ⟨hr,h⟩
      simp [this]
     ·rfl
    rw [g1,pB];simpa using vR
   rw [itF hc,zdX (by omega),sb]
theorem zIu {s:List Mes} {d:Nat} {k:Int} {b:List UInt8} (h:zF s d k b=none):∀t∈ths (zn s k) b,∃(n w:Int) (a:Nat),rec5 t.raw= .inr (n,w,a,t.raw.length)/\t.val=t.raw.drop a/\1<=a/\a<=t.raw.length:=by
 intro t ht;rw [zjk h] at ht;obtain ⟨r,hr,rfl⟩:=xu.1 ht;obtain ⟨n,w,f,a,u,hre,hrec,h1,h2,h3⟩:=zBh b 0 b rfl (xB _) r hr;have hrl:((b.drop f).take u).length=u:=by simp;omega
 have hraw:rawB b r=(b.drop f).take u:=by
  unfold rawB;rw [hre];simp only [xA];rw [show f+u - f=u by omega]
 have hval:valB b r=((b.drop f).take u).drop a:=by
  unfold valB;rw [hre];simp only [xA];rw [qn,ym,show f+u - (f+a)=u - a by omega]
 refine ⟨n,w,a,?_,?_,h1,?_⟩
 ·show rec5 (rawB b r)= .inr (n,w,a,(rawB b r).length);rw [hraw,hrl];exact zpD hrec
 ·show valB b r=(rawB b r).drop a;rw [hraw,hval]
 ·show a<=(rawB b r).length;rw [hraw,hrl];exact h2
def encT (s:List Mes) (f:Fld) (T:List Th):List UInt8:=if 0<zaq (valT (ofM s) f T) then encV s (valT (ofM s) f T) f else []
theorem zqV {f:Fld} (h:¬(f.Repeated=false/\f.Kind≠17)):∀(T:List Th) (a:List UInt8),T.foldl (gat1 f) a=a++T.flatMap (pc18 f)
 | [],a=>by simp
 | t::T,a=>by
  rw [xV,zqV h T,xC];unfold gat1;rw [xl h,yj]
theorem zrS {f:Fld} (h:f.Repeated=false/\f.Kind≠17):∀(T:List Th) (a:List UInt8),T≠[]->T.foldl (gat1 f) a=(zbi f T).flatMap (·.val)
 | [],_,hT=>absurd rfl hT
 | [t],a,_=>by
  have hp:zbi f [t]=[t]:=by unfold zbi;simp
  rw [hp,xV,pz];unfold gat1 pc18;rw [xm h,xl (by rw [h.1];simp)];simp
 | t::u::T,a,_=>by
  rw [xV,zrS h (u::T) _ (by simp),zpz,xl (by rw [h.1];simp)]
theorem zoV {k:Int} (hk:kNum k=true):∀(T:List Th),(∀t∈T,(zZ k t.val).2=0)->zZ k (T.flatMap (·.val))=(T.flatMap (fun t=>(zZ k t.val).1),0)
 | [],_=>by
  rw [yY,yY,zmz hk (by rw [zgW]),zgW];rfl
 | t::T,h=>by
  have ih:=zoV hk T fun u hu=>h u (xo _ hu)
  obtain ⟨h1,h2⟩:=zwp (k:=k) (a:=t.val) (b:=T.flatMap (·.val)) (h t xn);rw [ih] at h1 h2;rw [xC,xC];exact qS (h2 rfl) h1
theorem zzU {k:Int} {g:List UInt8} (h:(zZ k g).2=0) (h1:(zZ k g).1=[]):g=[]:=by
 obtain ⟨_,h3,h4⟩:=zhy h;rw [h1] at h4;have h5:=zxE k g h3;rw [List.map_eq_nil_iff.1 h4.symm] at h5;exact h5.symm
theorem zCe {f:Fld} (hk:kNum f.Kind=true) {n1:1<=f.Number} {n2:f.Number<=536870911} {out g:List UInt8} (ho:out.length<=70368744177664) (hg:g.length<=520000) {ws:List Int} (hw:zZ f.Kind g=(ws,0)) (h1:f.Repeated=false->ws.length<=1):
  zit out f g=some (out++if ws=[] then [] else if f.Repeated=true then put5 f.Number 2 (ws.flatMap (sPut f.Kind)) else put5 f.Number (zX f.Kind) (sPut f.Kind (ws.headD 0))):=by
 have hwl:=ztn f.Kind g;have hbd:=zyw f.Kind g;have htw:=zqw hk g;rw [hw] at hwl hbd htw;simp only at hwl hbd htw;have hr2:zba f.Number 2=true:=zdi.2 ⟨n1,n2,by omega⟩;have hrw:zba f.Number (zX f.Kind)=true:=zqb (by
  have:1<=f.Kind/\f.Kind<=14:=yh hk;exact xK (by omega)) n1 n2
 unfold zit;by_cases h0:g=[]
 ·subst h0;have:ws=[]:=by
   have:=ztn f.Kind [];rw [hw] at this;exact yo (by simpa using this)
  rw [itT (by simp),xm this,xS]
 ·have vR:ws≠[]:=fun e=>h0 (zzU (k:=f.Kind) (by rw [hw]) (by rw [hw];exact e))
  rw [itF (by simp;exact h0),zCq _ (by omega),sb,hw,zEx _ hbd (by omega),sb,xm hk,xl vR];cases hr:f.Repeated with
  | true=>rw [itT rfl,zvN ho (by simp only;omega) hr2 rfl,sb,xm rfl]
  | false=>
   have hl:ws.length=1:=by
    have:=h1 hr;have:ws.length≠0:=fun e=>vR (yo e)
    omega
   obtain ⟨x,rfl⟩:=pu.1 hl;have hx:=hbd x xn;have hpl:=zhp (k:=f.Kind) hx;have hfit:zaW (zX f.Kind) (sPut f.Kind x)=true:=by
    have:=zot hk [x] (fun w hw=>by rw [x9.1 hw];exact hx);refine (zsG hk (([x]:List Int).flatMap (sPut f.Kind)) _ ?_).1;rw [this];simp
   have hnw:zhU f.Kind=some (zX f.Kind):=zEe hk;rw [itF rfl,hnw,sb];simp only [pv,qQ];rw [zvN ho (by omega) hrw hfit,sb,xl (by simp)]
abbrev RecM:=zH->List UInt8->Int->List UInt8->Option (List UInt8×zeX)
abbrev RecF:=zH->List UInt8->Fld->List UInt8->Option (List UInt8×zeX)
def zzW (s:List Mes) (e:Nat) (rec:RecM):Prop:=∀(k:Nat) (v out:List UInt8) (met:zeX),k<s.length->v.length<=520000->out.length+(e+1)*4194304<=35184372088832->zF s e k v=none->zeY s met->
 ∃met',rec ⟨s,met⟩ out k v=some (out++zaG s k v,met')/\zeY s met'/\zgq met met'
theorem zCd {s:List Mes} (hs:zcI s) {d:Nat} {r1 r3:RecF} {r2:RecM} {f:Fld} (n1:1<=f.Number) (n2:f.Number<=536870911) {v out:List UInt8} (hv:v.length<=520000) (ho:out.length+d*4194304<=35184372088832)
  (vD:f.Kind=17->0<=f.Of/\f.Of<s.length/\∃e,d=e+1/\zzW s e r2/\zF s e f.Of v=none) {met:zeX} (hm:zeY s met):
  ∃met',zcD r1 r2 r3 ⟨s,met⟩ out f v=some (out++put5 f.Number 2 (if f.Kind=17 then zaG s f.Of v else v),met')/\zeY s met'/\zgq met met':=by
 have hr2:zba f.Number 2=true:=zdi.2 ⟨n1,n2,by omega⟩;unfold zcD;by_cases hk:f.Kind=17
 ·obtain ⟨o1,o2,e,hd,hrec,hf⟩:=vD hk;obtain ⟨k,hk'⟩:∃k:Nat,f.Of=k:=⟨f.Of.toNat,by omega⟩;rw [hk'] at hf o2;have hkl:k<s.length:=by omega
  subst hd;obtain ⟨met',h1,h2,h3⟩:=hrec k v out met hkl hv ho hf hm;have htw:=znn hs _ v e k rfl hkl hf;refine ⟨met',?_,h2,h3⟩;have vF:i64.wrap (((out++zaG s k v).length:Int) - (out.length:Int))=((zaG s k v).length:Int):=by
   rw [xt,uk];omega
  have hin:insO (out++zaG s k v) (out.length:Int) (enc (tW f.Number 2)++enc (zaG s k v).length)=some (out++put5 f.Number 2 (zaG s k v)):=by
   obtain ⟨_,vC⟩:=zqs hr2;have g1:=zhz (v:=tW f.Number 2) (by omega);have g2:=zhz (v:=(zaG s k v).length) (by omega);unfold insO;rw [xm ⟨by omega,by simp only [xt];omega,by simp only [xt];omega⟩,xA,qc,pR];unfold put5;rw [xm rfl];simp only [yj]
  rw [itF (by simp [hk]),xm hk,hk',h1,sb];simp only;rw [vF,zCb hr2 (by omega),sb,hin,sb]
 ·refine ⟨met,?_,hm,.refl _⟩;rw [itT (by simp [hk]),xl hk,zvN (by omega) (by omega) hr2 rfl,sb]
def zlt (s:List Mes) (f:Fld) (v:List UInt8):List UInt8:=put5 f.Number 2 (if f.Kind=17 then zaG s f.Of v else v)
theorem zfU {α β:Type} {f g:α->List β}:∀{l:List α},(∀t∈l,f t=g t)->l.flatMap f=l.flatMap g
 | [],_=>rfl
 | t::l,h=>by rw [xC,xC,h t xn,zfU fun u hu=>h u (xo _ hu)]
theorem zqg {s:List Mes} {d:Nat} {r3:RecF} {f:Fld} {T:List Th} (hraw:∀t∈T,∃(n w:Int) (a:Nat),rec5 t.raw= .inr (n,w,a,t.raw.length)/\t.val=t.raw.drop a/\1<=a/\a<=t.raw.length) (hb:(T.flatMap (·.raw)).length<=520000)
  (h3:∀t∈T,∀(out:List UInt8) (met:zeX),out.length+d*4194304<=35184372088832->zeY s met->∃met',r3 ⟨s,met⟩ out f t.val=some (out++zlt s f t.val,met')/\zeY s met'/\zgq met met') (m0:zeX):
  ∀(post pre:List Th) (out:List UInt8) (met:zeX),T=pre++post->out.length+(post.flatMap fun t=>zlt s f t.val).length+d*4194304<=35184372088832->zeY s met->
   ∃met',zcj (T.flatMap (·.raw)) f r3 ⟨s,m0⟩ met out ((pre.flatMap (·.raw)).length:Nat)=some (met',out++post.flatMap fun t=>zlt s f t.val)/\zeY s met'/\zgq met met'
 | [],pre,out,met,e,ho,hm=>by
  refine ⟨met,?_,hm,.refl _⟩;rw [xS] at e;subst e;refine zks ?_;unfold zbr;rw [itF (by simp)];simp
 | t::post,pre,out,met,e,ho,hm=>by
  have ht:t∈T:=by rw [e];simp
  obtain ⟨n,w,a,hrec,hval,ha1,ha2⟩:=hraw t ht;rw [xC,xt] at ho;obtain ⟨met1,g1,g2,g3⟩:=h3 t ht out met (by omega) hm;obtain ⟨met2,k1,k2,k3⟩:=zqg hraw hb h3 m0 post (pre++[t]) (out++zlt s f t.val) met1 (by rw [e];simp) (by rw [xt];omega) g2;refine ⟨met2,?_,k2,g3.trans k3⟩;have hB:T.flatMap (·.raw)=pre.flatMap (·.raw)++(t.raw++post.flatMap (·.raw)):=by rw [e];simp
  have vF:(T.flatMap (·.raw)).length=(pre.flatMap (·.raw)).length+(t.raw.length+(post.flatMap (·.raw)).length):=by rw [hB];simp
  have hto:((pre++[t]).flatMap (·.raw)).length=(pre.flatMap (·.raw)).length+t.raw.length:=by simp
  have hdrop:(T.flatMap (·.raw)).drop (pre.flatMap (·.raw)).length=t.raw++post.flatMap (·.raw):=by rw [hB,pR]
  rw [hto] at k1
  generalize T.flatMap (·.raw)=B at hb vF hdrop k1|-
  generalize (pre.flatMap (·.raw)).length=p at vF hdrop k1|-
  have hnx:zcg B (p:Int)=(⟨n,w,(p:Int),((p+a:Nat):Int),((p+t.raw.length:Nat):Int)⟩,0):=by
   unfold zcg;rw [xl (by omega),xA,hdrop,zqj _ _ hrec];push_cast;rfl
  have hcut:cut B ((p+a:Nat):Int) ((p+t.raw.length:Nat):Int)=some t.val:=by
   rw [zfR rfl rfl (by omega) (by omega),<-ym,hdrop,po ha2,hval,show p+t.raw.length - (p+a)=(t.raw.drop a).length by rw [xT];omega,qc]
  rw [xC,<-yj];refine (zkr (wv2':=met1) (out2':=out++zlt s f t.val) (fromv':=((p+t.raw.length:Nat):Int)) ?_).trans k1;unfold zbr;rw [ui,zom (by omega),hnx,sb];simp only;rw [hcut,sb,g1,sb]
def zIE (s:List Mes) (d:Nat) (f:Fld) (rec:RecF):Prop:=∀(v out:List UInt8) (met:zeX),v.length<=520000->out.length+d*4194304<=35184372088832->(f.Kind=17->∃e,d=e+1/\zF s e f.Of v=none)->zeY s met->
 ∃met',rec ⟨s,met⟩ out f v=some (out++zlt s f v,met')/\zeY s met'/\zgq met met'
theorem zGg {s:List Mes} {d:Nat} {r1 r3:RecF} {r2:RecM} {f:Fld} (n1:1<=f.Number) (n2:f.Number<=536870911) (hkr:zaQ f.Kind=true) {T:List Th} (hT:T≠[]) (vH:∀t∈T,OkF f t) (hw:kNum f.Kind=true->∀t∈T,(zZ f.Kind t.val).2=0)
  (hraw:∀t∈T,∃(n w:Int) (a:Nat),rec5 t.raw= .inr (n,w,a,t.raw.length)/\t.val=t.raw.drop a/\1<=a/\a<=t.raw.length) (hb1:(T.flatMap (·.raw)).length<=520000) (hb2:(T.flatMap (·.val)).length<=520000)
  (h3:zIE s d f r3) (vD:f.Kind=17->(∀t∈T,∃e,d=e+1/\zF s e f.Of t.val=none)) {out:List UInt8} (ho:out.length+(encT s f T).length+d*4194304<=35184372088832) {met:zeX} (hm:zeY s met):
  ∃met',zcC r1 r2 r3 ⟨s,met⟩ out f (T.foldl (gat1 f) [])=some (out++encT s f T,met')/\zeY s met'/\zgq met met':=by
 have hmul:∀t∈T,t.val.length<=(T.flatMap (·.val)).length:=fun t ht=>by
  obtain ⟨x,y,rfl⟩:=List.append_of_mem ht;simp only [yw,xC,xt];omega
 have hlast:f.Repeated=false->∃t,t∈T/\zbi f T=[t]:=fun hr=>by
  unfold zbi;rw [xl (by rw [hr];simp)];have hl:T.length≠0:=fun e=>hT (yo e)
  refine ⟨T[T.length - 1],xD _,?_⟩;rw [yy (by omega),yE (by omega)]
 unfold zcC;rw [zur,sb];cases hk:kNum f.Kind with
 | true=>
  have h17':f.Kind≠17:=fun e=>by rw [e] at hk;cases hk
  have hx:¬(f.Kind=15\/f.Kind=16):=fun e=>by rcases e with e| e<;>rw [e] at hk<;>cases hk
  have hg:T.foldl (gat1 f) []=(zbi f T).flatMap (·.val):=by
   cases hr:f.Repeated with
   | true=>
    rw [zqV (by rw [hr];simp),xz];have:zbi f T=T:=by unfold zbi;rw [xm hr]
    rw [this];refine zfU fun t _=>?_
    unfold pc18;rw [xl (by rw [hk];simp)]
   | false=>exact zrS ⟨hr,h17'⟩ T [] hT
  have hps:∀t∈zbi f T,t∈T:=fun t ht=>by
   unfold zbi at ht;split at ht
   ·exact ht
   ·exact qZ ht
  have hws:=zoV hk (zbi f T) fun t ht=>hw hk t (hps t ht)
  have hgl:((zbi f T).flatMap (·.val)).length<=520000:=by
   cases hr:f.Repeated with
   | true=>
    have:zbi f T=T:=by unfold zbi;rw [xm hr]
    rw [this];exact hb2
   | false=>
    obtain ⟨t,ht,e⟩:=hlast hr;rw [e];simp only [pv];have:=hmul t ht;omega
  have hone:f.Repeated=false->((zbi f T).flatMap fun t=>(zZ f.Kind t.val).1).length<=1:=fun hr=>by
   obtain ⟨t,ht,e⟩:=hlast hr;have vL:t.run=false:=by
    cases h:t.run with
    | false=>rfl
    | true=>have:=((vH t ht).1 h).2;rw [hr] at this;cases this
   rw [e];simp only [pv];rw [zmA hk ((vH t ht).2 vL).2];simp
  refine ⟨met,?_,hm,.refl _⟩;rw [itT rfl,hg,zCe hk (n1:=n1) (n2:=n2) (by omega) hgl hws hone,sb];congr 3;unfold encT valT;rw [xl h17',xl hx]
  generalize ((zbi f T).flatMap fun t=>(zZ f.Kind t.val).1)=ws
  have hmy:zaq (⟨f.Number,ws,[],[]⟩:Vlu)=ws.length:=by unfold zaq;simp
  rw [hmy,encV,xm hk];by_cases h0:ws=[]
  ·rw [xm h0,xl (by rw [h0];simp)]
  ·have hl:ws.length≠0:=fun e=>h0 (yo e)
   rw [xl h0,xm (show 0<ws.length by omega)]
 | false=>
  rw [itF rfl];have hkk:f.Kind=17\/(f.Kind≠17/\(f.Kind=15\/f.Kind=16)):=by
   have h1:1<=f.Kind/\f.Kind<=17:=yh hkr;have h2:¬(1<=f.Kind/\f.Kind<=14):=pw hk;omega
  cases hr:f.Repeated with
  | false=>
   have key:∃g,T.foldl (gat1 f) []=g/\g.length<=520000/\(f.Kind=17->∃e,d=e+1/\zF s e f.Of g=none)/\encT s f T=zlt s f g:=by
    rcases hkk with h| ⟨h,hx⟩
    ·refine ⟨T.flatMap (·.val),?_,hb2,fun _=>?_,?_⟩
     ·rw [zqV (by rw [h];simp),xz];refine zfU fun t _=>?_
      unfold pc18;rw [xl (by rw [hr];simp)]
     ·obtain ⟨t0,r0,e0⟩:=p9 hT;obtain ⟨e,he,_⟩:=vD h t0 (by rw [e0];exact xn);refine ⟨e,he,?_⟩;rw [List.flatMap_def];refine znT _ fun v hv=>?_
      obtain ⟨t,ht,rfl⟩:=xu.1 hv;obtain ⟨e',he',hf⟩:=vD h t ht;have:e'=e:=by omega
      rw [<-this];exact hf
     ·unfold encT valT zlt;rw [xm h,hr,xm h];simp only [yS,yu];rw [xm (by unfold zaq;simp),encV,xl (by rw [hk];simp),zeZ,zeZ];simp only [yY,xz,xS];rfl
    ·obtain ⟨t,ht,e⟩:=hlast hr;refine ⟨t.val,?_,by have:=hmul t ht;omega,fun h'=>absurd h' h,?_⟩
     ·rw [zrS ⟨hr,h⟩ T [] hT,e];simp
     ·unfold encT valT zlt;rw [xl h,xm hx,xl h,e];rw [xm (by unfold zaq;simp),encV,xl (by rw [hk];simp),zeZ];simp
   obtain ⟨g,h1,h2,h3',h4⟩:=key;obtain ⟨met',k1,k2,k3⟩:=h3 g out met h2 (by omega) h3' hm;refine ⟨met',?_,k2,k3⟩;rw [ug,h1,k1,sb,h4]
  | true=>
   have hg:T.foldl (gat1 f) []=T.flatMap (·.raw):=by
    rw [zqV (by rw [hr];simp),xz];refine zfU fun t _=>?_
    unfold pc18;rw [xm ⟨hr,hk⟩]
   have hen:encT s f T=T.flatMap fun t=>zlt s f t.val:=by
    have hl:T.length≠0:=fun e=>hT (yo e)
    have hp:zbi f T=T:=by unfold zbi;rw [xm hr]
    unfold encT valT zlt;rcases hkk with h| ⟨h,hx⟩
    ·rw [xm h,hr,xm rfl,xm (by unfold zaq;simp;omega),encV,xl (by rw [hk];simp),znj];simp only [yY,xz,qG,h,yf];rfl
    ·rw [xl h,xm hx,hp,xm (by unfold zaq;simp;omega),encV,xl (by rw [hk];simp),zeZ];simp only [xS,qG,h,yu]
   rw [hen] at ho;obtain ⟨met',k1,k2,k3⟩:=zqg (s:=s) (d:=d) (r3:=r3) (f:=f) hraw hb1 (fun t ht out met ho hm=>h3 t.val out met (by have:=hmul t ht;omega) ho (fun h=>vD h t ht) hm) met T [] out met rfl ho hm;refine ⟨met',?_,k2,k3⟩;have k1':zcj (T.flatMap (·.raw)) f r3 ⟨s,met⟩ met out 0=_:=k1;rw [uh,hg,k1',sb,hen]
abbrev znd:=List (Int×List UInt8)
def kn18 (m:Mes) (b:List UInt8) (acc:znd) (v:Vw):znd:=if v.Field= -1 then acc else mput acc v.R.Number (gat1 (zr m v.Field) ((mget acc v.R.Number).getD []) (thOf b v))
theorem zxm (m:Mes) (b:List UInt8) (n:Int):∀(L:List Vw) (acc:znd),(mget (L.foldl (kn18 m b) acc) n).getD []=(zda L n).foldl (fun a v=>gat1 (zr m v.Field) a (thOf b v)) ((mget acc n).getD [])
 | [],acc=>by simp [zda]
 | v::L,acc=>by
  rw [xV,zxm m b n L];unfold zda;rw [yF];unfold kn18;by_cases hf:v.Field= -1
  ·rw [xm hf,xl (by simp [hf])]
  ·rw [xl hf,zdq];by_cases hn:v.R.Number=n
   ·rw [xm hn.symm,xm (by simp [hf,hn]),xV,hn];rfl
   ·rw [xl (fun e=>hn e.symm),xl (by simp [hn])]
theorem zwP (m:Mes) (b:List UInt8) {i:Int}:∀(L:List Vw) (a:List UInt8),(∀v∈L,v.Field=i)->L.foldl (fun a v=>gat1 (zr m v.Field) a (thOf b v)) a=(L.map (thOf b)).foldl (gat1 (zr m i)) a
 | [],a,_=>rfl
 | v::L,a,h=>by
  rw [xV,xG,xV,h v xn];exact zwP m b L _ fun u hu=>h u (xo _ hu)
theorem zxb {κ α β:Type} [DecidableEq κ]:∀{a:List (κ×α)} {c:List (κ×β)},a.map Prod.fst=c.map Prod.fst->∀k,(mget a k).isSome=(mget c k).isSome
 | [],[],_,_=>rfl
 | [],_::_,h,_=>by simp at h
 | _::_,[],h,_=>by simp at h
 | p::a,q::c,h,k=>by
  simp only [xG,yR] at h;rw [mget,mget,h.1];split
  ·rfl
  ·exact zxb h.2 k
theorem zul (m:Mes) (b:List UInt8):∀(L:List Vw) (a:znd) (c:List (Int×List PVw)),a.map Prod.fst=c.map Prod.fst->(L.foldl (kn18 m b) a).map Prod.fst=(L.foldl kn14 c).map Prod.fst
 | [],a,c,h=>h
 | v::L,a,c,h=>by
  rw [xV,xV];refine zul m b L _ _ ?_;unfold kn18 kn14;split
  ·exact h
  ·rw [zgG,zgG,h];have:=zxb h v.R.Number;cases h1:mget a v.R.Number<;>cases h2:mget c v.R.Number<;>rw [h1,h2] at this<;>first| rfl| cases this
theorem zxi {α β:Type} {a:List (Int×α)} {c:List (Int×β)} (h:a.map Prod.fst=c.map Prod.fst):zjD a=zjD c:=by
 have h1:(a.all fun p=>(Lit.int .i64 p.1).wf)=(c.all fun p=>(Lit.int .i64 p.1).wf):=by
  have e1:(a.all fun p=>(Lit.int .i64 p.1).wf)=(a.map Prod.fst).all fun n=>(Lit.int .i64 n).wf:=by rw [List.all_map];rfl
  have e2:(c.all fun p=>(Lit.int .i64 p.1).wf)=(c.map Prod.fst).all fun n=>(Lit.int .i64 n).wf:=by rw [List.all_map];rfl
  rw [e1,e2,h]
 have h2:a.length=c.length:=by simpa using congrArg List.length h
 unfold zjD;rw [h1,h2,h]
theorem zDo (f:Fld) (a:List UInt8) (t:Th):(gat1 f a t).length<=a.length+max t.raw.length t.val.length:=by
 unfold gat1 pc18;split<;>split<;>(try rw [xt])<;>omega
theorem zDY {m:Mes} {b:List UInt8} {base:Nat} {n w:Int} {a t:Nat} (vC:base<b.length) (h:rec5 (b.drop base)= .inr (n,w,a,t)) {p:Int×Bool} (hv:vw m n w= .inr p):
  zee m b base=(⟨⟨n,w,(base:Int),((base+a:Nat):Int),((base+t:Nat):Int)⟩,p.1,p.2⟩,0):=by
 have e:zcg b base=(⟨n,w,base,(base+a:Nat),(base+t:Nat)⟩,0):=by
  unfold zcg;rw [xl (by omega),xA,h];push_cast;rfl
 unfold zee;rw [e];simp only [ne_eq,qT,yu,hv]
def vwOf (m:Mes) (r:Rec):Vw:=⟨r,(vwG m r).1,(vwG m r).2⟩
theorem zzp {s:List Mes} (hs:zcI s) {k:Nat} (hk:k<s.length) {b:List UInt8} (hb:b.length<=520000) (m0:zeX):∀(base:Nat) (l:List UInt8),base<=b.length->l=b.drop base->(spl base l).2=none->
  (∀r∈(spl base l).1,∃p,vw (zn s k) r.Number r.Wire= .inr p)->∀(met:zeX) (vS:znd) (vB:List UInt8),zeY s met->(∀n,((mget vS n).getD []).length<=base)->vB.length<=base->
  ∃met',zaY b k ⟨s,m0⟩ (zn s k) met vS vB base=some (met',((spl base l).1.map (vwOf (zn s k))).foldl (kn18 (zn s k) b) vS,vB++(unkO (((spl base l).1.map (vwOf (zn s k))).map (thOf b))).flatten)/\
   zeY s met'/\zgq met met'/\∀r∈(spl base l).1,mget met' ⟨k,r.Number⟩=some (vwOf (zn s k) r).Field:=by
 have hmm:zn s (k:Int)∈s:=by rw [zcf hk];exact xD hk
 have hfew:=hs.few _ hmm
 refine zfp (fun base l=>base<=b.length->l=b.drop base->(spl base l).2=none->
  (∀r∈(spl base l).1,∃p,vw (zn s k) r.Number r.Wire= .inr p)->∀(met:zeX) (vS:znd) (vB:List UInt8),zeY s met->(∀n,((mget vS n).getD []).length<=base)->vB.length<=base->
  ∃met',zaY b k ⟨s,m0⟩ (zn s k) met vS vB base=some (met',((spl base l).1.map (vwOf (zn s k))).foldl (kn18 (zn s k) b) vS,vB++(unkO (((spl base l).1.map (vwOf (zn s k))).map (thOf b))).flatten)/\
   zeY s met'/\zgq met met'/\∀r∈(spl base l).1,mget met' ⟨k,r.Number⟩=some (vwOf (zn s k) r).Field) ?_ ?_ ?_
 ·intro base hbase hl _ _ met vS vB hm _ _;have:b.length<=base:=by have:=congrArg List.length hl;simp at this;omega
  rw [zcS];refine ⟨met,?_,hm,.refl _,fun r hr=>by cases hr⟩;refine zjf ?_;unfold zaJ;rw [uj];simp [unkO]
 ·intro base l c hl h _ _ _ hn;rw [zeC hl h] at hn;cases hn
 ·intro base l n w a t hl h _ g1 g2 g3 ih hbase hld hn hv met vS vB hm hkn hrest;subst hld;simp only [xT] at g3;have vC:base<b.length:=by have:=qU.2 hl;simp at this;omega
  rw [zbO hl h] at hn hv|-;obtain ⟨p,hp⟩:=hv _ xn;have hlook:=zDY vC h hp;obtain ⟨met1,k1,k2,k3,k4⟩:=zEc hs hk (by omega) hlook hm;simp only at k1 k4;have hvw:vwOf (zn s k) ⟨n,w,(base:Int),((base+a:Nat):Int),((base+t:Nat):Int)⟩=⟨⟨n,w,(base:Int),((base+a:Nat):Int),((base+t:Nat):Int)⟩,p.1,p.2⟩:=by
   unfold vwOf vwG;simp only at hp;rw [hp]
  have hfi:=(zxx hlook).2;simp only at hfi;have hat:At14 b [⟨⟨n,w,(base:Int),((base+a:Nat):Int),((base+t:Nat):Int)⟩,p.1,p.2⟩]:=fun v hv=>by
   rw [x9.1 hv];refine ⟨?_,?_,?_,?_⟩<;>simp only<;>omega
  have hcr:=zAf hat (x9.2 rfl);simp only at hcr;have hraw:rawB b ⟨n,w,(base:Int),((base+a:Nat):Int),((base+t:Nat):Int)⟩=(b.drop base).take t:=by
   unfold rawB;simp only [xA];rw [show base+t - base=t by omega]
  have hrl:(rawB b ⟨n,w,(base:Int),((base+a:Nat):Int),((base+t:Nat):Int)⟩).length=t:=by rw [hraw];simp;omega
  have hvl:(valB b ⟨n,w,(base:Int),((base+a:Nat):Int),((base+t:Nat):Int)⟩).length<=t:=by unfold valB;simp only [xA,xY,xT];omega
  have hih:=ih (by omega) (by rw [ym]) hn (fun r hr=>hv r (xo _ hr));rw [xG,xG,xV,hvw];by_cases hf:p.1= -1
  ·obtain ⟨met2,q1,q2,q3,q4⟩:=hih met1 vS (vB++rawB b ⟨n,w,(base:Int),((base+a:Nat):Int),((base+t:Nat):Int)⟩) k2 (fun n=>yb (hkn n) (by omega)) (by rw [xt,hrl];omega);refine ⟨met2,?_,q2,k3.trans q3,fun r hr=>?_⟩
   ·have e1:kn18 (zn s k) b vS ⟨⟨n,w,(base:Int),((base+a:Nat):Int),((base+t:Nat):Int)⟩,p.1,p.2⟩=vS:=by unfold kn18;rw [xm hf]
    have e2:∀X:List Th,(unkO (thOf b ⟨⟨n,w,(base:Int),((base+a:Nat):Int),((base+t:Nat):Int)⟩,p.1,p.2⟩::X)).flatten=rawB b ⟨n,w,(base:Int),((base+a:Nat):Int),((base+t:Nat):Int)⟩++(unkO X).flatten:=fun X=>by
     unfold unkO;rw [yF,xm (by show decide (p.1<0)=true;rw [hf];rfl),xG,qh];rfl
    rw [e1,e2,<-yj];refine (zff ?_).trans q1;unfold zaJ;rw [ui,k1,sb,itT (by simp [hf])];simp only;rw [hcr,sb,zdX (by rw [hrl];omega),sb]
   ·cases hr with
    | head=>rw [hvw];exact q3 _ _ k4
    | tail _ hr=>exact q4 r hr
  ·have hnf:0<=p.1/\p.1<(zn s (k:Int)).Fields.length:=by
    rcases zdl (zn s (k:Int)) n w with h1| ⟨h1,_⟩| ⟨i,run,h1,_,h2⟩
    ·simp only at hp;rw [hp] at h1;cases h1
    ·simp only at hp;rw [hp] at h1;cases h1;exact absurd rfl hf
    ·simp only at hp;rw [hp] at h1;cases h1;simp only;omega
   have hgat:=zzo (f:=zr (zn s (k:Int)) p.1) (a:=(mget vS n).getD []) (b:=b) (v:=⟨⟨n,w,(base:Int),((base+a:Nat):Int),((base+t:Nat):Int)⟩,p.1,p.2⟩) (by have:=hkn n;omega) (hat _ (x9.2 rfl)) (by omega);have hgl:=zDo (zr (zn s (k:Int)) p.1) ((mget vS n).getD []) (thOf b ⟨⟨n,w,(base:Int),((base+a:Nat):Int),((base+t:Nat):Int)⟩,p.1,p.2⟩);have hgl':(gat1 (zr (zn s (k:Int)) p.1) ((mget vS n).getD []) (thOf b ⟨⟨n,w,(base:Int),((base+a:Nat):Int),((base+t:Nat):Int)⟩,p.1,p.2⟩)).length<=base+t:=by
    have g4:(thOf b ⟨⟨n,w,(base:Int),((base+a:Nat):Int),((base+t:Nat):Int)⟩,p.1,p.2⟩).raw.length=t:=hrl;have g5:(thOf b ⟨⟨n,w,(base:Int),((base+a:Nat):Int),((base+t:Nat):Int)⟩,p.1,p.2⟩).val.length<=t:=hvl;have:=hkn n;omega
   obtain ⟨met2,q1,q2,q3,q4⟩:=hih met1 (mput vS n (gat1 (zr (zn s (k:Int)) p.1) ((mget vS n).getD []) (thOf b ⟨⟨n,w,(base:Int),((base+a:Nat):Int),((base+t:Nat):Int)⟩,p.1,p.2⟩))) vB k2 (fun j=>by
    rw [zdq];split
    ·exact hgl'
    ·exact yb (hkn j) (by omega)) (by omega)
   refine ⟨met2,?_,q2,k3.trans q3,fun r hr=>?_⟩
   ·have e1:kn18 (zn s k) b vS ⟨⟨n,w,(base:Int),((base+a:Nat):Int),((base+t:Nat):Int)⟩,p.1,p.2⟩=mput vS n (gat1 (zr (zn s (k:Int)) p.1) ((mget vS n).getD []) (thOf b ⟨⟨n,w,(base:Int),((base+a:Nat):Int),((base+t:Nat):Int)⟩,p.1,p.2⟩)):=by unfold kn18;rw [xl hf]
    have e2:∀X:List Th,unkO (thOf b ⟨⟨n,w,(base:Int),((base+a:Nat):Int),((base+t:Nat):Int)⟩,p.1,p.2⟩::X)=unkO X:=fun X=>by
     unfold unkO;rw [yF,xl (by show ¬decide (p.1<0)=true;simp;omega)]
    rw [e1,e2];refine (zff ?_).trans q1;obtain ⟨i,hi⟩:∃i:Nat,p.1=i:=⟨p.1.toNat,by omega⟩;have hix:idx (zn s (k:Int)).Fields p.1=some (zr (zn s (k:Int)) p.1):=by rw [hi,zao rfl (by omega),zbw (by omega)]
    unfold zaJ;rw [ui,k1,sb,itF (by simpa using hf)];simp only;simp only at hgat;rw [hix,sb,hgat,sb]
   ·cases hr with
    | head=>rw [hvw];exact q3 _ _ k4
    | tail _ hr=>exact q4 r hr
theorem zsn {s:List Mes} {k:Nat} {m:Mes} {q:zeX×znd×List UInt8} {rf:RecF} {ks:List Int} {E:Int->List UInt8} {d:Nat} {m1:zeX} (m0:zeX) (hks:ks.length<=1048576)
  (hrow:∀n∈ks,∃i:Nat,i<m.Fields.length/\mget m1 ⟨k,n⟩=some (i:Int)/\∀(out:List UInt8) (met:zeX),out.length+(E n).length+d*4194304<=35184372088832->zeY s met->
   ∃met',rf ⟨s,met⟩ out (zr m (i:Int)) ((mget q.2.1 n).getD [])=some (out++E n,met')/\zeY s met'/\zgq met met'):
  ∀(c i:Nat) (out:List UInt8) (met:zeX),i+c=ks.length->out.length+((ks.drop i).flatMap E).length+d*4194304<=35184372088832->zeY s met->zgq m1 met->
   ∃met',zbz k q rf ks ⟨s,m0⟩ m met out i=some (met',out++(ks.drop i).flatMap E)/\zeY s met'/\zgq met met'
 | 0,i,out,met,hi,_,hm,_=>by
  have e:ks.drop i=[]:=yE (by omega);refine ⟨met,?_,hm,.refl _⟩;rw [e,yY,xS];refine zjh ?_;unfold zaX;rw [uj]
 | c+1,i,out,met,hi,ho,hm,hle=>by
  have hil:i<ks.length:=by omega
  rw [yy hil,xC,xt] at ho;obtain ⟨j,hj,hmet,hrec⟩:=hrow _ (xD hil);obtain ⟨met1,k1,k2,k3⟩:=hrec out met (by omega) hm;obtain ⟨met2,q1,q2,q3⟩:=zsn m0 hks hrow c (i+1) (out++E ks[i]) met1 (by omega) (by rw [xt];omega) k2 (hle.trans k3);refine ⟨met2,?_,q2,k3.trans q3⟩;have hx:idx ks (i:Int)=some ks[i]:=zao rfl hil;have hw:i64.wrap ((i:Int)+1)=((i+1:Nat):Int):=by rw [uk];push_cast;rfl
  have hf:idx m.Fields (j:Int)=some (zr m (j:Int)):=by rw [zao rfl hj,zbw hj]
  rw [yy hil,xC,<-yj];refine (zjg (wv4':=met1) (out2':=out++E ks[i]) (v5':=((i+1:Nat):Int)) ?_).trans q1;unfold zaX;rw [ui,hx,sb,hle _ _ hmet,qJ,hf,sb,k1,sb,hw]
theorem zjc {α β:Type} (p:α->Bool) (g:α->List β):∀l:List α,(l.filter p).flatMap g=l.flatMap fun x=>if p x=true then g x else []
 | []=>rfl
 | x::l=>by
  rw [yF,xC];split
  ·rw [xC,zjc p g l]
  ·rw [xz,zjc p g l]
theorem ztb {α β:Type} (g:α->List β) {l k:List α} (h:l.Sublist k):(l.flatMap g).length<=(k.flatMap g).length:=by
 induction h with
 | slnil=>exact xr _
 | cons a _ ih=>rw [xC,xt];omega
 | cons_cons a _ ih=>rw [xC,xC,xt,xt];omega
theorem zus {s:List Mes} (hs:zcI s) {d n:Nat} (hrec:∀e,d=e+1->zzW s e (zaS n)):zzW s d (zaS (n+3)):=by
 intro k b out met hk hb ho hfi hm;have hmi:idx s (k:Int)=some (zn s k):=by rw [zao rfl hk,zcf hk]
 have hmm:zn s (k:Int)∈s:=by rw [zcf hk];exact xD hk
 have hfld:=hs.fld _ hmm;have hall:=zws hfi;have hL1:(zaD (zn s (k:Int)) b).1=(spl 0 b).1.map (vwOf (zn s k)):=by rw [hall];rfl
 have hths:ths (zn s (k:Int)) b=(zaD (zn s (k:Int)) b).1.map (thOf b):=rfl;have hwt:=zlQ (zn s k) b;have hraws:=zIu hfi;have htw:=znn hs _ b d k rfl hk hfi;have hfrom:=hfi;rw [zdD,zbx] at hfrom;obtain ⟨met1,g1,g2,g3,g4⟩:=zzp hs hk hb met 0 b (xB _) rfl hfrom.2 (fun r hr=>zwb (hfrom.1 r hr)) met [] [] hm (fun n=>by simp [mget]) (by simp);have hvr:∀v∈(zaD (zn s (k:Int)) b).1,mget met1 ⟨k,v.R.Number⟩=some v.Field:=fun v hv=>by
  rw [hL1] at hv;obtain ⟨r,hr,rfl⟩:=xu.1 hv;exact g4 r hr
 rw [<-hL1] at g1;have hLl:(zaD (zn s (k:Int)) b).1.length<=1048576:=yb (zGD _ _) (by omega);have hwf:∀v∈(zaD (zn s (k:Int)) b).1,v.Field≠ -1->(Lit.int .i64 v.R.Number).wf=true:=fun v hv hf=>by
  have h:=(zBr hv).2;rcases zdl (zn s (k:Int)) v.R.Number v.R.Wire with h1| ⟨h1,_⟩| ⟨i,run,h1,h2,h3⟩
  ·rw [h] at h1;cases h1
  ·rw [h] at h1;simp only [Sum.inr.injEq,yi] at h1;exact absurd h1.1 hf
  ·rcases zcK (zn s (k:Int)) v.R.Number with ⟨q1,_⟩| ⟨j,hj,q1,q2,_⟩
   ·omega
   ·have hfo:=hfld _ (xD hj);have:=hfo.lo;have:=hfo.hi;exact zDq (by omega)
 obtain ⟨ks,hks,hkp,hkm⟩:=zxj hwf hLl;obtain ⟨hkn,hvals,hunk⟩:=zBZ hs hk hfi hkp hkm;have hkeys:zjD ((zaD (zn s (k:Int)) b).1.foldl (kn18 (zn s k) b) [])=some ks:=(zxi (zul _ b _ [] [] rfl)).trans hks;have hkl:ks.length<=1048576:=by
  have vF:ks.length=((zaD (zn s (k:Int)) b).1.foldl kn14 []).length:=by
   unfold zjD at hks;rw [zzH] at hks;split at hks
   ·cases hks;simp
   ·cases hks
  have:=zzf (zaD (zn s (k:Int)) b).1 [];simp only [yn] at this;omega
 have hrawl:(((zaD (zn s (k:Int)) b).1.map (thOf b)).flatMap (·.raw)).length<=520000:=by
  have e:=zzG b 0 b rfl (xB _) hfrom.2;rw [hL1,yK,qG];have e2:(spl 0 b).1.flatMap (fun r=>((thOf b∘vwOf (zn s k)) r).raw)=(spl 0 b).1.flatMap (zxL b):=rfl;rw [e2,e];exact hb
 have hvall:(((zaD (zn s (k:Int)) b).1.map (thOf b)).flatMap (·.val)).length<=520000:=by
  have h1:=ztY ((zaD (zn s (k:Int)) b).1.map (thOf b));rw [hths] at hwt;omega
 -- the form, by numbers
 have hform:zaG s k b=(ks.flatMap fun n=>encT s (zr (zn s (k:Int)) (fldI (zn s (k:Int)) n)) ((zda (zaD (zn s (k:Int)) b).1 n).map (thOf b)))++(unkO ((zaD (zn s (k:Int)) b).1.map (thOf b))).flatten:=by
  unfold zaG;rw [ziN,hunk,hvals,znk,zjc,qG];congr 1;refine zfU fun n hn=>?_
  obtain ⟨i,h1,h2,h3,_⟩:=hkn n hn;have hnum:∀T,(valT (ofM s) (zr (zn s (k:Int)) (i:Int)) T).Number=n:=fun T=>by
   unfold valT;split
   ·exact h2
   ·split<;>exact h2
  rw [h3];unfold encT;rw [hnum,h3];simp only [xP]
 rw [hform,xt] at htw;have hsum:∀n∈ks,(encT s (zr (zn s (k:Int)) (fldI (zn s (k:Int)) n)) ((zda (zaD (zn s (k:Int)) b).1 n).map (thOf b))).length<=(ks.flatMap fun n=>encT s (zr (zn s (k:Int)) (fldI (zn s (k:Int)) n)) ((zda (zaD (zn s (k:Int)) b).1 n).map (thOf b))).length:=fun n hn=>by
  obtain ⟨x,y,e⟩:=List.append_of_mem hn;rw [e];simp only [yw,xC,xt];omega
 have hrw:∀n:Int,(mget ((zaD (zn s (k:Int)) b).1.foldl (kn18 (zn s k) b) []) n).getD []=(zda (zaD (zn s (k:Int)) b).1 n).foldl (fun a v=>gat1 (zr (zn s k) v.Field) a (thOf b v)) []:=fun n=>zxm _ b n _ []
 obtain ⟨met2,q1,q2,q3⟩:=zsn (s:=s) (k:=k) (m:=zn s k) (q:=(met1,(zaD (zn s (k:Int)) b).1.foldl (kn18 (zn s k) b) [],[]++(unkO ((zaD (zn s (k:Int)) b).1.map (thOf b))).flatten)) (rf:=zcL (n+2)) (ks:=ks)
  (E:=fun n=>encT s (zr (zn s (k:Int)) (fldI (zn s (k:Int)) n)) ((zda (zaD (zn s (k:Int)) b).1 n).map (thOf b))) (d:=d) (m1:=met1) met hkl (fun w hw=>by
   obtain ⟨i,h1,h2,h3,h4,h5,h6⟩:=hkn w hw;have hfm:zr (zn s (k:Int)) (i:Int)∈(zn s (k:Int)).Fields:=by rw [zbw h1];exact xD h1
   have hfo:=hfld _ hfm;refine ⟨i,h1,?_,fun out met hol hmo=>?_⟩
   ·obtain ⟨v,hv,_,hnn⟩:=(hkm w).1 hw;have hb1:=hvr v hv;have hvb:v∈zda (zaD (zn s (k:Int)) b).1 w:=xU.2 ⟨hv,by
     rename_i hf;simp [hf,hnn]⟩
    rw [hnn,h5 v hvb] at hb1;exact hb1
   ·have hrow:(mget ((zaD (zn s (k:Int)) b).1.foldl (kn18 (zn s k) b) []) w).getD []=((zda (zaD (zn s (k:Int)) b).1 w).map (thOf b)).foldl (gat1 (zr (zn s (k:Int)) (i:Int))) []:=by
     rw [hrw,zwP _ b _ [] h5]
    have hsub:∀t∈(zda (zaD (zn s (k:Int)) b).1 w).map (thOf b),t∈ths (zn s (k:Int)) b:=fun t ht=>by
     obtain ⟨v,hv,rfl⟩:=xu.1 ht;exact qk (xU.1 hv).1
    rw [h3] at hol|-;show∃met',zcL (n+2) ⟨s,met⟩ out (zr (zn s k) (i:Int)) ((mget ((zaD (zn s (k:Int)) b).1.foldl (kn18 (zn s k) b) []) w).getD [])=_/\_;rw [hrow];show∃met',zcC (zcL (n+1)) (zaS (n+1)) (zfn (n+1)) ⟨s,met⟩ out (zr (zn s k) (i:Int)) _=_/\_;refine zGg hfo.lo hfo.hi hfo.kind (by simpa using h4) (fun t ht=>(h6 t ht).1) (fun hkk t ht=>?_) (fun t ht=>hraws t (hsub t ht)) ?_ ?_ (fun v out met hvl hol hsub17 hmo=>?_) (fun vD t ht=>?_) hol hmo
    ·obtain ⟨o1,o2,o3⟩:=h6 t ht;cases vL:t.run with
     | false=>rw [zmA hkk (o1.2 vL).2]
     | true=>
      have:=(o2.run (by omega) vL).2.2;rw [o3] at this;unfold zkG at this;rw [xl (by rw [hkk];simp)] at this;split at this
      ·rename_i h0;rw [zmz hkk h0]
      ·rename_i h0;exact absurd this h0
    ·exact yb (ztb _ (List.Sublist.map (thOf b) (List.filter_sublist (p:=fun v:Vw=>decide (v.Field≠ -1/\v.R.Number=w)) (l:=(zaD (zn s (k:Int)) b).1)))) hrawl
    ·exact yb (ztb _ (List.Sublist.map (thOf b) (List.filter_sublist (p:=fun v:Vw=>decide (v.Field≠ -1/\v.R.Number=w)) (l:=(zaD (zn s (k:Int)) b).1)))) hvall
    ·show∃met',zcD (zcL n) (zaS n) (zfn n) ⟨s,met⟩ out (zr (zn s k) (i:Int)) v=_/\_;refine zCd hs hfo.lo hfo.hi hvl hol (fun vD=>?_) hmo;have hof:=hfo.sub vD;obtain ⟨e,he,hf⟩:=hsub17 vD;exact ⟨hof.1,hof.2,e,he,hrec e he,hf⟩
    ·obtain ⟨o1,o2,o3⟩:=h6 t ht;have hr:t.run=false:=by
      cases hr:t.run
      ·rfl
      ·have:=(o1.1 hr).1;rw [vD] at this;cases this
     have:=(o2.one (by omega) hr).2.2.2;rw [o3] at this;exact this vD) ks.length 0 out met1 (xJ _) (by rw [yq];omega) g2 (.refl _)
 rw [yq] at q1;refine ⟨met2,?_,q2,g3.trans q3⟩;show zcN (zcL (n+2)) (zaS (n+2)) (zfn (n+2)) ⟨s,met⟩ out k b=_;unfold zcN;have g1':zaY b k ⟨s,met⟩ (zn s k) met [] [] 0=_:=g1;have q1':zbz k (met1,(zaD (zn s (k:Int)) b).1.foldl (kn18 (zn s k) b) [],[]++(unkO ((zaD (zn s (k:Int)) b).1.map (thOf b))).flatten) (zcL (n+2)) ks ⟨s,met⟩ (zn s k) met1 out 0=_:=q1;rw [hmi,sb,g1',sb];simp only;rw [hkeys,sb,q1',sb,zdX (by simp only [xt,xz];omega),sb,hform,yj];rfl
theorem zAQ {s:List Mes} (hs:zcI s):∀(d fuel:Nat),3*d+3<=fuel->zzW s d (zaS fuel)
 | 0,fuel,hf=>by
  obtain ⟨n,rfl⟩:∃n,fuel=n+3:=⟨fuel - 3,by omega⟩;exact zus hs fun e he=>by omega
 | d+1,fuel,hf=>by
  obtain ⟨n,rfl⟩:∃n,fuel=n+3:=⟨fuel - 3,by omega⟩;exact zus hs fun e he=>by
   have:e=d:=by omega
   subst this;exact zAQ hs e n (by omega)
theorem zzq {s:List Mes} (hs:zcI s) {fuel d k:Nat} {b:List UInt8} (hf:200<=fuel) (hd:d<=64) (hk:k<s.length) (hb:b.length<=520000) (hv:zF s d k b=none):zhl fuel s k b=some (zaG s k b):=by
 obtain ⟨met',h,_⟩:=zAQ hs d fuel (by omega) k b [] [] hk hb (by simp;omega) hv (fun M n i h=>by cases h);unfold zhl;rw [h,sb,xz]
theorem zFu {s:List Mes} {root:Int} {b:List UInt8} {d:Int} (h0:(zbj s root b d).2=0):zcI s/\d.toNat<=64/\∃k:Nat,root=k/\k<s.length/\zF s d.toNat k b=none:=by
 obtain ⟨hr,g1,g2,g3,g4⟩:=zma (zvo h0);obtain ⟨k,rfl⟩:∃k:Nat,root=k:=⟨root.toNat,by omega⟩;exact ⟨hr,by omega,k,rfl,by omega,(zrV.1 (by unfold is11;simpa using h0)).2⟩
theorem zon {fuel:Nat} {s:List Mes} (root:Int) {b:List UInt8} (d:Int) (hf:300<=fuel) (hw:WS s) (hb:b.length<=520000):zeT fuel s root b d=some (zqU s root b d):=by
 unfold zeT zqU;rw [zCC hw root (by omega) d (by omega),sb];by_cases h0:(zbj s root b d).2=0
 ·have h0':¬(zbj s root b d).2≠0:=fun h=>h h0
  obtain ⟨hr,hd,k,rfl,hk,hv⟩:=zFu h0;rw [itF (by simpa using h0),xl h0',zzq hr (by omega) hd hk hb hv,sb]
 ·rw [itT (by simpa using h0),xm h0]
end Go.Proofs.YtaglemhabeipfaaGreat
