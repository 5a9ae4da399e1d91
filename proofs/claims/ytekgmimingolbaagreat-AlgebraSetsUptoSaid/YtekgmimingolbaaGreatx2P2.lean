/-
  What the plain functions are. No condition.
-/
import Derived.Test.YtekgmimingolbaaGreatx2P1
import Derived.Test.YtekgmimingolbaaGreatx2S1
import Derived.Test.YtekgmimingolbaaGreatx2K2
import Derived.Test.YtekgmimingolbaaGreatx2K3
set_option autoImplicit true
set_option relaxedAutoImplicit true
namespace Go.Proofs.YtekgmimingolbaaGreat
open Go
theorem zLq:∀a<256,zvy ((a:Nat):Int)=some (if a<128 then (1,(a:Int)) else if a/32=6 then (2,((a%32:Nat):Int)) else if a/16=14 then (3,((a%16:Nat):Int)) else if a/8=30 then (4,((a%8:Nat):Int)) else (0,0)):=by decide+kernel
theorem zCi (w k:Nat) (h:k<=32):shrI .u32 (w:Int) (k:Int)=((w/2^k:Nat):Int):=zEf (k:= .u32) (a:=w) (b:=k) (by simpa [IntKind.bits] using h)
theorem zxx (w:Nat):zqm (w:Int)=some (if w<128 then 1 else if w<2048 then 2 else if 55296<=w/\w<=57343 then 0 else if w<65536 then 3 else if w<=1114111 then 4 else 0):=by
 unfold zqm;have e7:shrI .u32 (w:Int) 7=((w/128:Nat):Int):=zCi w 7 (by omega);have e11:shrI .u32 (w:Int) 11=((w/2048:Nat):Int):=zCi w 11 (by omega);have e16:shrI .u32 (w:Int) 16=((w/65536:Nat):Int):=zCi w 16 (by omega);rw [e7,e11,e16];by_cases h1:w<128
 ·rw [uM,xx h1]
 ·rw [uN,xw h1];by_cases h2:w<2048
  ·rw [uM,xx h2]
  ·rw [uN,xw h2];by_cases h3:55296<=w/\w<=57343
   ·rw [uM,xx h3]
   ·rw [uN,xw h3];by_cases h4:w<65536
    ·rw [uM,xx h4]
    ·rw [uN,xw h4];by_cases h5:w<=1114111
     ·rw [uM,xx h5]
     ·rw [uN,xw h5]
theorem zHz:∀c<256,shrI .u8 ((c:Nat):Int) 6=((c/64:Nat):Int)/\IntKind.u32.wrap (andI .u8 ((c:Nat):Int) 63)=((c%64:Nat):Int):=by decide+kernel
theorem znr {v:List UInt8} {w i:Nat} (h:i<v.length) (hv:v.length<=1000) (hw:w<=1000000):
  zdV v w i=if cont v[i] then zdV v ((64*w+v[i].toNat%64:Nat):Int) ((i+1:Nat):Int) else some (.inr ()):=by
 have hc:=v[i].toNat_lt;obtain ⟨e1,e2⟩:=zHz v[i].toNat (by omega);have hb:zgi v w i=if cont v[i] then some (.inl (((64*w+v[i].toNat%64:Nat):Int),((i+1:Nat):Int))) else some (.inr (.inr ())):=by
  unfold zgi;rw [uM,zI rfl h,sb,e1,e2];by_cases hk:cont v[i]=true
  ·rw [xx hk];unfold cont at hk;simp only [xN] at hk;rw [uN,uO];have e3:shlI .u32 (w:Int) 6=((w*64:Nat):Int):=by
    have:shlI .u32 (w:Int) 6=((w*64%4294967296:Nat):Int):=by simp [shlI,IntKind.bits,zEv]
    rw [this,Nat.mod_eq_of_lt (by omega)]
   rw [e3,zGO rfl (by simp [IntKind.bits];omega) (by simp [IntKind.bits];omega),Nat.or_comm,zDN _ w 6 (by omega)];have e4:v[i].toNat%64+w*2^6=64*w+v[i].toNat%64:=by omega
   rw [e4];rfl
  ·rw [xw hk];unfold cont at hk;simp only [xN] at hk;rw [uM]
 by_cases hk:cont v[i]=true
 ·rw [xx hk] at hb|-;exact zxi hb
 ·rw [xw hk] at hb|-;exact zrd hb
theorem zuT (h:v.length<=i):zdV v w i=some (.inl (w:Int)):=by
 refine zrd ?_;unfold zgi;rw [uN]
theorem zNa {w:Nat} {b:UInt8} (hw:w<=100):zdV [b] w 0=if cont b then some (.inl ((64*w+b.toNat%64:Nat):Int)) else some (.inr ()):=by
 have h:=znr (v:=[b]) (w:=w) (i:=0) (by simp) (by simp) (by omega);refine Eq.trans h ?_;simp only [uu];rw [zuT (by simp)]
theorem zNb {w:Nat} {b c:UInt8} (hw:w<=100):zdV [b,c] w 0=if cont b then (if cont c then some (.inl ((64*(64*w+b.toNat%64)+c.toNat%64:Nat):Int)) else some (.inr ())) else some (.inr ()):=by
 have h:=znr (v:=[b,c]) (w:=w) (i:=0) (by simp) (by simp) (by omega);refine Eq.trans h ?_;rw [znr (i:=0+1) (by simp) (by simp) (by omega)];simp only [uu,pQ,xH];rw [zuT (by simp)]
theorem zNc {w:Nat} {b c d:UInt8} (hw:w<=100):zdV [b,c,d] w 0=if cont b then (if cont c then (if cont d then some (.inl ((64*(64*(64*w+b.toNat%64)+c.toNat%64)+d.toNat%64:Nat):Int)) else some (.inr ())) else some (.inr ())) else some (.inr ()):=by
 have h:=znr (v:=[b,c,d]) (w:=w) (i:=0) (by simp) (by simp) (by omega);refine Eq.trans h ?_;rw [znr (i:=0+1) (by simp) (by simp) (by omega),znr (i:=0+1+1) (by simp) (by simp) (by omega)];simp only [uu,pQ,xH];rw [zuT (by simp)]
theorem zJO (n:Nat) (h:∀m,m≠n->isN m l=false):nxt l=if isN n l then n else 0:=by
 by_cases hn:isN n l=true
 ·rw [xx hn,zMw hn]
 ·rw [xw hn];by_cases h0:nxt l=0
  ·exact h0
  ·have h1:=zxz h0;by_cases h2:nxt l=n
   ·rw [h2] at h1;exact absurd h1 hn
   ·rw [h _ h2] at h1;cases h1
theorem zpU (n:Nat) (h:n=1/\a.toNat<128\/n=2/\192<=a.toNat/\a.toNat<224\/n=3/\224<=a.toNat/\a.toNat<240\/n=4/\240<=a.toNat):nxt (a::t)=if isN n (a::t) then n else 0:=by
 refine zJO n fun m hm=>?_
 cases hh:isN m (a::t) with
 | false=>rfl
 | true=>
  obtain ⟨a',t',e,_,g⟩:=znJ hh;cases e;omega
theorem zGz (b:List UInt8):zql b=some ((nxt b:Nat):Int):=by
 cases b with
 | nil=>rfl
 | cons a t=>
  have ha:=a.toNat_lt;unfold zql;have e00:idx (a::t) (0:Int)=some a:=zI (n:=0) rfl (by simp);rw [uN,e00,sb];rw [zLq _ (by omega),sb];by_cases h1:a.toNat<128
  ·rw [zpU 1 (.inl ⟨rfl,h1⟩),xx h1];simp only;rw [uN,zrF (i:=1) (j:=1) (a:=1) (b:=1) rfl rfl (by omega) (by simp),sb];have e0:zdV (((a::t).drop 1).take (1 - 1)) (a.toNat:Int) 0=some (.inl (a.toNat:Int)):=zuT (i:=0) (by simp);rw [e0,sb];simp only;rw [zxx,sb,xx h1,itF (by rfl)];simp [isN,is1,h1]
  ·rw [xw h1];by_cases h2:a.toNat/32=6
   ·rw [zpU 2 (.inr (.inl ⟨rfl,by omega,by omega⟩)),xx h2];simp only
    match t with
    | []=>rw [itT (by simp)];rfl
    | b::t=>
     rw [uN,zrF (i:=1) (j:=2) (a:=1) (b:=2) rfl rfl (by omega) (by simp),sb];have e0:=zNa (w:=a.toNat%32) (b:=b) (by omega);have e0':zdV (((a::b::t).drop 1).take (2 - 1)) ((a.toNat%32:Nat):Int) 0=_:=e0;rw [e0'];have hb:=b.toNat_lt;by_cases c1:cont b=true
     ·rw [xx c1,sb];simp only;have hn:=zxx (64*(a.toNat%32)+b.toNat%64);simp only [isN,is2,c1,and_true,xN];simp only [cont,xN] at c1;by_cases h:194<=a.toNat
      ·rw [xw (by omega),xx (by omega)] at hn;rw [hn,sb,itF (by rfl),xx (by omega)];rfl
      ·rw [xx (by omega)] at hn;rw [hn,sb,itT (by rfl),xw (by omega)];rfl
     ·rw [xw c1,sb];simp only;simp [isN,is2,c1]
   ·rw [xw h2];by_cases h3:a.toNat/16=14
    ·rw [zpU 3 (.inr (.inr (.inl ⟨rfl,by omega,by omega⟩))),xx h3];simp only
     match t with
     | []=>rw [itT (by simp)];rfl
     | [b]=>rw [itT (by simp)];rfl
     | b::c::t=>
      rw [uN,zrF (i:=1) (j:=3) (a:=1) (b:=3) rfl rfl (by omega) (by simp),sb];have e0:=zNb (w:=a.toNat%16) (b:=b) (c:=c) (by omega);have e0':zdV (((a::b::c::t).drop 1).take (3 - 1)) ((a.toNat%16:Nat):Int) 0=_:=e0;rw [e0'];have hb:=b.toNat_lt;have hc:=c.toNat_lt;by_cases c1:cont b=true
      ·rw [xx c1];by_cases c2:cont c=true
       ·rw [xx c2,sb];simp only;have hn:=zxx (64*(64*(a.toNat%16)+b.toNat%64)+c.toNat%64);simp only [isN,is3,c1,c2,q9,xN];simp only [cont,xN] at c1 c2;by_cases h:(a.toNat=224->160<=b.toNat)/\(a.toNat=237->b.toNat<160)
        ·rw [xw (by omega),xw (by omega),xw (by omega),xx (by omega)] at hn;rw [hn,sb,itF (by rfl),xx (by omega)];rfl
        ·by_cases g:64*(64*(a.toNat%16)+b.toNat%64)+c.toNat%64<2048
         ·by_cases g':64*(64*(a.toNat%16)+b.toNat%64)+c.toNat%64<128
          ·rw [xx g'] at hn;rw [hn,sb,itT (by rfl),xw (by omega)];rfl
          ·rw [xw g',xx g] at hn;rw [hn,sb,itT (by rfl),xw (by omega)];rfl
         ·rw [xw (by omega),xw g,xx (by omega)] at hn;rw [hn,sb,itT (by rfl),xw (by omega)];rfl
       ·rw [xw c2,sb];simp only;simp [isN,is3,c2]
      ·rw [xw c1,sb];simp only;simp [isN,is3,c1]
    ·rw [xw h3];by_cases h4:a.toNat/8=30
     ·rw [zpU 4 (.inr (.inr (.inr ⟨rfl,by omega⟩))),xx h4];simp only
      match t with
      | []=>rw [itT (by simp)];rfl
      | [b]=>rw [itT (by simp)];rfl
      | [b,c]=>rw [itT (by simp)];rfl
      | b::c::d::t=>
       rw [uN,zrF (i:=1) (j:=4) (a:=1) (b:=4) rfl rfl (by omega) (by simp),sb];have e0:=zNc (w:=a.toNat%8) (b:=b) (c:=c) (d:=d) (by omega);have e0':zdV (((a::b::c::d::t).drop 1).take (4 - 1)) ((a.toNat%8:Nat):Int) 0=_:=e0;rw [e0'];have hb:=b.toNat_lt;have hc:=c.toNat_lt;have hd:=d.toNat_lt;by_cases c1:cont b=true
       ·rw [xx c1];by_cases c2:cont c=true
        ·rw [xx c2];by_cases c3:cont d=true
         ·rw [xx c3,sb];simp only;have hn:=zxx (64*(64*(64*(a.toNat%8)+b.toNat%64)+c.toNat%64)+d.toNat%64);simp only [isN,is4,c1,c2,c3,q9,xN];simp only [cont,xN] at c1 c2 c3;by_cases h:a.toNat<245/\(a.toNat=240->144<=b.toNat)/\(a.toNat=244->b.toNat<144)
          ·rw [xw (by omega),xw (by omega),xw (by omega),xw (by omega),xx (by omega)] at hn;rw [hn,sb,itF (by rfl),xx (by omega)];rfl
          ·have hw:¬(65536<=64*(64*(64*(a.toNat%8)+b.toNat%64)+c.toNat%64)+d.toNat%64/\64*(64*(64*(a.toNat%8)+b.toNat%64)+c.toNat%64)+d.toNat%64<=1114111):=by omega
           generalize 64*(64*(64*(a.toNat%8)+b.toNat%64)+c.toNat%64)+d.toNat%64=w at hn hw
           have hx:∃x:Int,zqm w=some x/\x≠4:=⟨_,hn,by (repeat' split)<;>omega⟩;obtain ⟨x,hx,h4⟩:=hx;rw [hx,sb,uM,xw (by omega)];rfl
         ·rw [xw c3,sb];simp only;simp [isN,is4,c3]
        ·rw [xw c2,sb];simp only;simp [isN,is4,c2]
       ·rw [xw c1,sb];simp only;simp [isN,is4,c1]
     ·rw [xw h4,itT (by rfl)];by_cases h5:240<=a.toNat
      ·rw [zpU 4 (.inr (.inr (.inr ⟨rfl,h5⟩)))];cases hh:isN 4 (a::t) with
       | false=>rfl
       | true=>
        match t,hh with
        | b::c::d::t,hh=>simp only [isN,is4,xN] at hh;omega
      ·by_cases h0:nxt (a::t)=0
       ·rw [h0];rfl
       ·obtain ⟨a',t',e,_,g⟩:=znJ (zxz h0);cases e;omega
theorem zIo (hb:b.length<=1152921504606846976) (l:List UInt8):∀(a c:Nat),c<=a->a<=b.length->l=b.drop a->
  zjP b a c ((nxt l:Nat):Int)=some (((a+(pre4 l).1:Nat):Int),((c+(pre4 l).2:Nat):Int)):=by
 refine zJX (fun l=>∀(a c:Nat),c<=a->a<=b.length->l=b.drop a->zjP b a c ((nxt l:Nat):Int)=some (((a+(pre4 l).1:Nat):Int),((c+(pre4 l).2:Nat):Int))) ?_ ?_ l
 ·intro l h a c hc ha hl;rw [h,zHS h];refine zxk ?_;unfold zgH;rw [itF (by rfl)];rfl
 ·intro l h ih a c hc ha hl;subst hl;have h4:=zBO (b.drop a);have hle:=zub (b.drop a);simp only [yA] at hle;have e1:(b.drop a).drop (nxt (b.drop a))=b.drop (a+nxt (b.drop a)):=by rw [qG]
  refine (zxj (atv':=((a+nxt (b.drop a):Nat):Int)) (points':=((c+1:Nat):Int)) (size':=((nxt (b.drop (a+nxt (b.drop a))):Nat):Int)) ?_).trans ?_
  ·unfold zgH;rw [uM,uO,zyc (a:=a+nxt (b.drop a)) (by push_cast;rfl) rfl (by omega),sb,zGz,sb,uO];rfl
  ·rw [<-e1,ih (a+nxt (b.drop a)) (c+1) (by omega) (by omega) e1,zLr h];simp only [qT,Nat.add_comm 1]
theorem zKB (hb:b.length<=1152921504606846976):zsK b=some (((pre4 b).1:Int),((pre4 b).2:Int)):=by
 unfold zsK;rw [zGz,sb];have h:=zIo hb b 0 0 (xC _) (xF _) rfl;simp only [xH] at h;have h':zjP b 0 0 ((nxt b:Nat):Int)=some (((pre4 b).1:Int),((pre4 b).2:Int)):=h;rw [h',sb]
theorem zIl (hb:b.length<=1152921504606846976):zqj b=some ((pre4 b).1:Int):=by
 unfold zqj;rw [zKB hb,sb]
theorem zBc (hb:b.length<=1152921504606846976):zqk b=some (zmU b):=by
 unfold zqk zmU;rw [zIl hb,sb,zxm]
set_option linter.unusedVariables false
def zMv:List Str:=[[],[105,110,116,51,50],[105,110,116,54,52],[117,105,110,116,51,50],[117,105,110,116,54,52],[115,105,110,116,51,50],[115,105,110,116,54,52],[98,111,111,108],[101,110,117,109],[102,105,120,101,100,51,50],[115,102,105,120,101,100,51,50],[102,108,111,97,116],[102,105,120,101,100,54,52],[115,102,105,120,101,100,54,52],[100,111,117,98,108,101],[115,116,114,105,110,103],[98,121,116,101,115],[109,101,115,115,97,103,101]]
def zJq (k:Int):Str:=(zMv[k.toNat]?).getD []
def kT:List (Int×zx):=[(1,⟨[105,110,116,51,50],0⟩),(2,⟨[105,110,116,54,52],0⟩),(3,⟨[117,105,110,116,51,50],0⟩),(4,⟨[117,105,110,116,54,52],0⟩),(5,⟨[115,105,110,116,51,50],0⟩),(6,⟨[115,105,110,116,54,52],0⟩),(7,⟨[98,111,111,108],0⟩),(8,⟨[101,110,117,109],0⟩),(9,⟨[102,105,120,101,100,51,50],5⟩),(10,⟨[115,102,105,120,101,100,51,50],5⟩),(11,⟨[102,108,111,97,116],5⟩),(12,⟨[102,105,120,101,100,54,52],1⟩),(13,⟨[115,102,105,120,101,100,54,52],1⟩),(14,⟨[100,111,117,98,108,101],1⟩),(15,⟨[115,116,114,105,110,103],2⟩),(16,⟨[98,121,116,101,115],2⟩),(17,⟨[109,101,115,115,97,103,101],2⟩)]
theorem zDy:znN=some kT:=rfl
theorem zwO (h:zfM k=true):k=1\/k=2\/k=3\/k=4\/k=5\/k=6\/k=7\/k=8\/k=9\/k=10\/k=11\/k=12\/k=13\/k=14\/k=15\/k=16\/k=17:=by
 have:=qn h;omega
theorem zMm (h:zfM k=true):mget kT k=some ⟨zJq k,zAw k⟩:=by
 rcases zwO h with rfl| rfl| rfl| rfl| rfl| rfl| rfl| rfl| rfl| rfl| rfl| rfl| rfl| rfl| rfl| rfl| rfl<;>rfl
theorem zLe (h:e∈kT):zfM e.1=true/\e.2=⟨zJq e.1,zAw e.1⟩:=by
 have:kT.all (fun e=>zfM e.1&&decide (e.2=⟨zJq e.1,zAw e.1⟩))=true:=by decide
 have h1:=xG.1 this e h;simp only [xB,xN] at h1;exact h1
theorem zLf (h:zfM k=false):mget kT k=none:=by
 cases hg:mget kT k with
 | none=>rfl
 | some x=>
  have mem:∀{m:List (Int×zx)} {x:zx},mget m k=some x->(k,x)∈m:=fun {m x} hg=>by
   induction m with
   | nil=>cases hg
   | cons p m ih=>
    rw [mget] at hg;split at hg
    ·rename_i e;cases hg;rw [e];exact xy
    ·exact xz _ (ih hg)
  have h1:=(zLe (mem hg)).1;simp only at h1;rw [h] at h1;cases h1
theorem zJE (k:Int):zpM k=some (if zfM k then (zAw k,0) else (0,2)):=by
 unfold zpM;rw [zDy,sb];cases h:zfM k with
 | true=>rw [zMm h];rfl
 | false=>rw [zLf h];rfl
theorem zFl (k:Int):zmF k=some (kNum k):=by
 unfold zmF;rw [zJE,sb];cases h:zfM k with
 | true=>
  rcases zwO h with rfl| rfl| rfl| rfl| rfl| rfl| rfl| rfl| rfl| rfl| rfl| rfl| rfl| rfl| rfl| rfl| rfl<;>rfl
 | false=>
  have h1:=of_decide_eq_false h;have:kNum k=false:=yb (by omega);rw [this];rfl
theorem zLh:kT.map Prod.fst=[1,2,3,4,5,6,7,8,9,10,11,12,13,14,15,16,17]:=rfl
theorem zLg:zrZ=some [1,2,3,4,5,6,7,8,9,10,11,12,13,14,15,16,17]:=by
 have e:zyu kT=some [1,2,3,4,5,6,7,8,9,10,11,12,13,14,15,16,17]:=by
  unfold zyu;rw [xx ⟨by decide,by decide⟩,zLh,List.mergeSort_of_pairwise (by decide)]
 unfold zrZ;rw [zDy,sb,e,sb]
theorem zvS (k:Int) (h:0<=w/\w<=18446744073709551615):znM k w=some (if kNum k then (zkl k w,0) else (0,2)):=by
 have hs:=zFJ w;have hc:=zIH k h;unfold znM;by_cases h1:k=1\/k=8
 ·have e:(if (k==1)=true then some (k==1) else some (k==8))=some true:=by rcases h1 with rfl| rfl<;>rfl
  have hn:kNum k=true:=ya (by omega);rw [e,sb,itT rfl,zHZ,sb,zIp (by omega),sb,hn];unfold zkl;rw [xx h1];rfl
 ·have e:(if (k==1)=true then some (k==1) else some (k==8))=some false:=by rw [uN];simp;omega
  rw [e,sb,itF rfl];by_cases h2:k=3\/k=5\/k=9\/k=10\/k=11
  ·have e2:(if (k==3)=true then some (k==3) else if (k==5)=true then some (k==5) else if (k==9)=true then some (k==9) else if (k==10)=true then some (k==10) else some (k==11))=some true:=by
    rcases h2 with rfl| rfl| rfl| rfl| rfl<;>rfl
   have hn:kNum k=true:=ya (by omega);have hw:IntKind.u64.wrap (w%4294967296)=w%4294967296:=by rw [zkI];omega
   rw [e2,sb,itT rfl,zDE,sb,hn,hw];unfold zkl;rw [xw h1,xx h2];rfl
  ·have e2:(if (k==3)=true then some (k==3) else if (k==5)=true then some (k==5) else if (k==9)=true then some (k==9) else if (k==10)=true then some (k==10) else some (k==11))=some false:=by
    rw [uN,uN,uN,uN];simp;omega
   rw [e2,sb,itF rfl];by_cases h7:k=7
   ·have hn:kNum k=true:=ya (by omega);rw [itT (by simpa using h7),hn];unfold zqE zkl;rw [sb,xw h1,xw h2,xx h7];by_cases h0:0<w
    ·rw [xx h0];by_cases h10:1<w
     ·rw [xx h10];rfl
     ·rw [xw h10,show w=1 by omega];rfl
    ·rw [xw h0,xw (by omega),show w=0 by omega];rfl
   ·rw [itF (by simpa using h7)];by_cases hn:kNum k=true
    ·have hk:=qn hn;have e3:(if (k==2)=true then some (k==2) else if (k==4)=true then some (k==4) else if (k==6)=true then some (k==6) else if (k==12)=true then some (k==12) else if (k==13)=true then some (k==13) else some (k==14))=some true:=by
      have:k=2\/k=4\/k=6\/k=12\/k=13\/k=14:=by omega
      rcases this with rfl| rfl| rfl| rfl| rfl| rfl<;>rfl
     rw [e3,sb,itT rfl,hn];unfold zkl;rw [xw h1,xw h2,xw h7];rfl
    ·have hn:kNum k=false:=by simpa using hn
     have hk:=of_decide_eq_false hn;have e3:(if (k==2)=true then some (k==2) else if (k==4)=true then some (k==4) else if (k==6)=true then some (k==6) else if (k==12)=true then some (k==12) else if (k==13)=true then some (k==13) else some (k==14))=some false:=by
      rw [uN,uN,uN,uN,uN];simp;omega
     rw [e3,sb,itF rfl,hn];rfl
def lt7 (c:UInt8):Bool:=decide (97<=c.toNat/\c.toNat<=122\/65<=c.toNat/\c.toNat<=90\/c.toNat=95)
def dg7 (c:UInt8):Bool:=decide (48<=c.toNat/\c.toNat<=57)
theorem zyp (c:UInt8):zit (c.toNat:Int)=some (dg7 c):=by
 unfold zit dg7;congr 1;rw [yB];simp;omega
theorem zDl (c:UInt8):ziZ (c.toNat:Int)=some (lt7 c):=by
 unfold ziZ lt7;congr 1;by_cases h1:(c.toNat:Int)>=97<;>by_cases h2:(c.toNat:Int)>=65<;>simp only [h1,h2,pv,pw,yD,qr,qq]<;>rw [yB]<;>simp<;>omega
theorem zDn (s:List UInt8) (hs:s.length<=1152921504606846976):∀(l:List UInt8) (i:Nat),s.drop i=l->zgO s i=some (if (l.all fun c=>lt7 c|| dg7 c)=true then .inl () else .inr ()):=by
 intro l
 induction l with
 | nil=>
  intro i hd;have:=zbx hd;refine zmJ ?_;unfold zcK;rw [uN];rfl
 | cons c l ih=>
  intro i hd;obtain ⟨hi,hc,hd'⟩:=zba hd;have hb:zcK s i=if (lt7 c|| dg7 c)=true then some (.inl ((i+1:Nat):Int)) else some (.inr (.inr ())):=by
   unfold zcK;rw [uM,zI rfl hi,sb,hc,zDl,sb,sb,zyp,uO];cases lt7 c<;>cases dg7 c<;>rfl
  rw [yr];cases hk:(lt7 c|| dg7 c) with
  | false=>
   rw [hk] at hb;rw [zmJ hb];rfl
  | true=>
   rw [hk] at hb;rw [zsA hb,ih _ hd',xQ]
theorem zGJ:∀(l:List UInt8) (i:Nat),0<i->nmA i l=l.all fun c=>lt7 c|| dg7 c
 | [],_,_=>rfl
 | c::l,i,h=>by
  rw [nmA,zGJ l (i+1) (by omega),yr];congr 1;unfold nmc lt7 dg7;rw [yB];simp;omega
theorem zAr (hs:s.length<=1152921504606846976):zjk s=some (zdc s):=by
 unfold zjk zdc;have hl:=zDn s hs s 0 rfl;have hl':zgO s 0=_:=hl;cases s with
 | nil=>rfl
 | cons c l=>
  rw [itF (by simp)];by_cases h60:((c::l).length:Int)>60
  ·rw [itT (by simpa using h60),sb,itT rfl];have:decide (1<=(c::l).length/\(c::l).length<=60)=false:=by simp only [qI];omega
   rw [this,pd]
  ·have hd:decide (1<=(c::l).length/\(c::l).length<=60)=true:=by simp only [xN];refine ⟨by simp,by omega⟩
   have hc:idx (c::l) 0=some c:=by simp [idx]
   rw [itF (by simpa using h60),hc,sb,zyp,sb,sb,hd,py,hl',sb];have e:nmA 0 (c::l)=(lt7 c&&l.all fun c=>lt7 c|| dg7 c):=by
    rw [nmA,zGJ l 1 (by omega)];congr 1;unfold nmc lt7;rw [yB];simp;omega
   have hx:lt7 c=true->dg7 c=false:=by
    unfold lt7 dg7;simp only [xN,qI];omega
   rw [e,yr];cases h1:lt7 c<;>cases h2:dg7 c<;>first| (rw [hx h1] at h2;cases h2;done)| skip
   ·rfl
   ·rfl
   ·cases l.all fun c=>lt7 c|| dg7 c<;>rfl
theorem zJe (hl:l.length<=1152921504606846976) (v:Int):zeL l v=some (zlq (fun x=>v==x) l):=by
 unfold zeL;have h:=zsR (fun x=>v==x) l (fun i=>zcN l v i) (ziv (by unfold zay;rw [itF (by simp)])) (fun i hi=>by
  by_cases hp:(v==l[i])=true
  ·rw [xx hp];exact ziv (by unfold zay;rw [uM,zI rfl hi,sb,itT hp])
  ·rw [xw hp];exact zmf (by unfold zay;rw [uM,zI rfl hi,sb,itF (by simpa using hp),uO];rfl)) l.length 0 (by omega) (fun j _ h=>by omega)
 have h':zcN l v 0=_:=h;rw [h',sb];unfold zlq;cases l.findIdx? (fun x=>v==x)<;>rfl
theorem zzG {α:Type} (p:α->Bool) (l:List α):decide (zlq p l>=0)=l.any p:=by
 cases h:l.findIdx? p with
 | none=>
  rw [ziF h];rw [q6] at h
  symm
  rw [up.2 fun x hx=>by simpa using h x hx];rfl
 | some i=>
  rw [ziG h];rw [qH] at h;obtain ⟨hi,hp,_⟩:=h
  symm
  rw [pI.2 ⟨l[i],xD hi,hp⟩];simp
theorem zCX (hl:l.length<=1152921504606846976) (v:Int):zdD l v=some (l.any fun x=>v==x):=by
 unfold zdD;rw [zJe hl,sb,zzG]
def K17:List Int:=[1,2,3,4,5,6,7,8,9,10,11,12,13,14,15,16,17]
theorem zHw (k:Int):(K17.any fun x=>k==x)=zfM k:=by
 unfold zfM K17;rw [yB];simp;omega
def hasN (m:List (zm×Bool)) (i:Int) (n:Str):Bool:=(mget m (⟨i,n⟩:zm)).getD false
def hasU (m:List (zn×Bool)) (i:Int) (n:Int):Bool:=(mget m (⟨i,n⟩:zn)).getD false
theorem zpL (m:List (zm×Bool)) (i j:Int) (n k:Str):hasN (mput m ⟨i,n⟩ true) j k=(decide (j=i/\k=n)|| hasN m j k):=by
 unfold hasN;rw [zed];by_cases h:j=i/\k=n
 ·obtain ⟨rfl,rfl⟩:=h;simp
 ·rw [xw (fun e=>h (by injection e with e1 e2;exact ⟨e1,e2⟩))];simp [h]
theorem zDh (m:List (zn×Bool)) (i j:Int) (n k:Int):hasU (mput m ⟨i,n⟩ true) j k=(decide (j=i/\k=n)|| hasU m j k):=by
 unfold hasU;rw [zed];by_cases h:j=i/\k=n
 ·obtain ⟨rfl,rfl⟩:=h;simp
 ·rw [xw (fun e=>h (by injection e with e1 e2;exact ⟨e1,e2⟩))];simp [h]
theorem zDo (n:Int):zja n=some (decide ¬(n<1\/n>536870911\/(19000<=n/\n<20000))):=by
 unfold zja;congr 1;rw [yB];simp;omega
theorem zFr (f:Fld):zjK f=some (f.Repeated&&kNum f.Kind):=by
 unfold zjK;rw [zFl];cases f.Repeated<;>rfl
theorem zJF (n:Int) (K:List Int) (nm:List (zm×Bool)) (nu:List (zn×Bool)) (f:Fld):zhe ⟨n,K,nm,nu⟩ f=some (decide ¬(f.Kind=17/\(f.Of<0\/f.Of>=n)\/f.Kind≠17/\f.Of≠0)):=by
 unfold zhe;by_cases h:f.Kind=17
 ·rw [itT (by simpa using h)];congr 1;rw [yB];simp [h]
 ·rw [itF (by simpa using h)];congr 1;rw [yB];simp [h]
theorem zIR (hf:f.Name.length<=1152921504606846976) (hN:hasN nm i f.Name=prev.any fun g=>g.Name==f.Name) (hU:hasU nu i f.Number=prev.any fun g=>g.Number==f.Number):
  zhd ⟨n,K17,nm,nu⟩ i f=some (zei n prev f,if zei n prev f=0 then (mput nm ⟨i,f.Name⟩ true,mput nu ⟨i,f.Number⟩ true) else (nm,nu)):=by
 unfold zhd;rw [zAr hf,sb];have e1:(mget nm (⟨i,f.Name⟩:zm)).getD false=hasN nm i f.Name:=rfl;have e2:(mget nu (⟨i,f.Number⟩:zn)).getD false=hasU nu i f.Number:=rfl;simp only [e1,e2,hN,hU];have hz:∀(k:Int) (x y:List (zm×Bool)×List (zn×Bool)),k≠0->(if k=0 then x else y)=y:=fun k x y h=>xw h
 by_cases h1:zdc f.Name=false
 ·have hF:zei n prev f=5:=by unfold zei;rw [xx h1]
  rw [hF,hz 5 _ _ (by decide),itT (by rw [h1];rfl)]
 rw [itF (show (!zdc f.Name)=false by simpa using h1)];by_cases h2:(prev.any fun g=>g.Name==f.Name)=true
 ·have hF:zei n prev f=6:=by unfold zei;rw [xw h1,xx h2]
  rw [hF,hz 6 _ _ (by decide),itT h2]
 have h2':(prev.any fun g=>g.Name==f.Name)=false:=pS h2;rw [itF h2',zDo,sb];by_cases h3:f.Number<1\/f.Number>536870911\/(19000<=f.Number/\f.Number<20000)
 ·have hF:zei n prev f=7:=by unfold zei;rw [xw h1,xw h2,xx h3]
  rw [hF,hz 7 _ _ (by decide),itT (by rw [yb (fun h=>h h3)];rfl)]
 rw [itF (by rw [ya h3];rfl)];by_cases h4:(prev.any fun g=>g.Number==f.Number)=true
 ·have hF:zei n prev f=8:=by unfold zei;rw [xw h1,xw h2,xw h3,xx h4]
  rw [hF,hz 8 _ _ (by decide),itT h4]
 have h4':(prev.any fun g=>g.Number==f.Number)=false:=pS h4;rw [itF h4',zCX (by decide),sb,zHw];by_cases h5:zfM f.Kind=false
 ·have hF:zei n prev f=9:=by unfold zei;rw [xw h1,xw h2,xw h3,xw h4,xx h5]
  rw [hF,hz 9 _ _ (by decide),itT (by rw [h5];rfl)]
 rw [itF (show (!zfM f.Kind)=false by simpa using h5),zFr];have hg:(if f.Packed=true then (some (f.Repeated&&kNum f.Kind)>>=fun rv4=>some (!rv4)) else some false)=some (decide (f.Packed=true/\¬(f.Repeated=true/\kNum f.Kind=true))):=by
  cases f.Packed<;>cases f.Repeated<;>cases kNum f.Kind<;>rfl
 rw [hg,sb];by_cases h6:f.Packed=true/\¬(f.Repeated=true/\kNum f.Kind=true)
 ·have hF:zei n prev f=10:=by unfold zei;rw [xw h1,xw h2,xw h3,xw h4,xw h5,xx h6]
  rw [hF,hz 10 _ _ (by decide),itT (ya h6)]
 rw [itF (yb h6),zJF,sb];by_cases h7:f.Kind=17/\(f.Of<0\/f.Of>=n)\/f.Kind≠17/\f.Of≠0
 ·have hF:zei n prev f=11:=by unfold zei;rw [xw h1,xw h2,xw h3,xw h4,xw h5,xw h6,xx h7]
  rw [hF,hz 11 _ _ (by decide),itT (by rw [yb (fun h=>h h7)];rfl)]
 have hF:zei n prev f=0:=by unfold zei;rw [xw h1,xw h2,xw h3,xw h4,xw h5,xw h6,xw h7]
 rw [hF,xx rfl,itF (by rw [ya h7];rfl)]
theorem zFs {n:Int} {nm:List (zm×Bool)} {nu:List (zn×Bool)} {prev:List Mes} {m:Mes} (hm:m.Name.length<=1152921504606846976) (hN:hasN nm (-1) m.Name=prev.any fun g=>g.Name==m.Name):
  zge ⟨n,K17,nm,nu⟩ m=some (if zdc m.Name=false then (2,nm,nu) else if (prev.any fun g=>g.Name==m.Name)=true then (3,nm,nu) else if 200<m.Fields.length then (4,nm,nu) else (0,mput nm ⟨-1,m.Name⟩ true,nu)):=by
 unfold zge;rw [zAr hm,sb];have e1:(mget nm (⟨(-1),m.Name⟩:zm)).getD false=hasN nm (-1) m.Name:=rfl;simp only [e1,hN];by_cases h1:zdc m.Name=false
 ·rw [xx h1,itT (show (!zdc m.Name)=true by rw [h1];rfl)]
 rw [xw h1,itF (show (!zdc m.Name)=false by simpa using h1)];by_cases h2:(prev.any fun g=>g.Name==m.Name)=true
 ·rw [xx h2,itT h2]
 have h2':(prev.any fun g=>g.Name==m.Name)=false:=pS h2;rw [xw h2,itF h2'];by_cases h3:200<m.Fields.length
 ·rw [xx h3,itT (show decide ((m.Fields.length:Int)>200)=true by simp;omega)]
 rw [xw h3,itF (show decide ((m.Fields.length:Int)>200)=false by simp;omega)]
structure Met (nm:List (zm×Bool)) (nu:List (zn×Bool)) (i:Nat) (prev:List Mes) (p:List Fld):Prop where
 mes:∀n,hasN nm (-1) n=prev.any fun g=>g.Name==n
 nam:∀n,hasN nm i n=p.any fun g=>g.Name==n
 num:∀n,hasU nu i n=p.any fun g=>g.Number==n
 later:∀(j:Nat) n,i<j->hasN nm j n=false
 laterU:∀(j:Nat) n,i<j->hasU nu j n=false
theorem Met.step (h:Met nm nu i prev p) (f:Fld):Met (mput nm ⟨i,f.Name⟩ true) (mput nu ⟨i,f.Number⟩ true) i prev (p++[f]):=by
 refine ⟨fun n=>?_,fun n=>?_,fun n=>?_,fun j n hj=>?_,fun j n hj=>?_⟩
 ·rw [zpL,h.mes,yb (by omega),q7]
 ·rw [zpL,h.nam,pz,Bool.or_comm];congr 1;simp only [q8,List.any_nil,qM];rw [yB];simp;exact eq_comm
 ·rw [zDh,h.num,pz,Bool.or_comm];congr 1;simp only [q8,List.any_nil,qM];rw [yB];simp;exact eq_comm
 ·rw [zpL,h.later j n hj,yb (by omega)];rfl
 ·rw [zDh,h.laterU j n hj,yb (by omega)];rfl
theorem zIL (hb:m.Fields.length<=140737488351232) (hn:∀f∈m.Fields,f.Name.length<=140737488351232):
  ∀(l:List Fld) (k:Nat) (nm:List (zm×Bool)) (nu:List (zn×Bool)),m.Fields.drop k=l->k<=m.Fields.length->Met nm nu i prev (m.Fields.take k)->
   (∃j w,msgF s.length (m.Fields.take k) l=some (j,w)/\zfv K17 s i m k nm nu=some (.inr ((j:Int),w)))\/
   (msgF s.length (m.Fields.take k) l=none/\∃nm' nu',zfv K17 s i m k nm nu=some (.inl (nm',nu'))/\Met nm' nu' i prev m.Fields):=by
 intro l
 induction l with
 | nil=>
  intro k nm nu hd hk hM;have:=zbx hd;have hkl:k=m.Fields.length:=by omega
  subst hkl;refine .inr ⟨rfl,nm,nu,znd ?_,by simpa using hM⟩;unfold zcH;rw [itF (by simp)]
 | cons f l ih=>
  intro k nm nu hd hk hM;obtain ⟨hi,hc,hd'⟩:=zba hd;have hf:=hn f (by rw [<-hc];exact xD hi);have hfld:=zIR (n:=(s.length:Int)) (i:=(i:Int)) (nm:=nm) (nu:=nu) (prev:=m.Fields.take k) (f:=f) (by omega) (hM.nam _) (hM.num _);have htk:m.Fields.take (k+1)=m.Fields.take k++[f]:=by rw [yx hi,hc]
  have hlen:(m.Fields.take k).length=k:=by simp;omega
  obtain ⟨bd,_⟩:=zye (s.length:Int) (m.Fields.take k) f;rw [msgF];by_cases h0:zei s.length (m.Fields.take k) f=0
  ·rw [xw (by omega)];rw [h0,xx rfl] at hfld;have hstep:zcH K17 s i m k nm nu=some (.inl (((k+1:Nat):Int),mput nm ⟨i,f.Name⟩ true,mput nu ⟨i,f.Number⟩ true)):=by
    unfold zcH;rw [uM,zI rfl hi,sb,hc,hfld,sb];dsimp only;rw [itF (show ((0:Int) !=0)=false from rfl),uO];rfl
   rw [zty hstep,<-htk];exact ih (k+1) _ _ hd' (by omega) (by rw [htk];exact hM.step f)
  ·rw [xx (by omega)];rw [xw h0] at hfld;refine .inl ⟨k,_,by rw [hlen],znd ?_⟩;unfold zcH;rw [uM,zI rfl hi,sb,hc,hfld,sb];dsimp only;rw [itT (show (zei (s.length:Int) (m.Fields.take k) f !=0)=true by simpa using h0)]
theorem zIK {s:List Mes} (hw:WS s):∀(l:List Mes) (i:Nat) (nm:List (zm×Bool)) (nu:List (zn×Bool)),s.drop i=l->i<=s.length->Met nm nu i (s.take i) []->
  zhw K17 s i nm nu=some (match chkF s.length (s.take i) l with| some (j,k,w)=> .inr ((j:Int),k,w)| none=> .inl ()):=by
 intro l
 induction l with
 | nil=>
  intro i nm nu hd hi hM;have:=zbx hd;refine zgA ?_;unfold zbG;rw [uN];rfl
 | cons m l ih=>
  intro i nm nu hd hi hM;obtain ⟨hil,hc,hd'⟩:=zba hd;obtain ⟨w1,w2⟩:=hw;obtain ⟨m1,m2,m3⟩:=w2 m (by rw [<-hc];exact xD hil);have hmes:=zFs (n:=(s.length:Int)) (nm:=nm) (nu:=nu) (prev:=s.take i) (m:=m) (by omega) (hM.mes _);have htk:s.take (i+1)=s.take i++[m]:=by rw [yx hil,hc]
  have hlen:(s.take i).length=i:=by simp;omega
  rw [chkF];by_cases h1:zdc m.Name=false
  ·rw [xx h1] at hmes|-;refine zgA ?_;unfold zbG;rw [uM,zI rfl hil,sb,hc,hmes,sb];dsimp only;rw [itT (show ((2:Int) !=0)=true from rfl),hlen]
  rw [xw h1] at hmes|-;by_cases h2:((s.take i).any fun g=>g.Name==m.Name)=true
  ·rw [xx h2] at hmes|-;refine zgA ?_;unfold zbG;rw [uM,zI rfl hil,sb,hc,hmes,sb];dsimp only;rw [itT (show ((3:Int) !=0)=true from rfl),hlen]
  rw [xw h2] at hmes|-;by_cases h3:200<m.Fields.length
  ·rw [xx h3] at hmes|-;refine zgA ?_;unfold zbG;rw [uM,zI rfl hil,sb,hc,hmes,sb];dsimp only;rw [itT (show ((4:Int) !=0)=true from rfl),hlen]
  rw [xw h3] at hmes|-;have hM0:Met (mput nm ⟨-1,m.Name⟩ true) nu i (s.take i++[m]) (m.Fields.take 0):=by
   refine ⟨fun n=>?_,fun n=>?_,fun n=>?_,fun j n hj=>?_,fun j n hj=>hM.laterU j n hj⟩
   ·rw [zpL,hM.mes,pz,Bool.or_comm];congr 1;simp only [q8,List.any_nil,qM];rw [yB];simp;exact eq_comm
   ·rw [zpL,hM.nam,yb (by omega)];rfl
   ·rw [hM.num];rfl
   ·rw [zpL,hM.later j n hj,yb (by omega)];rfl
  have hl2:=zIL (s:=s) (i:=i) m2 m3 m.Fields 0 _ nu rfl (by omega) hM0;simp only [yE] at hl2;rcases hl2 with ⟨j,w,g1,g2⟩| ⟨g1,nm',nu',g2,g3⟩
  ·rw [g1];refine zgA ?_;unfold zbG;have g2':zfv K17 s i m 0 (mput nm ⟨-1,m.Name⟩ true) nu=_:=g2;rw [uM,zI rfl hil,sb,hc,hmes,sb];dsimp only;rw [itF (show ((0:Int) !=0)=false from rfl),g2',sb];simp only [hlen]
  ·rw [g1];have hstep:zbG K17 s i nm nu=some (.inl (((i+1:Nat):Int),nm',nu')):=by
    unfold zbG;have g2':zfv K17 s i m 0 (mput nm ⟨-1,m.Name⟩ true) nu=_:=g2;rw [uM,zI rfl hil,sb,hc,hmes,sb];dsimp only;rw [itF (show ((0:Int) !=0)=false from rfl),g2',sb];dsimp only;rw [uO];rfl
   rw [ztx hstep];simp only [];rw [<-htk];refine ih (i+1) nm' nu' hd' (by omega) ⟨fun n=>?_,fun n=>?_,fun n=>?_,fun j n hj=>g3.later j n (by omega),fun j n hj=>g3.laterU j n (by omega)⟩
   ·rw [htk];exact g3.mes n
   ·rw [g3.later (i+1) n (by omega)];rfl
   ·rw [g3.laterU (i+1) n (by omega)];rfl
theorem zIJ (hw:WS s):zlA s=some (⟨(zlo s).1,(zlo s).2.1,(zlo s).2.2⟩,if (zlo s).2.2=0 then 0 else 9):=by
 unfold zlA zlo;by_cases h:s.length=0\/100<s.length
 ·rw [uM,xx h];rfl
 ·rw [uN,xw h,zLg,sb];have hl:=zIK hw s 0 [] [] rfl (by omega) ⟨fun n=>rfl,fun n=>rfl,fun n=>rfl,fun j n _=>rfl,fun j n _=>rfl⟩;simp only [yE] at hl;have hl':zhw [1,2,3,4,5,6,7,8,9,10,11,12,13,14,15,16,17] s 0 [] []=_:=hl;rw [hl',sb];cases hc:chkF s.length [] s with
  | none=>rfl
  | some q=>
   obtain ⟨i,k,w⟩:=q;have:=zGc _ _ _ _ _ _ hc;simp only;rw [xw (by omega)]
theorem znW (hw:WS s):zgE s=some (zeS s):=by
 unfold zgE zeS;rw [zIJ hw,sb];by_cases h:(zlo s).2.2=0<;>simp [h]
abbrev PVw:=znz
theorem zBb (t:zce):zqe t=some (zjM t.Number t.Wire):=by
 have e:zkE t.Wire=some (decide (t.Wire=0\/t.Wire=1\/t.Wire=2\/t.Wire=5)):=by
  unfold zkE;by_cases h0:t.Wire=0
  ·simp [h0]
  by_cases h1:t.Wire=1
  ·simp [h1]
  by_cases h2:t.Wire=2
  ·simp [h2]
  by_cases h5:t.Wire=5
  ·simp [h5]
  simp [h0,h1,h2,h5]
 unfold zqe zjM;rw [e];by_cases h1:1<=t.Number
 ·by_cases h2:t.Number<=536870911
  ·rw [itT (by simpa using h1),itT (by simpa using h2),sb,sb];simp [h1,h2]
  ·rw [itT (by simpa using h1),itF (by simpa using h2),sb];simp [h2]
 ·rw [itF (by simpa using h1),sb];simp [h1]
theorem zMP (w:Nat) (h:w<18446744073709551616):andI .u64 (w:Int) 7=((w%8:Nat):Int):=by
 have e:=zCC (k:= .u64) rfl (a:=w) (b:=7) (by simpa [IntKind.bits] using h) (by simp [IntKind.bits]);have e2:w&&&7=w%8:=uG w 3;rw [e2] at e;exact e
theorem zNs (w:Nat):shrI .u64 (w:Int) 3=((w/8:Nat):Int):=zEf (k:= .u64) (a:=w) (b:=3) (by simp [IntKind.bits])
theorem zKx (b:List UInt8):zsC b=some ((⟨(tg b).1,(tg b).2.1⟩:zce),(tg b).2.2.1,(tg b).2.2.2):=by
 obtain ⟨h1,h2,h3,h4,h5,h6,h7⟩:=zmc b;unfold zsC tg;rw [zBW,sb];by_cases h:(rd b).2.2=0
 ·rw [itF (by simpa using h)];obtain ⟨w,hw⟩:∃w:Nat,(rd b).1=w:=⟨(rd b).1.toNat,by omega⟩;rw [hw] at h2|-;rw [zNs,zMP w (by omega)];have e0:IntKind.i64.wrap ((w%8:Nat):Int)=(w:Int)%8:=by rw [uO];omega
  by_cases hg:4294967295<w
  ·have e1:IntKind.i64.wrap (if (536870912:Int)<((w/8:Nat):Int) then 536870912 else ((w/8:Nat):Int))=536870912:=by
    split
    ·rfl
    ·rw [uO];omega
   rw [e0,e1,zBb,sb];have e2:zjM 536870912 ((w:Int)%8)=false:=by simp [zjM]
   simp only [e2];rw [itT (by rfl),zsD h (.inl (by rw [hw];omega))]
  ·have e1:IntKind.i64.wrap (if (536870912:Int)<((w/8:Nat):Int) then 536870912 else ((w/8:Nat):Int))=(w:Int)/8:=by
    rw [xw (by omega),uO];omega
   rw [e0,e1,zBb,sb];simp only;cases ht:zjM ((w:Int)/8) ((w:Int)%8)
   ·rw [itT (by rfl),zsD h (.inr (by rw [hw];exact ht))]
   ·rw [itF (by rfl),zFN h (by rw [hw,ht];simp;omega),hw]
 ·rw [itT (by simpa using h),zCq h]
theorem zLz (hw:w=0\/w=1\/w=2\/w=5) (hb:b.length<=1048576):
  zmI w b=some (match ziW w 0 b with| .inl c=>(0,(if w=0 then (rd b).2.1 else 0),c)| .inr (a,t)=>((a:Int),(t:Int),0)):=by
 obtain ⟨h1,h2,h3,h4,h5,h6,h7⟩:=zmc b;unfold zmI ziW;rcases hw with rfl| rfl| rfl| rfl
 ·rw [itT (by rfl),zLx,sb,xx rfl];by_cases h:(rd b).2.2=0
  ·rw [xw (by simpa using h)];simp only [h,xH];congr 3;simp;omega
  ·rw [xx h];rfl
 ·rw [itF (by rfl),itT (by rfl),sb,itF (by rfl),xw (show ¬((1:Int)=0) by omega),xw (show ¬((1:Int)=2) by omega)];simp only;have e:IntKind.u64.wrap (IntKind.i64.wrap ((b.length:Int) - 0))=(b.length:Int):=by rw [uO,zkI];omega
  rw [e];by_cases g:b.length<8
  ·rw [uM,xx (by simpa using g)];rfl
  ·rw [uN,xw (by simpa using g)];rfl
 ·rw [itF (by rfl),itF (by rfl),itF (by rfl),itT (by rfl),zBW,sb,sb,xw (show ¬((2:Int)=0) by omega),xx (show (2:Int)=2 from rfl)];by_cases h:(rd b).2.2=0
  ·have hk:=h7 h;rw [itF (by simpa using h),xw (show ¬((rd b).2.2≠0) from fun g=>g h)];simp only;have e:IntKind.u64.wrap (IntKind.i64.wrap ((b.length:Int) - (rd b).2.1))=(b.length:Int) - (rd b).2.1:=by rw [uO,zkI];omega
   rw [e];by_cases g:(b.length:Int) - (rd b).2.1<(rd b).1
   ·rw [itT (by simpa using g),xx g];rfl
   ·rw [itF (by simpa using g),xw g,zt (x:=(rd b).1) (by omega),uO];simp;omega
  ·rw [itT (by simpa using h),xx h];rfl
 ·rw [itF (by rfl),itF (by rfl),itT (by rfl),sb,itF (by rfl),xw (show ¬((5:Int)=0) by omega),xw (show ¬((5:Int)=2) by omega)];simp only;have e:IntKind.u64.wrap (IntKind.i64.wrap ((b.length:Int) - 0))=(b.length:Int):=by rw [uO,zkI];omega
  rw [e];by_cases g:b.length<4
  ·rw [uM,xx (by simpa using g)];rfl
  ·rw [uN,xw (by simpa using g)];rfl
theorem zCN (w:Int) (k:Nat) (m:List UInt8):ziW w k m=match ziW w 0 m with| .inl c=> .inl c| .inr (a,t)=> .inr (k+a,k+t):=by
 unfold ziW
 repeat' split
 all_goals first
  | rfl
  | (rename_i h1 h2;injection h2 with h3;injection h3 with h4 h5;subst h4 h5;simp<;>omega)
  | simp_all<;>omega
theorem zLp (hb:b.length<=1048576) (at5:Int):zmH b at5=some (zuZ b at5):=by
 unfold zmH zuZ;by_cases h:at5<0\/at5>=b.length
 ·rw [itT (by simpa using h),xx h];rfl
 ·rw [itF (by simpa using h),xw h];obtain ⟨p,rfl⟩:∃p:Nat,at5=p:=⟨at5.toNat,by omega⟩;rw [zyc rfl rfl (by omega),sb,zKx,sb,yk];have hdl:(b.drop p).length=b.length - p:=by simp
  rcases zzq (b.drop p) with ⟨c,ht,hc⟩| ⟨n,w,k,ht,hr,k1,k2,k3,hrd⟩
  ·have e:rec5 (b.drop p)= .inl c:=by unfold rec5;rw [ht,xx (by simp only;omega)]
   rw [e,ht,uM];rfl
  ·obtain ⟨k,rfl⟩:∃j:Nat,k=j:=⟨k.toNat,by omega⟩
   have e:rec5 (b.drop p)=match ziW w k ((b.drop p).drop k) with
    | .inl c=> .inl c
    | .inr p=> .inr (n,w,p.1,p.2):=by unfold rec5;rw [ht];simp<;>rfl
   have hdd:(b.drop p).drop k=b.drop (p+k):=by rw [qG]
   have hml:(b.drop (p+k)).length=b.length - (p+k):=by simp
   have ew:IntKind.i64.wrap ((p:Int)+k)=((p+k:Nat):Int):=by rw [uO];push_cast;rfl
   rw [e,ht,itF (by simp),hdd];simp only [ew];rw [zyc rfl rfl (by omega),sb,zLz (zzo.1 hr).2.2 (by omega),sb,zCN w k];rcases zwv w 0 (b.drop (p+k)) with ⟨c,hc,hc2⟩| ⟨a,t,hc,_,_,hle,_⟩
   ·rw [hc];simp only;rw [uM];rfl
   ·rw [hc];simp only;rw [itF (by rfl),uO,uO];simp only [yo,qg,zB.mk.injEq,q9,and_true];push_cast;omega
abbrev Head:=zzC
abbrev Role:=zzB
def rol (m:Mes) (h:Head):Role:=match vw m h.number h.wire with
 | .inl c=>⟨0,false,c⟩
 | .inr (i,run)=>⟨i,run,0⟩
def zCy (m:Mes) (met:List (Head×Role)):Prop:=∀h x,mget met h=some x->x=rol m h
theorem zCy.nil (m:Mes):zCy m []:=fun h x g=>by cases g
theorem zCy.put (g:zCy m met) (h:Head):zCy m (mput met h (rol m h)):=fun j x hx=>by
 rw [zed] at hx;by_cases e:j=h
 ·rw [xx e] at hx;rw [e];exact (qF hx).symm
 ·rw [xw e] at hx;exact g j x hx
abbrev zEy:=zlJ
def zCz (s:List Mes) (met:List (zEy×PVw)):Prop:=∀h x,mget met h=some x->vw (zH s h.message) h.number h.wire= .inr (x.Field,x.Run)
theorem zCz.nil (s:List Mes):zCz s []:=fun h x g=>by cases g
theorem zCz.put (g:zCz s met) (hv:vw (zH s h.message) h.number h.wire= .inr (v.Field,v.Run)):zCz s (mput met h v):=fun j x hx=>by
 rw [zed] at hx;by_cases e:j=h
 ·rw [xx e] at hx;cases hx;rw [e];exact hv
 ·rw [xw e] at hx;exact g j x hx
theorem zKD (hw:WS s) (root d:Int):zog s root d=some (argS s root d):=by
 unfold zog argS;rw [znW hw,sb];cases h:zeS s
 ·rw [itT (c:= !false) rfl,xx (show false=false from rfl)]
 ·rw [itF (c:= !true) rfl,xw (show ¬(true=false) by simp)];by_cases h2:root<0\/root>=s.length\/d<0\/d>64
  ·rw [itT (by simpa using h2),xx h2]
  ·rw [uN,xw h2]
theorem zox (hm:m.Fields.length<=140737488351232) (n:Int):zfu m n=some (match m.Fields.findIdx? (fun f=>f.Number==n) with| some i=>((i:Int),true)| none=>(0,false)):=by
 unfold zfu zdy zaA;have h:=zsR (fun f:Fld=>f.Number==n) m.Fields (fun i=>zZ m.Fields n i) (zcd (by unfold zA;rw [itF (by simp)])) (fun i hi=>by
  by_cases hp:(m.Fields[i].Number==n)=true
  ·rw [xx hp];exact zcd (by unfold zA zhM;rw [uM,zI rfl hi,sb,sb,itT hp])
  ·rw [xw hp];exact zeK (by unfold zA zhM;rw [uM,zI rfl hi,sb,sb,itF (pS hp),uO];rfl)) m.Fields.length 0 (by omega) (fun j _ h=>by omega)
 have h':zZ m.Fields n 0=_:=h;rw [h',sb];cases m.Fields.findIdx? (fun f:Fld=>f.Number==n) with
 | none=>rfl
 | some i=>simp [sb];omega
theorem znC {α:Type} (p:α->Bool) (l:List α) (F:Int->Option (Unit⊕Unit)) (h0:F (l.length:Int)=some (.inl ())) (hs:∀(i:Nat) (h:i<l.length),F (i:Int)=if p l[i]=true then F ((i+1:Nat):Int) else some (.inr ())):
  ∀(c i:Nat),i+c=l.length->F (i:Int)=some (if (l.drop i).all p=true then .inl () else .inr ())
 | 0,i,h=>by
  have e:l.drop i=[]:=yg (by omega);have hi:i=l.length:=by omega
  rw [e,hi,h0];simp
 | c+1,i,h=>by
  rw [hs i (by omega),xS (by omega),yr];cases hp:p l[i]
  ·rw [xw (by simp)];simp
  ·rw [xx rfl,xQ];exact znC p l F h0 hs c (i+1) (by omega)
theorem zIg (hb:v.Words.length<=140737488351232/\v.Texts.length<=140737488351232/\v.Subs.length<=140737488351232):zhR v=some ((zcb v:Nat):Int):=by
 unfold zhR zcb;rw [zt (x:=(v.Words.length:Int)+(v.Texts.length:Int)) (by omega),uO];push_cast;rfl
theorem zCH (hl:l.length<=1152921504606846976) (h:∀t∈l,t.length<=140737488351232):zkF l=some (l.all zmU):=by
 unfold zkF;have h1:=znC zmU l (fun i=>zgP l i) (by
   refine zmL ?_;unfold zcP;rw [itF (by simp)])
  (fun i hi=>by
   have hx:=h _ (xD hi);have e:lenO l[i]=some l[i]:=by unfold lenO;rw [xx (by omega)]
   cases hp:zmU l[i]
   ·rw [xw (by simp)];refine zmL ?_;unfold zcP;rw [uM,zI rfl hi,sb,e,sb,zBc (by omega),sb,hp,itT (by rfl)]
   ·rw [xx rfl];refine zsI ?_;unfold zcP;rw [uM,zI rfl hi,sb,e,sb,zBc (by omega),sb,hp,itF (by rfl),uO];push_cast;rfl)
  l.length 0 (xH _)
 have h1':zgP l 0=_:=h1;rw [h1',sb,xW];cases l.all zmU<;>rfl
theorem zCF (hl:l.length<=1152921504606846976) (h:∀w∈l,0<=w/\w<=18446744073709551615):zhS k l=some (l.all fun w=>kNum k&&zkl k w==w):=by
 unfold zhS;have h1:=znC (fun w=>kNum k&&zkl k w==w) l (fun i=>zeM k l i) (by
   refine zic ?_;unfold zaZ;rw [itF (by simp)])
  (fun i hi=>by
   have hx:=h _ (xD hi);cases hk:kNum k
   ·rw [yJ,xw (by simp)];refine zic ?_;unfold zaZ;rw [uM,zI rfl hi,sb,zvS k hx,sb,hk,itT (by rfl)]
   ·rw [xQ];by_cases hp:zkl k l[i]=l[i]
    ·rw [xx (by simpa using hp)];refine zpv ?_;unfold zaZ;rw [uM,zI rfl hi,sb,zvS k hx,sb,hk,itF (by simp [hp]),uO];push_cast;rfl
    ·rw [xw (by simpa using hp)];refine zic ?_;unfold zaZ;rw [uM,zI rfl hi,sb,zvS k hx,sb,hk,itT (by simp [hp])])
  l.length 0 (xH _)
 have h1':zeM k l 0=_:=h1;rw [h1',sb,xW];cases l.all (fun w=>kNum k&&zkl k w==w)<;>rfl
theorem zJi (hm:m.Fields.length<=140737488351232) (hu:u.length<=1048576):zjO m u=some (unkR m u):=by
 unfold zjO unkR;have e:lenO u=some u:=by unfold lenO;rw [xx (by omega)]
 rw [e,sb,zLp hu,sb]
 generalize zuZ u 0=r
 by_cases c1:r.2=0
 ·by_cases c2:r.1.To=(u.length:Int)
  ·rw [itF (by simp [c1,c2]),zox hm,sb];have hf:fldI m r.1.Number=zlq (fun f:Fld=>f.Number==r.1.Number) m.Fields:=rfl;rw [hf];cases h:m.Fields.findIdx? (fun f:Fld=>f.Number==r.1.Number) with
   | none=>rw [ziF h];simp [c1,c2]
   | some i=>rw [ziG h];simp [c1,c2]
  ·rw [itT (by simp [c2])];simp [c2]
 ·rw [itT (by simp [c1])];simp [c1]
theorem zBi {α:Type} {p:α->Bool} (h:∀x,p x=false) (l:List α):l.all p=l.isEmpty:=by
 cases l with
 | nil=>rfl
 | cons x l=>rw [yr,h];rfl
theorem zrV {α:Type} (l:List α):l.isEmpty=decide (l.length=0):=by cases l<;>simp
theorem zzu {s:List Mes} (hs:zeZ s):∀(fuel:Nat),(∀(x:Msg) (k:Nat),k<s.length->2*szM x<fuel->bdM x->smM x->zfi fuel s k x=some (zao s x k))/\
  (∀(v:Vlu) (f:Fld),2*szV v<fuel->bdV v->smV v->zjn fuel f s v=some (zhl s v f))/\
  ∀(l:List Msg) (k:Int),2*szMs l+1<fuel->l.length<=1152921504606846976->bdMs l->smMs l->ziw fuel s k l=some (decide (0<=k/\k<s.length)&&l.all fun x=>zao s x k)
 | 0=>⟨fun x k _ h=>by omega,fun v f h=>by omega,fun l k h=>by omega⟩
 | fuel+1=>by
  obtain ⟨ih1,ih2,ih3⟩:=zzu hs fuel;have hlen:=hs.len;refine ⟨fun x k hk hsz hb hsm=>?_,fun v f hsz hb hsm=>?_,fun l k hsz hl hb hsm=>?_⟩
  ·obtain ⟨b1,⟨b2,b3⟩,b4⟩:=(zdK x).1 hb;obtain ⟨s1,⟨s2,s3⟩,s4⟩:=(zgF x).1 hsm;rw [zcy] at hsz;show ziy (ziw fuel) (zjn fuel) (zfi fuel) s k x=_;unfold ziy;rw [znu,ya (show (0:Int)<=(k:Int)/\(k:Int)<(s.length:Int) by omega),xQ];have hm:idx s (k:Int)=some (zH s k):=by rw [zI rfl hk,zeH hk]
   have hmm:zH s (k:Int)∈s:=by rw [zeH hk];exact xD hk
   have hfew:=hs.few _ hmm;have hfld:=hs.fld _ hmm
   generalize zH s (k:Int)=m at hm hmm hfew hfld|-
   rw [hm,sb];have hv:∀(c i:Nat) (p:Option Int) (last:Int),i+c=x.Values.length->(p=none/\last=0\/p=some last)->zgq (zjn fuel) s x m last i=some (if zhk s (x.Values.drop i) m p=true then .inl () else .inr ()):=by
    intro c
    induction c with
    | zero=>
     intro i p last hi _;have e:x.Values.drop i=[]:=yg (by omega);rw [e,zhk,xx rfl];refine zlN ?_;unfold zcz;rw [uN]
    | succ c ih=>
     intro i p last hi hp;have hil:i<x.Values.length:=by omega
     have hx:idx x.Values (i:Int)=some x.Values[i]:=zI rfl hil;have hmem:=xD hil;have z1:=zdE hmem;have hbv:=zcF.1 b4 _ hmem;have hsv:=zhP.1 s4 _ hmem;rw [xS hil,zhk]
     generalize x.Values[i]=v at hx hmem z1 hbv hsv|-
     have hw1:IntKind.i64.wrap ((i:Int)+1)=((i+1:Nat):Int):=by rw [uO];push_cast;rfl
     have hbody:zcz (zjn fuel) s x m last i=if (decide (0<=fldI m v.Number)&&p.all (fun q=>decide (q<v.Number))&&zhl s v (zae m (fldI m v.Number)))=true then some (.inl (v.Number,((i+1:Nat):Int))) else some (.inr (.inr ())):=by
      unfold zcz;rw [uM,hx,sb,zox (by omega),sb];have hf:fldI m v.Number=zlq (fun f:Fld=>f.Number==v.Number) m.Fields:=rfl;cases h:m.Fields.findIdx? (fun f:Fld=>f.Number==v.Number) with
      | none=>
       rw [hf,ziF h,itT (by rfl),sb,itT (by rfl),xw (by simp)]
      | some j=>
       rw [hf,ziG h];have hjs:=qH.1 h;obtain ⟨hj,hjn,_⟩:=hjs;have hjn':(m.Fields[j]).Number=v.Number:=by simpa using hjn
       have hlo:=(hfld _ (xD hj)).lo;have hfj:idx m.Fields (j:Int)=some (zae m (j:Int)):=by rw [zI rfl hj,zjI hj]
       have hfit:=ih2 v (zae m (j:Int)) (by omega) hbv hsv;have hpl:p.all (fun q=>decide (q<v.Number))=decide (last<v.Number):=by
        rcases hp with ⟨rfl,rfl⟩| rfl
        ·rw [ya (show (0:Int)<v.Number by omega)];rfl
        ·rfl
       rw [itF (by rfl),hpl,ya (show (0:Int)<=(j:Int) by omega),xQ];by_cases hlt:last<v.Number
       ·rw [itF (by simpa using hlt),ya hlt,xQ];simp only;rw [hfj,sb,hfit,sb,sb];cases hfv:zhl s v (zae m (j:Int))
        ·rw [itT (by rfl),xw (by simp)]
        ·rw [itF (by rfl),xx rfl,hw1]
       ·rw [uM,sb,itT (by rfl),yb hlt,xw (by simp)]
     generalize (decide (0<=fldI m v.Number)&&p.all (fun q=>decide (q<v.Number))&&zhl s v (zae m (fldI m v.Number)))=bb at hbody|-
     cases bb
     ·rw [xw (by simp)] at hbody;rw [zlN hbody,yJ,xw (by simp)]
     ·rw [xx rfl] at hbody;rw [zru hbody,ih _ (some v.Number) v.Number (by omega) (.inr rfl),xQ]
   have h1:=hv x.Values.length 0 none 0 (xH _) (.inl ⟨rfl,rfl⟩);have h1':zgq (zjn fuel) s x m 0 0=_:=h1;rw [xW] at h1';rw [h1',sb];cases hrv:zhk s x.Values m none
   ·rw [xw (by simp)];rfl
   ·rw [xx rfl,xQ];simp only;have h2:=znC (unkR m) x.Unknown (fun i=>zgr x m i) (by
      refine zlO ?_;unfold zcA;rw [itF (by simp)])
     (fun i hi=>by
      have hu:=zJi (m:=m) (by omega) (s3 _ (xD hi));cases hun:unkR m x.Unknown[i]
      ·rw [xw (by simp)];refine zlO ?_;unfold zcA;rw [uM,zI rfl hi,sb,hu,sb,hun,itT (by rfl)]
      ·rw [xx rfl];refine zrv ?_;unfold zcA;rw [uM,zI rfl hi,sb,hu,sb,hun,itF (by rfl),uO];push_cast;rfl)
     x.Unknown.length 0 (xH _)
    have h2':zgr x m 0=_:=h2;rw [h2',sb,xW];cases x.Unknown.all (unkR m)<;>rfl
  ·obtain ⟨_,⟨b1,b1'⟩,⟨b2,b3⟩,b4,b5⟩:=(zeP v).1 hb;obtain ⟨s1,⟨s2,s3⟩,s4,s5⟩:=(zmW v).1 hsm;rw [zfR] at hsz;show zmM (ziw fuel) (zjn fuel) (zfi fuel) f s v=_;unfold zmM;rw [zIg ⟨by omega,by omega,by omega⟩,sb,zuM,znV];have hmany:zcb v=v.Words.length+v.Texts.length+v.Subs.length:=rfl;by_cases h0:zcb v=0\/1<zcb v/\f.Repeated=false
   ·have hmr:zra f v=false:=by
     unfold zra;rcases h0 with h0| ⟨h0,h1⟩
     ·simp [h0]
     ·rw [h1];simp;omega
    rw [hmr,itT (by
     rcases h0 with h0| ⟨h0,h1⟩
     ·simp [h0]
     ·rw [h1];simp;omega)]
    rfl
   ·have hmr:zra f v=zfM f.Kind:=by
     unfold zra;rw [ya (show 0<zcb v by omega),xQ];cases hr:f.Repeated
     ·rw [hr] at h0;rw [ya (show zcb v<=1 by simp at h0;omega)];rfl
     ·simp
    rw [hmr,itF (by
     cases hr:f.Repeated
     ·rw [hr] at h0;simp at h0|-;omega
     ·simp;omega)]
    have hW:kNum f.Kind=false->v.Words.all (zoP f)=decide (v.Words.length=0):=fun h=>by
     rw [zBi (fun w=>by unfold zoP;rw [h];rfl),zrV]
    have hT:f.Kind≠15->f.Kind≠16->v.Texts.all (zoe f)=decide (v.Texts.length=0):=fun h1 h2=>by
     rw [zBi (fun t=>by unfold zoe;simp [h1,h2]),zrV]
    have hS:f.Kind≠17->(v.Subs.all fun x=>f.Kind==17&&zao s x f.Of)=decide (v.Subs.length=0):=fun h=>by
     rw [zBi (fun x=>by simp [h]),zrV]
    by_cases k15:f.Kind=15
    ·rw [itT (by simp [k15]),hW (by rw [k15];rfl),hS (by omega)];have hkr:zfM f.Kind=true:=by rw [k15];rfl
     rw [hkr,xQ];by_cases hl:v.Words.length=0/\v.Subs.length=0
     ·rw [uM,zCH (by omega) b3,sb,sb,ya hl.1,ya hl.2,xQ,py];have:v.Texts.all (zoe f)=v.Texts.all zmU:=by
       congr 1;funext t;unfold zoe;simp [k15]
      rw [this]
     ·rw [uN,sb];congr 1
      symm
      by_cases hw0:v.Words.length=0
      ·rw [yb (show ¬v.Subs.length=0 by omega),pd]
      ·rw [yb hw0,yJ,yJ]
    ·rw [itF (by simp [k15])];by_cases k16:f.Kind=16
     ·rw [itT (by simp [k16]),hW (by rw [k16];rfl),hS (by omega)];have hkr:zfM f.Kind=true:=by rw [k16];rfl
      have hta:v.Texts.all (zoe f)=true:=by rw [xG];intro t _;unfold zoe;simp [k16]
      rw [hkr,hta,xQ,py];congr 1;rw [<-Bool.decide_and];rw [yB];simp only [pR,xN];omega
     ·rw [itF (by simp [k16])];by_cases k17:f.Kind=17
      ·rw [itT (by simp [k17]),hW (by rw [k17];rfl),hT k15 k16];have hkr:zfM f.Kind=true:=by rw [k17];rfl
       rw [hkr,xQ];have hsub:(v.Subs.all fun x=>f.Kind==17&&zao s x f.Of)=v.Subs.all fun x=>zao s x f.Of:=by
        congr 1;funext x;simp [k17]
       rw [hsub];by_cases hl:v.Words.length=0/\v.Texts.length=0
       ·rw [uM,ih3 v.Subs f.Of (by omega) (by omega) b5 s5,sb,sb,ya hl.1,ya hl.2,xQ,xQ];by_cases hof:0<=f.Of/\f.Of<s.length
        ·rw [ya hof,xQ]
        ·rw [yb hof,yJ];congr 1
         symm
         have hne:v.Subs≠[]:=fun e=>h0 (.inl (by rw [hmany,hl.1,hl.2,e];rfl))
         obtain ⟨x,l,hxl⟩:=qO hne;rw [hxl,yr,znu,yb hof];rfl
       ·rw [uN,sb];congr 1
        symm
        by_cases hw0:v.Words.length=0
        ·rw [yb (show ¬v.Texts.length=0 by omega),pd,yJ]
        ·rw [yb hw0,yJ,yJ]
      ·rw [itF (by simp [k17]),hT k15 k16,hS k17];have hck:(v.Words.all fun w=>kNum f.Kind&&zkl f.Kind w==w)=v.Words.all (zoP f):=rfl;by_cases hl:v.Texts.length=0/\v.Subs.length=0
       ·rw [uM,zCF (by omega) b1',sb,sb,ya hl.1,ya hl.2,py,py,hck];congr 1;cases hkn:kNum f.Kind
        ·rw [hW hkn,yb (show ¬v.Words.length=0 by omega),pd]
        ·have hkr:zfM f.Kind=true:=by
          rw [zJr] at hkn;unfold zfM;simp;omega
         rw [hkr,xQ]
       ·rw [uN,sb];congr 1
        symm
        by_cases hw0:v.Texts.length=0
        ·rw [yb (show ¬v.Subs.length=0 by omega),pd]
        ·rw [yb hw0,pd,yJ]
  ·show zhf (ziw fuel) (zjn fuel) (zfi fuel) s k l=_;unfold zhf;by_cases hk:0<=k/\k<s.length
   ·rw [uN,ya hk,xQ];obtain ⟨n,rfl⟩:∃n:Nat,k=n:=⟨k.toNat,by omega⟩;have h1:=znC (fun x=>zao s x n) l (fun i=>zfq l n (zfi fuel) s i) (by
      refine zlh ?_;unfold zbK;rw [itF (by simp)])
     (fun i hi=>by
      have hm:=xD hi;have z1:=zfh hm;have hr:=ih1 l[i] n (by omega) (by omega) (zdz.1 hb _ hm) (zhO.1 hsm _ hm);cases hp:zao s l[i] n
      ·rw [xw (by simp)];refine zlh ?_;unfold zbK;rw [uM,zI rfl hi,sb,hr,sb,hp,itT (by rfl)]
      ·rw [xx rfl];refine zqg ?_;unfold zbK;rw [uM,zI rfl hi,sb,hr,sb,hp,itF (by rfl),uO];push_cast;rfl)
     l.length 0 (xH _)
    have h1':zfq l n (zfi fuel) s 0=_:=h1;rw [h1',sb,xW];cases l.all (fun x=>zao s x n)<;>rfl
   ·rw [uM,yb hk];rfl
theorem zFP (root:Int) (hf:2*szM x<fuel) (hw:WS s) (hb:bdM x) (hsm:smM x) (hd:dM x<=131072):zmg fuel s root x=some (zeS s&&zao s x root):=by
 unfold zmg;rw [zKD hw,sb];by_cases h0:argS s root 0=0
 ·obtain ⟨hr,g1,g2,_,_⟩:=zHg h0;have hrs:zeS s=true:=by
   unfold argS at h0;cases h:zeS s with
   | true=>rfl
   | false=>rw [h,xx rfl] at h0;cases h0
  obtain ⟨k,rfl⟩:∃k:Nat,root=k:=⟨root.toNat,by omega⟩;rw [itT (by simp [h0]),zzp (by omega) hb hd,sb,itT (by rfl),(zzu hr fuel).1 x k (by omega) hf hb hsm,sb,sb,hrs,xQ]
 ·rw [itF (by simp [h0]),sb];congr 1
  symm
  cases hrs:zeS s
  ·rfl
  ·rw [xQ,znu];unfold argS at h0;rw [xw (by rw [hrs];simp)] at h0;rw [yb (by split at h0<;>omega)];rfl
theorem zKw {fuel:Nat} {s:List Mes} (f:Fld) {v:Vlu} (hf:2*szV v+2<fuel) (hw:WS s) (hs:zeS s=true) (hb:bdV v) (hsm:smV v) (hd:dV v<=131072):znw fuel f s v=some (zhl s v f):=by
 unfold znw;rw [znW hw,sb,hs,itT (by rfl),zzp (by rw [zcy];simp only [szVs];omega) ((zdK _).2 ⟨by simp,⟨by simp,by simp⟩,by rw [bdVs,bdVs];exact ⟨hb,trivial⟩⟩) (by rw [zAg];simp only [dVs];omega),sb,itT (by rfl),(zzu (zwm hs) fuel).2.1 v f (by omega) hb hsm,sb,sb]
theorem zDI {κ ν:Type} [DecidableEq κ] (m:List (κ×ν)) (k:κ) (x:ν):(mput m k x).length<=m.length+1:=by
 have h:=congrArg List.length (znt m k x);rw [yQ] at h;rw [h];split<;>simp
theorem zrT (a b:List zz) (way:zz):hasB (a++b) way=(hasB a way|| hasB b way):=by unfold hasB;rw [pz]
theorem zKQ {a b:Bool} (h:a=true↔b=true):a=b:=by
 cases a<;>cases b<;>simp at h|-
theorem zHt {a:List zz} {w:zz} (h:w∈a) (hn:w≠[]):hasB a w=true:=zgz.2 ⟨w,h,hn,qL _⟩
theorem zMO {a:List zz} (h:WW a):WW (ofW a):=⟨yi (zGM _) h.1,fun w hm=>h.2 w (zml.1 hm).1⟩
def zFB (s:List Mes) (root:Int) (ways:List zz):List (List UInt8)×Int:=
 if zfa s root≠0 then ([],zfa s root) else if ofW ways=ways/\(ways.all fun w=>(zfB s root w).2)=true then (ways.map fun w=>(zfB s root w).1,0) else ([],10)
theorem zkL:∀{a b:zz},zdw a b=true↔lexI a b<0
 | [],[]=>by simp [zdw,lexI]
 | [],_::_=>by simp [zdw,lexI]
 | _::_,[]=>by simp [zdw,lexI]
 | x::a,y::b=>by
  rw [zdw,lexI];by_cases h:x=y
  ·subst h;rw [xx rfl,xw (qo x),xw (qo x)];exact zkL
  ·rw [xw h];by_cases h1:x<y
   ·simp [h1]
   ·simp [h1,show y<x by omega]
theorem zDA:∀(v t:zz),lexI v (v++t)<=0
 | [],[]=>yO _
 | [],_::_=>by rw [xV,lexI];decide
 | x::v,t=>by rw [yw,lexI,xw (qo x),xw (qo x)];exact zDA v t
theorem zDC {v w:zz} (h:v<+:w):lexI v w<=0:=by
 obtain ⟨t,rfl⟩:=h;exact zDA v t
theorem zDB:∀(v t u:zz),lexI v u<=0->lexI u (v++t)<=0->v<+:u
 | [],t,u,_,_=>List.nil_prefix
 | x::v,t,[],h,_=>by rw [lexI] at h;exact absurd h (by decide)
 | x::v,t,y::u,h,k=>by
  rw [lexI] at h;rw [yw,lexI] at k;by_cases h1:x<y
  ·rw [xw (show ¬y<x by omega),xx h1] at k;exact absurd k (by decide)
  ·by_cases h2:y<x
   ·rw [xw h1,xx h2] at h;exact absurd h (by decide)
   ·rw [xw h1,xw h2] at h;rw [xw h2,xw h1] at k;obtain rfl:x=y:=by omega
    exact List.cons_prefix_cons.2 ⟨rfl,zDB v t u h k⟩
theorem zLs {v w u:zz} (hp:v<+:w) (h:lexI v u<=0) (k:lexI u w<=0):v<+:u:=by
 obtain ⟨t,rfl⟩:=hp;exact zDB v t u h k
structure zny (l:List zz):Prop where
 sorted:l.Pairwise (fun a b=>zdw a b=true)
 full:∀w∈l,w≠[]
 anti:∀v∈l,∀w∈l,v<+:w->v=w
theorem zny.of {l:List zz} (h:zny l):ofW l=l:=
 zoN _ _ (znR l) h.sorted fun w=>by
  rw [zml];exact ⟨fun k=>k.1,fun hw=>⟨hw,h.full w hw,fun v hv _ hp=>h.anti v hv w hw hp⟩⟩
theorem zAG (ways:List zz):zny (ofW ways):=
 ⟨znR ways,fun w hw=>(zml.1 hw).2.1,fun v hv w hw hp=>(zml.1 hw).2.2 v (zml.1 hv).1 (zml.1 hv).2.1 hp⟩
theorem zHK {l:List zz}:zny l↔ofW l=l:=⟨fun h=>h.of,fun h=>h▸zAG l⟩
theorem zAF:zny []:=⟨List.Pairwise.nil,fun w hw=>(by cases hw),fun v hv=>(by cases hv)⟩
theorem zny.filter {l:List zz} (h:zny l) (p:zz->Bool):zny (l.filter p):=
 ⟨h.sorted.filter p,fun w hw=>h.full w (yC.1 hw).1,fun v hv w hw=>h.anti v (yC.1 hv).1 w (yC.1 hw).1⟩
def zAX (last way:zz):Bool:=decide (0<=lexI last way)|| (!last.isEmpty&&begB way last)
def zlU:zz->List zz->Bool
 | _,[]=>true
 | last,w::l=> !zAX last w&&zlU w l
theorem zId {last way:zz}:zAX last way=false↔lexI last way<0/\¬(last≠[]/\last<+:way):=by
 unfold zAX;rw [ql,qI,<-qu,xB,znE,yn,qK];constructor
 ·rintro ⟨h,k⟩;exact ⟨by omega,k⟩
 ·rintro ⟨h,k⟩;exact ⟨by omega,k⟩
theorem zqu {last w:zz} {l:List zz}:zlU last (w::l)=true↔lexI last w<0/\¬(last≠[]/\last<+:w)/\zlU w l=true:=by
 rw [zlU,xB,yn,zId,and_assoc]
theorem zqv:∀{l:List zz} {last:zz},zlU last l=true->∀w∈l,lexI last w<0
 | [],_,_,w,hw=>by cases hw
 | u::l,last,h,w,hw=>by
  obtain ⟨h1,_,h3⟩:=zqu.1 h;rcases xA.1 hw with rfl| hw
  ·exact h1
  ·exact zkL.1 (zoE last u w (zkL.2 h1) (zkL.2 (zqv h3 w hw)))
theorem zEN:∀{l:List zz} {last:zz},zlU last l=true->last≠[]->∀w∈l,¬last<+:w
 | [],_,_,_,w,hw=>by cases hw
 | u::l,last,h,hn,w,hw=>by
  obtain ⟨h1,h2,h3⟩:=zqu.1 h;rcases xA.1 hw with rfl| hw
  ·exact fun hp=>h2 ⟨hn,hp⟩
  ·exact fun hp=>h2 ⟨hn,zLs hp (by omega) (by have:=zqv h3 w hw;omega)⟩
theorem zww:∀{l:List zz} {last:zz},zlU last l=true->zny l
 | [],_,_=>zAF
 | u::l,last,h=>by
  obtain ⟨h1,h2,h3⟩:=zqu.1 h;have ih:=zww h3;have hu:u≠[]:=fun e=>by
   subst e;cases last with
   | nil=>rw [lexI] at h1;exact absurd h1 (by decide)
   | cons=>rw [lexI] at h1;exact absurd h1 (by decide)
  refine ⟨ym.2 ⟨fun w hw=>zkL.2 (zqv h3 w hw),ih.sorted⟩,fun w hw=>?_,fun v hv w hw hp=>?_⟩
  ·rcases xA.1 hw with rfl| hw
   ·exact hu
   ·exact ih.full w hw
  ·rcases xA.1 hv with rfl| hv1
   ·rcases xA.1 hw with rfl| hw1
    ·rfl
    ·exact absurd hp (zEN h3 hu w hw1)
   ·rcases xA.1 hw with rfl| hw1
    ·have:=zqv h3 v hv1;have:=zDC hp;have:=zjS v w;omega
    ·exact ih.anti v hv1 w hw1 hp
theorem zCQ:∀{l:List zz} {last:zz},zny l->(∀w∈l,lexI last w<0/\¬(last≠[]/\last<+:w))->zlU last l=true
 | [],_,_,_=>rfl
 | u::l,last,h,k=>by
  obtain ⟨h1,h2⟩:=ym.1 h.sorted;refine zqu.2 ⟨(k u xy).1,(k u xy).2,zCQ ⟨h2,fun w hw=>h.full w (xz _ hw),fun v hv w hw=>h.anti v (xz _ hv) w (xz _ hw)⟩ fun w hw=>⟨zkL.1 (h1 w hw),fun ⟨_,hp⟩=>?_⟩⟩;have e:=h.anti u xy w (xz _ hw) hp;have:=h1 w hw;rw [<-e,zjR] at this;cases this
theorem zAb {l:List zz}:zlU [] l=true↔ofW l=l:=by
 rw [<-zHK];refine ⟨zww,fun h=>zCQ h fun w hw=>⟨?_,fun k=>k.1 rfl⟩⟩;cases w with
 | nil=>exact absurd rfl (h.full [] hw)
 | cons=>rw [lexI];decide
def addL (acc:List zz) (x:zz):List zz:=if (!x.isEmpty&& !hasB acc x)=true then acc++[x] else acc
structure Fo (pre acc:List zz):Prop where
 mask:zny acc
 has:∀v,hasB acc v=hasB pre v
 mem:∀a∈acc,a∈pre
theorem zGn {pre acc:List zz} {x:zz} (h:Fo pre acc) (hx:∀a∈pre,lexI a x<=0) (hn:hasB acc x=false):∀a∈acc,¬x<+:a:=fun a ha hp=>by
 have e:=zAB (hx a (h.mem a ha)) (zDC hp);subst e;rw [zHt ha (h.mask.full a ha)] at hn;cases hn
theorem zKZ {pre acc:List zz} {x:zz} (h:Fo pre acc) (hx:∀a∈pre,lexI a x<=0):Fo (pre++[x]) (addL acc x):=by
 unfold addL;have one:∀v,hasB [x] v=(!x.isEmpty&&begB v x):=fun v=>by simp [hasB]
 by_cases hc:(!x.isEmpty&& !hasB acc x)=true
 ·rw [xx hc];simp only [xB,yn,qK] at hc;obtain ⟨h1,h2⟩:=hc;have hf:=zGn h hx h2;have hb:∀a∈acc,¬a<+:x:=fun a ha hp=>by
   rw [zgz.2 ⟨a,ha,h.mask.full a ha,hp⟩] at h2;cases h2
  refine ⟨⟨List.pairwise_append.2 ⟨h.mask.sorted,uJ _ _,fun a ha b hb'=>?_⟩,fun w hw=>?_,fun v hv w hw hp=>?_⟩,fun v=>by rw [zrT,zrT,h.has v],fun a ha=>?_⟩
  ·simp only [xT] at hb';subst hb';have h3:=hx a (h.mem a ha);rcases Int.lt_or_eq_of_le h3 with h4| h4
   ·exact zkL.2 h4
   ·exact absurd (zsY h4▸qL _) (hb a ha)
  ·rcases xE.1 hw with hw| hw
   ·exact h.mask.full w hw
   ·simp only [xT] at hw;rw [hw];exact h1
  ·rcases xE.1 hv with hv1| hv1<;>rcases xE.1 hw with hw1| hw1
   ·exact h.mask.anti v hv1 w hw1 hp
   ·simp only [xT] at hw1;subst hw1;exact absurd hp (hb v hv1)
   ·simp only [xT] at hv1;subst hv1;exact absurd hp (hf w hw1)
   ·simp only [xT] at hv1 hw1;rw [hv1,hw1]
  ·rcases xE.1 ha with ha| ha
   ·exact xX _ (h.mem a ha)
   ·exact xY _ ha
 ·rw [xw hc];refine ⟨h.mask,fun v=>?_,fun a ha=>xX _ (h.mem a ha)⟩;rw [zrT,one,<-h.has v];cases he:(!x.isEmpty&&begB v x) with
  | false=>rw [qM]
  | true=>
   simp only [xB,yn,qK,znE] at he;have hh:hasB acc x=true:=by
    cases hb:hasB acc x with
    | true=>rfl
    | false=>exact absurd (by simp [hb,he.1]) hc
   obtain ⟨a,ha,hn,hp⟩:=zgz.1 hh;rw [zgz.2 ⟨a,ha,hn,hp.trans he.2⟩];rfl
theorem zMi:Fo [] []:=⟨zAF,fun v=>rfl,fun a ha=>(by cases ha)⟩
theorem zMj {l acc:List zz} (h:Fo l acc):acc=ofW l:=by rw [<-h.mask.of];exact zDL h.has
theorem zJP {l r:List zz} (h:r.Perm l):ofW r=ofW l:=zDL fun v=>by
 refine zKQ ?_;rw [zgz,zgz];exact ⟨fun ⟨a,ha,k⟩=>⟨a,h.mem_iff.1 ha,k⟩,fun ⟨a,ha,k⟩=>⟨a,h.mem_iff.2 ha,k⟩⟩
abbrev zux:=List (zak×Int)
structure Trie (t:zux) (A:List zz) (P:List (zz×Int)):Prop where
 root:([],0)∈P
 same:∀p∈P,∀q∈P,(p.2=q.2↔p.1=q.1)
 ids:∀p∈P,0<=p.2/\p.2<=t.length
 keys:∀(i n:Int),(t.length:Int)<i->mget t ⟨i,n⟩=none
 leaf:∀p∈P,∀n,p.1++[n]∈A->mget t ⟨p.2,n⟩=some (-1)
 node:∀p∈P,∀n,∀q∈P,q.1=p.1++[n]->mget t ⟨p.2,n⟩=some q.2
 none:∀p∈P,∀n,p.1++[n]∉A->(∀q∈P,q.1≠p.1++[n])->mget t ⟨p.2,n⟩=none
 clo:∀q∈P,∀p n,q.1=p++[n]->∃i,(p,i)∈P
 comp:∀a∈A,∀p,p<+:a->p≠a->∃i,(p,i)∈P
 anti:∀v∈A,∀w∈A,v<+:w->v=w
 full:∀a∈A,a≠[]
def zwu (t:zux) (A:List zz) (P:List (zz×Int)):Prop:=Trie t A P/\∀p∈P,p.1=[]\/∃a∈A,p.1<+:a/\p.1≠a
theorem zKA:zwu [] [] [([],0)]:=by
 have h1:∀p∈[(([]:zz),(0:Int))],p=([],0):=fun p hp=>by simpa using hp
 refine ⟨⟨xy,fun p hp q hq=>?_,fun p hp=>?_,fun i n _=>rfl,fun p hp n h=>(by cases h),fun p hp n q hq h=>?_,fun p hp n _ _=>rfl,fun q hq p n h=>?_,fun a ha=>(by cases ha),fun v hv=>(by cases hv),fun a ha=>(by cases ha)⟩,fun p hp=>?_⟩
 ·rw [h1 p hp,h1 q hq];simp
 ·rw [h1 p hp];simp
 ·rw [h1 q hq,h1 p hp] at h;simp at h
 ·rw [h1 q hq] at h;simp at h
 ·rw [h1 p hp];exact .inl rfl
theorem zBT {a b:zz} (h:a<+:b) (hl:b.length<=a.length):a=b:=h.eq_of_length (Nat.le_antisymm h.length_le hl)
section
variable {t:zux} {A:List zz} {P:List (zz×Int)}
theorem zKy (h:zwu t A P) {way:zz} {i:Int} (hw:(way,i)∈P):hasB A way=false:=by
 rw [<-qu,zgz];rintro ⟨v,hv,hn,hp⟩;rcases h.2 _ hw with h0| ⟨a,ha,h1,h2⟩
 ·simp only at h0;subst h0;exact hn (List.prefix_nil.1 hp)
 ·have e:=h.1.anti v hv a ha (hp.trans h1);subst e;exact h2 (zBT h1 hp.length_le)
theorem zIi {p:zz} {way:zz} (hp:p<+:way) (hn:p≠[]) (ha:p∈A):hasB A way=true:=zgz.2 ⟨p,ha,hn,hp⟩
theorem zIj (h:zwu t A P) {p way:zz} {i n:Int} (hp:(p,i)∈P) (hq:p++[n]<+:way) (hA:p++[n]∉A) (hP:∀q∈P,q.1≠p++[n]):hasB A way=false:=by
 rw [<-qu,zgz];rintro ⟨v,hv,hn,hv2⟩;have hpw:p<+:way:=(uv p [n]).trans hq;rcases Nat.lt_trichotomy v.length (p++[n]).length with hl| hl| hl
 ·have hvp:v<+:p:=uw hv2 hpw (by simp at hl;omega);rcases h.2 _ hp with h0| ⟨a,ha,h1,h2⟩
  ·simp only at h0;subst h0;exact hn (List.prefix_nil.1 hvp)
  ·have e:=h.1.anti v hv a ha (hvp.trans h1);subst e;exact h2 (zBT h1 hvp.length_le)
 ·have hvq:v<+:p++[n]:=uw hv2 hq (by omega);rw [zBT hvq (by omega)] at hv;exact hA hv
 ·have hqv:p++[n]<+:v:=uw hq hv2 (by omega);obtain ⟨j,hj⟩:=h.1.comp v hv _ hqv (fun e=>by rw [e] at hl;omega);exact hP _ hj rfl
theorem zDJ {t:zux} {k:zak} (h:mget t k=none) (x:Int):(mput t k x).length=t.length+1:=by
 have:=congrArg List.length (znt t k x);rw [h] at this;simpa using this
theorem zJN {t:zux} {k:zak} {y:Int} (h:mget t k=some y) (x:Int):(mput t k x).length=t.length:=by
 have:=congrArg List.length (znt t k x);rw [h] at this;simpa using this
theorem zxS {i n j m:Int} (h:¬(i=j/\n=m)):¬((⟨i,n⟩:zak)=⟨j,m⟩):=fun e=>h (by injection e with e1 e2;exact ⟨e1,e2⟩)
theorem zzj {a b:zz} {x y:Int} (h:a++[x]=b++[y]):a=b/\x=y:=by
 have:=List.append_inj' h rfl;exact ⟨this.1,by simpa using this.2⟩
theorem zKz (h:Trie t A P) {p:zz} {i n:Int} (hp:(p,i)∈P) (hA:p++[n]∉A) (hP:∀q∈P,q.1≠p++[n]):
  Trie (mput t ⟨i,n⟩ ((t.length+1:Nat):Int)) A (P++[(p++[n],((t.length+1:Nat):Int))]):=by
 have hg:=h.none _ hp n hA hP;have hl:=zDJ hg ((t.length+1:Nat):Int);have hi:=h.ids _ hp;have new:∀r,r∈P++[(p++[n],((t.length+1:Nat):Int))]->r∈P\/r=(p++[n],((t.length+1:Nat):Int)):=fun r hr=>by
  rcases xE.1 hr with hr| hr
  ·exact .inl hr
  ·exact .inr (by simpa using hr)
 have key:∀r∈P,∀m,r.1++[m]≠p++[n]->mget (mput t ⟨i,n⟩ ((t.length+1:Nat):Int)) ⟨r.2,m⟩=mget t ⟨r.2,m⟩:=fun r hr m hne=>by
  rw [zed,xw (zxS fun ⟨e1,e2⟩=>hne (by rw [(h.same r hr _ hp).1 e1,e2]))]
 have fresh:∀m,mget (mput t ⟨i,n⟩ ((t.length+1:Nat):Int)) ⟨((t.length+1:Nat):Int),m⟩=none:=fun m=>by
  rw [zed,xw (zxS fun ⟨e1,_⟩=>by simp only at hi;omega)];exact h.keys _ _ (by omega)
 refine ⟨xX _ h.root,fun r hr s hs=>?_,fun r hr=>?_,fun j m hj=>?_,fun r hr m hm=>?_,fun r hr m s hs hsr=>?_,fun r hr m hm hns=>?_,fun s hs q m hq=>?_,fun a ha q hq hne=>?_,h.anti,h.full⟩
 ·rcases new r hr with hr| rfl<;>rcases new s hs with hs| rfl
  ·exact h.same r hr s hs
  ·have:=h.ids r hr;exact ⟨fun e=>by simp only at e;omega,fun e=>absurd e (hP r hr)⟩
  ·have:=h.ids s hs;exact ⟨fun e=>by simp only at e;omega,fun e=>absurd e.symm (hP s hs)⟩
  ·exact ⟨fun _=>rfl,fun _=>rfl⟩
 ·rw [hl];rcases new r hr with hr| rfl
  ·have:=h.ids r hr;exact ⟨this.1,by omega⟩
  ·exact ⟨by simp only;omega,yO _⟩
 ·rw [hl] at hj;simp only at hi;rw [zed,xw (zxS fun ⟨e1,_⟩=>by omega)];exact h.keys _ _ (by omega)
 ·rcases new r hr with hr| rfl
  ·rw [key r hr m (fun e=>hA (e▸hm))];exact h.leaf r hr m hm
  ·obtain ⟨j,hj⟩:=h.comp _ hm (p++[n]) (uv _ _) (fun e=>by have:=congrArg List.length e;simp at this);exact absurd rfl (hP _ hj)
 ·rcases new s hs with hs| rfl
  ·rcases new r hr with hr| rfl
   ·rw [key r hr m (fun e=>hP s hs (hsr.trans e))];exact h.node r hr m s hs hsr
   ·obtain ⟨j,hj⟩:=h.clo s hs _ _ hsr;exact absurd rfl (hP _ hj)
  ·rcases new r hr with hr| rfl
   ·obtain ⟨e1,e2⟩:=zzj hsr;have e3:r.2=i:=(h.same r hr _ hp).2 e1.symm;rw [zed,xx (by rw [e3,e2])]
   ·have:=congrArg List.length hsr;simp at this
 ·rcases new r hr with hr| rfl
  ·have hne:r.1++[m]≠p++[n]:=fun e=>hns _ (xY _ xy) e.symm
   rw [key r hr m hne];exact h.none r hr m hm fun q hq=>hns q (xX _ hq)
  ·exact fresh m
 ·rcases new s hs with hs| rfl
  ·obtain ⟨j,hj⟩:=h.clo s hs q m hq;exact ⟨j,xX _ hj⟩
  ·obtain ⟨e1,e2⟩:=zzj hq;exact ⟨i,xX _ (e1▸hp)⟩
 ·obtain ⟨j,hj⟩:=h.comp a ha q hq hne;exact ⟨j,xX _ hj⟩
theorem zFO (h:Trie t A P) {way:zz} {j:Int} (hw:(way,j)∈P):∀p,p<+:way->∃i,(p,i)∈P:=by
 have key:∀(d:Nat) (p:zz),p.length+d=way.length->p<+:way->∃i,(p,i)∈P:=by
  intro d
  induction d with
  | zero=>intro p hl hp;rw [zBT hp (by omega)];exact ⟨j,hw⟩
  | succ d ih=>
   intro p hl hp;have hlt:p.length<way.length:=by omega
   have hq:p++[way[p.length]]<+:way:=by
    have e:p=way.take p.length:=uK.1 hp;have:way.take (p.length+1)=p++[way[p.length]]:=by rw [yx hlt,<-e]
    rw [<-this];exact uy _ _
   obtain ⟨i,hi⟩:=ih _ (by simp;omega) hq;exact h.clo _ hi p _ rfl
 intro p hp;exact key (way.length - p.length) p (by have:=hp.length_le;omega) hp
theorem zIh (h:Trie t A P) {p:zz} {i n j:Int} (hp:(p,i)∈P) (hw:(p++[n],j)∈P) (hf:∀a∈A,¬p++[n]<+:a) (hb:∀a∈A,¬a<+:p++[n])
  (hx:∀r∈P,r.1=[]\/(∃a∈A,r.1<+:a/\r.1≠a)\/r.1<+:p++[n]):(mput t ⟨i,n⟩ (-1)).length=t.length/\zwu (mput t ⟨i,n⟩ (-1)) (A++[p++[n]]) (P.filter fun r=>decide (r.1≠p++[n])):=by
 have hg:=h.node _ hp n _ hw rfl;have hl:=zJN hg (-1);have hA:p++[n]∉A:=fun ha=>hf _ ha (qL _)
 have mem:∀r,r∈P.filter (fun r=>decide (r.1≠p++[n]))↔r∈P/\r.1≠p++[n]:=fun r=>by rw [yC];simp
 have key:∀r∈P,∀m,r.1++[m]≠p++[n]->mget (mput t ⟨i,n⟩ (-1)) ⟨r.2,m⟩=mget t ⟨r.2,m⟩:=fun r hr m hne=>by
  rw [zed,xw (zxS fun ⟨e1,e2⟩=>hne (by rw [(h.same r hr _ hp).1 e1,e2]))]
 have hself:∀r∈P,∀m,r.1++[m]=p++[n]->mget (mput t ⟨i,n⟩ (-1)) ⟨r.2,m⟩=some (-1):=fun r hr m e=>by
  obtain ⟨e1,e2⟩:=zzj e;rw [zed,xx (by rw [(h.same r hr _ hp).2 e1,e2])]
 have inA:∀a,a∈A++[p++[n]]->a∈A\/a=p++[n]:=fun a ha=>by
  rcases xE.1 ha with ha| ha
  ·exact .inl ha
  ·exact .inr (by simpa using ha)
 refine ⟨hl,⟨(mem _).2 ⟨h.root,by simp⟩,fun r hr s hs=>h.same r ((mem r).1 hr).1 s ((mem s).1 hs).1,fun r hr=>?_,fun k m hk=>?_,fun r hr m hm=>?_,fun r hr m s hs hsr=>?_,fun r hr m hm hns=>?_,fun s hs q m hq=>?_,fun a ha q hq hne=>?_,fun v hv w hw' hvw=>?_,fun a ha=>?_⟩,fun r hr=>?_⟩
 ·rw [hl];exact h.ids r ((mem r).1 hr).1
 ·rw [hl] at hk;have:=h.ids _ hp;simp only at this;rw [zed,xw (zxS fun ⟨e1,_⟩=>by omega)];exact h.keys _ _ hk
 ·obtain ⟨hr,_⟩:=(mem r).1 hr;by_cases he:r.1++[m]=p++[n]
  ·exact hself r hr m he
  ·rw [key r hr m he];rcases inA _ hm with hm| hm
   ·exact h.leaf r hr m hm
   ·exact absurd hm he
 ·obtain ⟨hr,_⟩:=(mem r).1 hr;obtain ⟨hs,hs2⟩:=(mem s).1 hs;rw [key r hr m (fun e=>hs2 (hsr.trans e))];exact h.node r hr m s hs hsr
 ·obtain ⟨hr,_⟩:=(mem r).1 hr;have he:r.1++[m]≠p++[n]:=fun e=>hm (by rw [e];exact xY _ xy)
  rw [key r hr m he];exact h.none r hr m (fun ha=>hm (xX _ ha)) fun q hq e=>hns q ((mem q).2 ⟨hq,by rw [e];exact he⟩) e
 ·obtain ⟨hs,hs2⟩:=(mem s).1 hs;obtain ⟨k,hk⟩:=h.clo s hs q m hq;refine ⟨k,(mem _).2 ⟨hk,fun e=>?_⟩⟩;simp only at e;rcases hx s hs with h0| ⟨a,ha,h1,_⟩| h1
  ·rw [h0] at hq;simp at hq
  ·exact hf a ha ((by rw [<-e];exact (hq▸uv q [m]:q<+:s.1):p++[n]<+:s.1).trans h1)
  ·have:=h1.length_le;rw [hq,e] at this;simp at this
 ·have hne2:q≠p++[n]->∀k,(q,k)∈P->(q,k)∈P.filter (fun r=>decide (r.1≠p++[n])):=fun hq k hk=>(mem _).2 ⟨hk,hq⟩
  rcases inA a ha with ha| rfl
  ·obtain ⟨k,hk⟩:=h.comp a ha q hq hne;exact ⟨k,hne2 (fun e=>hf a ha (e▸hq)) k hk⟩
  ·obtain ⟨k,hk⟩:=zFO h hw q hq;exact ⟨k,hne2 hne k hk⟩
 ·rcases inA v hv with hv| rfl<;>rcases inA w hw' with hw'| rfl
  ·exact h.anti v hv w hw' hvw
  ·exact absurd hvw (hb v hv)
  ·exact absurd hvw (hf w hw')
  ·rfl
 ·rcases inA a ha with ha| rfl
  ·exact h.full a ha
  ·simp
 ·obtain ⟨hr,hr2⟩:=(mem r).1 hr;rcases hx r hr with h0| ⟨a,ha,h1,h2⟩| h1
  ·exact .inl h0
  ·exact .inr ⟨a,xX _ ha,h1,h2⟩
  ·exact .inr ⟨_,xY _ xy,h1,hr2⟩
end
def go12 {σ ρ χ:Type} (kb:σ->χ->Option (σ⊕ρ)):List χ->σ->Option (σ⊕ρ)
 | [],s=>some (.inl s)
 | p::ps,s=>match kb s p with
  | some (.inl s')=>go12 kb ps s'
  | some (.inr r)=>some (.inr r)
  | none=>none
theorem zKf {σ ρ χ:Type} {kb:σ->χ->Option (σ⊕ρ)} {s s':σ} {x:χ} (h:kb s x=some (.inl s')):rnd kb (.inl s) x=some (true,.inl s'):=by simp only [rnd,h]
theorem zKg {σ ρ χ:Type} {kb:σ->χ->Option (σ⊕ρ)} {s:σ} {r:ρ} {x:χ} (h:kb s x=some (.inr r)):rnd kb (.inl s) x=some (false,.inr r):=by simp only [rnd,h]
theorem zIn {σ ρ:Type} {kb:σ->List UInt8->Option (σ⊕ρ)} {v:List (List UInt8)} (hv:v.length<=1152921504606846976):∀(l:List (List UInt8)) (i:Nat) (s:σ) (o:σ⊕ρ),v.drop i=l->go12 kb l s=some o->
  zbd (rnd kb) v (i:Int) (.inl s)=some (match o with| .inl s'=> .inl (.inl s')| .inr r=> .inr (.inr r)):=by
 intro l
 induction l with
 | nil=>
  intro i s o hd h;cases h;have:=zbx hd;refine zfT ?_;unfold zac;rw [uN]
 | cons x l ih=>
  intro i s o hd h;obtain ⟨hk,hx,hd'⟩:=zba hd;rw [go12] at h;cases hb:kb s x with
  | none=>rw [hb] at h;cases h
  | some q=>
   rw [hb] at h;cases q with
   | inl s'=>
    refine (zjz (v2':=((i+1:Nat):Int)) (sg2':= .inl s') ?_).trans (ih (i+1) s' o hd' h);unfold zac;rw [uM,zI rfl hk,sb,hx,zKf hb,sb,itF (c:= !true) rfl,uO];push_cast;rfl
   | inr r=>
    cases h;refine zfT ?_;unfold zac;rw [uM,zI rfl hk,sb,hx,zKg hb,sb,itT (c:= !false) rfl]
theorem zMI {σ ρ:Type} {kb:σ->List UInt8->Option (σ⊕ρ)} {v:List (List UInt8)} (hv:v.length<=1152921504606846976) {s:σ} {o:σ⊕ρ} (h:go12 kb v s=some o):zaV v (rnd kb) (.inl s)=some o:=by
 have h1:=zIn hv v 0 s o rfl h;have h2:zbd (rnd kb) v 0 (.inl s)=_:=h1;unfold zaV;rw [h2,sb];cases o<;>rfl
theorem zFm (x y:List UInt8):(decide (x<=y)|| decide (y<=x))=true:=by
 simp only [qd,xN];exact List.le_total x y
theorem zFn (x y z:List UInt8) (h:decide (x<=y)=true) (k:decide (y<=z)=true):decide (x<=z)=true:=by
 simp only [xN] at h k|-;exact List.le_trans h k
theorem zzk (l:List (List UInt8)):(zkD l).Perm l:=ul l _
theorem zvp (l:List (List UInt8)):(zkD l).Pairwise (fun x y=>x<=y):=by
 have:=uk (le:=fun x y:List UInt8=>decide (x<=y)) (fun x y z=>zFn x y z) (fun x y=>zFm x y) l;exact this.imp fun h=>by simpa using h
theorem zpA:∀(l:List (List UInt8)) (p:List UInt8),(p::l).Pairwise (fun x y=>x<=y)->∀x,x∈zkR (some p) l↔x∈l/\x≠p
 | [],p,_,x=>by simp [zkR]
 | y::l,p,h,x=>by
  obtain ⟨h1,h2⟩:=ym.1 h;obtain ⟨h3,h4⟩:=ym.1 h2;have hpy:=h1 y xy;rw [zkR];by_cases e:p=y
  ·subst e;rw [xx rfl,zpA l p h2 x];constructor
   ·rintro ⟨a,b⟩;exact ⟨xz _ a,b⟩
   ·rintro ⟨a,b⟩;rcases xA.1 a with rfl| a
    ·exact absurd rfl b
    ·exact ⟨a,b⟩
  ·rw [xw (by simpa using e),xA,zpA l y h2 x];constructor
   ·rintro (rfl| ⟨a,b⟩)
    ·exact ⟨xy,fun e2=>e e2.symm⟩
    ·refine ⟨xz _ a,fun e2=>?_⟩;subst e2;exact e (List.le_antisymm hpy (h3 x a))
   ·rintro ⟨a,b⟩;rcases xA.1 a with rfl| a
    ·exact .inl rfl
    ·by_cases e2:x=y
     ·exact .inl e2
     ·exact .inr ⟨a,e2⟩
theorem zrE:∀(l:List (List UInt8)) (p:List UInt8),(p::l).Pairwise (fun x y=>x<=y)->(zkR (some p) l).Nodup
 | [],p,_=>by simp [zkR]
 | y::l,p,h=>by
  obtain ⟨h1,h2⟩:=ym.1 h;rw [zkR];split
  ·exact zrE l y h2
  ·refine qD.2 ⟨fun hm=>?_,zrE l y h2⟩;exact ((zpA l y h2 y).1 hm).2 rfl
theorem zHl {l:List (List UInt8)} (h:l.Pairwise (fun x y=>x<=y)) (x:List UInt8):x∈zdn l↔x∈l:=by
 cases l with
 | nil=>simp [zdn,zkR]
 | cons y l=>
  rw [zdn,zkR,xw (by simp),xA,zpA l y h x,xA];constructor
  ·rintro (a| ⟨a,_⟩)
   ·exact .inl a
   ·exact .inr a
  ·rintro (a| a)
   ·exact .inl a
   ·by_cases e:x=y
    ·exact .inl e
    ·exact .inr ⟨a,e⟩
theorem zCV {l:List (List UInt8)} (h:l.Pairwise (fun x y=>x<=y)):(zdn l).Nodup:=by
 cases l with
 | nil=>simp [zdn,zkR]
 | cons y l=>
  rw [zdn,zkR,xw (by simp)];exact qD.2 ⟨fun hm=>((zpA l y h y).1 hm).2 rfl,zrE l y h⟩
theorem zCU:∀(l:List (List UInt8)) (p:Option (List UInt8)),(zkR p l).length<=l.length
 | [],_=>xC _
 | x::l,p=>by
  have:=zCU l (some x);rw [zkR];split<;>simp<;>omega
def zuc (l:List (List UInt8)):List (List UInt8):=zdn (zkD l)
theorem zvc (l:List (List UInt8)) (x:List UInt8):x∈zuc l↔x∈l:=(zHl (zvp l) x).trans (zzk l).mem_iff
theorem zFy (l:List (List UInt8)):(zuc l).Nodup:=zCV (zvp l)
theorem zDM (l:List (List UInt8)):(zuc l).length<=l.length:=by
 have h1:=zCU (zkD l) none;have h2:=(zzk l).length_eq;unfold zuc zdn;omega
theorem zJQ (l:List (List UInt8)):(zuc l).length=0↔l.length=0:=by
 constructor
 ·intro h;cases l with
  | nil=>rfl
  | cons x l=>
   have:=(zvc (x::l) x).2 xy;rw [yq h] at this;cases this
 ·intro h;have:=zDM l;omega
def zho (x:List UInt8):Mes:=⟨x,[]⟩
theorem zLN (n:Int):∀(l:List (List UInt8)) (prev:List Mes),l.Nodup->(∀x∈l,(prev.any fun g=>g.Name==x)=false)->
  (chkF n prev (l.map zho)=none/\l.all zdc=true)\/∃i,chkF n prev (l.map zho)=some (i, -1,2)/\l.all zdc=false
 | [],prev,_,_=> .inl ⟨rfl,rfl⟩
 | x::l,prev,hn,hp=>by
  obtain ⟨n1,n2⟩:=qD.1 hn;rw [xU,chkF,yr];cases hx:zdc x with
  | false=>exact .inr ⟨_,by rw [xx (show zdc (zho x).Name=false from hx)],rfl⟩
  | true=>
   rw [xw (show ¬zdc (zho x).Name=false by simp [zho,hx]),xw (by rw [show (zho x).Name=x from rfl,hp x xy];simp),xw (by simp [zho])];have hm:msgF n [] (zho x).Fields=none:=rfl;rw [hm,xQ];refine zLN n l (prev++[zho x]) n2 fun y hy=>?_
   rw [pz,hp y (xz _ hy)];have:y≠x:=fun e=>n1 (e▸hy)
   simp [zho];exact fun e=>this e.symm
theorem zLv {l:List (List UInt8)} (hn:l.Nodup) (hl:l.length<=100):zeS (l.map zho)=(l.all zdc&&decide (1<=l.length)):=by
 unfold zeS zlo;by_cases h0:l.length=0
 ·rw [xx (.inl (by simpa using h0))];simp [h0]
 ·rw [xw (by rw [yQ];omega)];rcases zLN ((l.map zho).length:Int) l [] hn (fun x _=>rfl) with ⟨h1,h2⟩| ⟨i,h1,h2⟩
  ·rw [h1,h2];simp;omega
  ·rw [h1,h2];rfl
theorem zFw {l:List (List UInt8)} (hl:(zdn l).length<=1048576):∀(t:List (List UInt8)) (i:Nat),(zdn l).drop i=t->zgN l (((zdn l).take i).map zho++List.replicate t.length (⟨[],[]⟩:Mes)) (i:Int)=some ((zdn l).map zho):=by
 intro t
 induction t with
 | nil=>
  intro i hd;have:=zbx hd;refine zss ?_;unfold zdl;rw [uN,yT this];simp
 | cons x t ih=>
  intro i hd;obtain ⟨hk,hx,hd'⟩:=zba hd;have hlen:(((zdn l).take i).map zho).length=i:=by simp;omega
  refine (zsr (sv':=((zdn l).take (i+1)).map zho++List.replicate t.length (⟨[],[]⟩:Mes)) (v2':=((i+1:Nat):Int)) ?_).trans (ih (i+1) hd');unfold zdl;have h1:idx (((zdn l).take i).map zho++List.replicate (x::t).length (⟨[],[]⟩:Mes)) (i:Int)=some (⟨[],[]⟩:Mes):=by
   rw [zI rfl (by rw [yd,hlen];simp)];rw [List.getElem_append_right (by omega)];simp
  rw [uM,zI rfl hk,sb,hx,h1,sb,uO];have h2:(((zdn l).take i).map zho++List.replicate (x::t).length (⟨[],[]⟩:Mes)).set (Int.toNat (i:Int)) (⟨x,[]⟩:Mes)=((zdn l).take (i+1)).map zho++List.replicate t.length (⟨[],[]⟩:Mes):=by
   rw [yk,List.set_append_right _ _ (by omega),hlen,pA,ye,pY,List.set_cons_zero,yx hk,hx,qE,yN];rfl
  rw [h2];push_cast;rfl
theorem zCE:∀(l acc:List (List UInt8)),acc.length+l.length<=1048576->go12 (fun s x=>zM s x) l acc=some (.inl (acc++l))
 | [],acc,_=>by simp [go12]
 | x::l,acc,h=>by
  simp only [ye] at h;have hb:zM acc x=some (.inl (acc++[x])):=by
   unfold zM;rw [zga (by simp;omega),sb]
  rw [go12,hb];simp only;rw [zCE l (acc++[x]) (by simp;omega),yN];rfl
theorem zKq {l:List (List UInt8)} (hl:l.length<=1048576):zar l=some (zkD l):=by
 unfold zar zaG zam zgu zGU;rw [zMI (by omega) (zCE l [] (by simpa using hl)),sb];simp only [xV];rw [sb,sb,xx (by omega),sb]
theorem zCG {l:List (List UInt8)} (hl:l.length<=100) (hx:∀x∈l,x.length<=140737488351232):zkB l=some (l.all zdc&&decide (1<=l.length)):=by
 have hle:=zDM l;have hs:(zdn (zkD l)).length<=l.length:=hle;unfold zkB zdM;rw [sb,zKq (by omega),sb,zsk (a:=(zdn (zkD l)).length) rfl (yO _) (by omega),sb];have h1:=zFw (l:=zkD l) (by omega) (zdn (zkD l)) 0 rfl;have h2:zgN (zkD l) (List.replicate (zdn (zkD l)).length (⟨[],[]⟩:Mes)) 0=some ((zdn (zkD l)).map zho):=by simpa using h1
 rw [h2,sb,znW ⟨by simp;omega,fun m hm=>?_⟩,sb]
 ·show some (zeS ((zuc l).map zho))=_;rw [zLv (zFy l) (by omega)];congr 1;have h3:(zdn (zkD l)).all zdc=l.all zdc:=by
   rw [yB,xG,xG];exact ⟨fun h x hx=>h x ((zvc l x).2 hx),fun h x hx=>h x ((zvc l x).1 hx)⟩
  have h4:=zJQ l;rw [show (zuc l).all zdc=l.all zdc from h3];congr 1;have h5:(zdn (zkD l)).length=0↔l.length=0:=h4;rw [yB];simp only [xN];omega
 ·obtain ⟨x,hxm,rfl⟩:=xR.1 hm;exact ⟨hx x ((zvc l x).1 hxm),by simp [zho],fun f hf=>by cases hf⟩
theorem zGq:∀l:List (List UInt8),([46]:List UInt8).intercalate l=zkf l
 | []=>rfl
 | [x]=>by simp [List.intercalate,zkf]
 | x::y::l=>by
  have:=zGq (y::l);rw [zkf,<-this];simp [List.intercalate,List.intersperse]
theorem zwC:∀(l:List (List UInt8)) (m:Nat),(∀x∈l,x.length<=m)->(zkf l).length<=l.length*(m+1)
 | [],m,_=>by simp [zkf]
 | [x],m,h=>by have:=h x xy;simp [zkf];omega
 | x::y::l,m,h=>by
  have h1:=h x xy;have h2:=zwC (y::l) m (fun z hz=>h z (xz _ hz));rw [zkf];simp only [yd,ye,Nat.add_mul] at h2|-;omega
theorem zJV {l:List (List UInt8)} (hl:l.length*16<=140737488351232) (hx:∀x∈l,x.length<=140737488351232):zpW l=some (if znk l then (zkf l,0) else ([],12)):=by
 unfold zpW;by_cases h65:l.length<=65
 ·rw [uN,zCG (by omega) hx,sb,sb];have hn:znk l=(l.all zdc&&decide (1<=l.length)):=by
   unfold znk;congr 1;simp [h65]
  rw [<-hn];cases h:znk l with
  | false=>rfl
  | true=>
   rw [itF (c:= !true) rfl,xx rfl];have hs:∀x∈l,x.length<=60:=fun x hx=>by
    unfold znk at h;simp only [xB,xG] at h;have h1:=h.1 x hx;unfold zdc at h1;simp only [xB,xN] at h1;exact h1.2.2
   have hj:=zwC l 60 hs;have:l.length*61<=65*61:=yu _ h65;unfold strings_Join zGw;rw [zGq,xx ⟨by omega,by omega⟩,sb]
 ·rw [uM,sb,itT (c:=true) rfl];have:znk l=false:=by
   unfold znk;simp [h65]
  rw [this];rfl
theorem zKR (x y:Int):zik x y=some (if x<y then -1 else if y<x then 1 else 0):=by
 unfold zik zjG;rw [sb,sb,itF (by simp),itF (by simp)];by_cases h:x<y
 ·rw [itT (by simpa using h),xx h]
 ·rw [itF (by simpa using h),xw h];by_cases h2:y<x
  ·rw [itT (by simpa using h2),xx h2]
  ·rw [itF (by simpa using h2),xw h2]
theorem zEQ {a b:zz} (ha:a.length<=1152921504606846976):zdP a b=some (lexI a b):=by
 have key:∀(d i:Nat),i+d=a.length->i<=b.length->∃r,zcq a b i=some r/\(match r with| .inl _=>(if (a.length:Int)<(b.length:Int) then -1 else 0)| .inr x=>x)=lexI (a.drop i) (b.drop i):=by
  intro d
  induction d with
  | zero=>
   intro i hi hib;refine ⟨.inl (),zdt ?_,?_⟩
   ·unfold zaj;rw [uN]
   ·rw [yg (show a.length<=i by omega)];cases hb:b.drop i with
    | nil=>
     have:=congrArg List.length hb;simp at this;rw [lexI];simp only;rw [xw (by omega)]
    | cons y l=>
     have:=congrArg List.length hb;simp at this;rw [lexI];simp only;rw [xx (by omega)]
  | succ d ih=>
   intro i hi hib;have hia:i<a.length:=by omega
   by_cases hlt:i<b.length
   ·have hb:zaj a b i=if (if a[i]<b[i] then (-1:Int) else if b[i]<a[i] then 1 else 0)=0 then some (.inl ((i+1:Nat):Int)) else some (.inr (.inr (if a[i]<b[i] then (-1:Int) else if b[i]<a[i] then 1 else 0))):=by
     unfold zaj;rw [uM,zI rfl hia,sb,uN,zI rfl hlt,sb,zKR,sb,uO];by_cases h0:(if a[i]<b[i] then (-1:Int) else if b[i]<a[i] then 1 else 0)=0
     ·rw [itF (by simp [h0]),xx h0];push_cast;rfl
     ·rw [itT (by simpa using h0),xw h0]
    rw [xS hia,xS hlt,lexI];by_cases h1:a[i]<b[i]
    ·rw [xx h1] at hb|-;rw [xw (by decide)] at hb;exact ⟨_,zdt hb,rfl⟩
    ·by_cases h2:b[i]<a[i]
     ·rw [xw h1,xx h2] at hb|-;rw [xw (by decide)] at hb;exact ⟨_,zdt hb,rfl⟩
     ·rw [xw h1,xw h2] at hb|-;rw [xx rfl] at hb;obtain ⟨r,k1,k2⟩:=ih (i+1) (by omega) (by omega);exact ⟨r,by rw [zlC hb];exact k1,k2⟩
   ·refine ⟨.inr 1,zdt ?_,?_⟩
    ·unfold zaj;rw [uM,zI rfl hia,sb,uM]
    ·rw [xS hia,yg (show b.length<=i by omega)];rfl
 obtain ⟨r,h1,h2⟩:=key a.length 0 (by omega) (by omega);have h1':zcq a b 0=some r:=h1;rw [xW,xW] at h2;unfold zdP;rw [h1',sb];cases r with
 | inl _=>
  simp only at h2|-;by_cases hl:(a.length:Int)<(b.length:Int)
  ·rw [xx hl] at h2;rw [itT (by simpa using hl),h2]
  ·rw [xw hl] at h2;rw [itF (by simpa using hl),h2]
 | inr x=>simp only at h2|-;rw [h2]
theorem zHn {a b:zz} (ha:a.length<=1152921504606846976):zeJ a b=some (decide (a=b)):=by
 unfold zeJ;by_cases hl:a.length=b.length
 ·rw [itF (by simp [hl])];have key:∀(d i:Nat),i+d=a.length->zcM a b i=some (if a.drop i=b.drop i then .inl () else .inr ()):=by
   intro d
   induction d with
   | zero=>
    intro i hi;rw [yg (show a.length<=i by omega),yg (show b.length<=i by omega),xx rfl];refine ziu ?_;unfold zau;rw [uN]
   | succ d ih=>
    intro i hi;have hia:i<a.length:=by omega
    have hib:i<b.length:=by omega
    rw [xS hia,xS hib];by_cases he:a[i]=b[i]
    ·have hb:zau a b i=some (.inl ((i+1:Nat):Int)):=by
      unfold zau;rw [uM,zI rfl hia,sb,zI rfl hib,sb,itF (by simp [he]),uO];push_cast;rfl
     rw [zme hb,ih (i+1) (by omega)];by_cases h:a.drop (i+1)=b.drop (i+1)
     ·rw [xx h,xx (by rw [he,h])]
     ·rw [xw h,xw (fun e=>h (by injection e))]
    ·rw [xw (fun e=>he (by injection e))];refine ziu ?_;unfold zau;rw [uM,zI rfl hia,sb,zI rfl hib,sb,itT (by simp [he])]
  have h:=key a.length 0 (by omega);have h':zcM a b 0=_:=h;rw [h',sb,xW,xW];by_cases he:a=b
  ·rw [xx he];simp [he]
  ·rw [xw he];simp [he]
 ·rw [uM];have:a≠b:=fun e=>hl (by rw [e])
  simp [this]
theorem zLj {way other:zz} (h:way.length<=1152921504606846976):zpR way other=some (!other.isEmpty&&begB way other):=by
 unfold zpR;cases other with
 | nil=>rw [itF (by simp),sb];rfl
 | cons y l=>
  rw [itT (by simp<;>omega)];by_cases hl:(y::l).length<=way.length
  ·rw [itT (by simp at hl|-;omega),zpB rfl hl,sb,zHn (by rw [yf];omega),sb,sb];congr 1;rw [List.isEmpty_cons,pT,xQ,yB,znE,xN,uK];exact ⟨fun h=>h.symm,fun h=>h.symm⟩
  ·rw [itF (by simp at hl|-;omega),sb];congr 1;rw [List.isEmpty_cons,pT,xQ]
   symm
   rw [<-qu,znE];exact fun hp=>hl hp.length_le
theorem zHj {a:zz} (h:a.length<=17592186043904):zeI a=some a:=by
 unfold zeI;have h1:(app 8 ([]:zz) a>>=fun v=>some v)=some a:=by rw [zga (by simp;omega),sb,xV]
 cases a with
 | nil=>exact zrB rfl h1
 | cons=>exact h1
theorem zCh {α:Type} (l:List α) (m:Nat) (d x:α):(l++List.replicate (m+1) d).set l.length x=(l++[x])++List.replicate m d:=by
 rw [List.set_append_right _ _ (xC _),pA,pY,List.set_cons_zero,yN];rfl
theorem zCY {ways:List zz} (hw:WW ways):∀(t:List zz) (k:Nat),ways.drop k=t->k<=ways.length->ziq ways (ways.take k++List.replicate (ways.length - k) []) k=some ways:=by
 have hl:=hw.1;intro t
 induction t with
 | nil=>
  intro k hd hk;have:=zbx hd;obtain rfl:k=ways.length:=by omega
  rw [qa,pA,uz,yG];refine ztV ?_;unfold zek;rw [itF (by simp)]
 | cons x t ih=>
  intro k hd hk;obtain ⟨hlt,hx,hd'⟩:=zba hd;have hln:(ways.take k).length=k:=by rw [yf];omega
  have hxl:=hw.2 x (hx▸xD hlt);refine (ztU (l':=ways.take (k+1)++List.replicate (ways.length - (k+1)) []) (v2':=((k+1:Nat):Int)) ?_).trans (ih (k+1) hd' (by omega));unfold zek;rw [uM,zI rfl hlt,sb,hx,zHj hxl,sb,zI rfl (show k<_ by rw [yd,qB,hln];omega),sb,uO,yk];have e:=zCh (ways.take k) (ways.length - (k+1)) ([]:zz) x;rw [hln,show ways.length - (k+1)+1=ways.length - k by omega] at e;rw [e,yx hlt,hx];push_cast;rfl
theorem zAf {ways:List zz} (hw:WW ways):zla ways=some ways:=by
 have hl:=hw.1;unfold zla;rw [zsk (a:=ways.length) rfl (yO _) (by omega),sb];have h:=zCY hw ways 0 rfl (xF _);rw [yE,xV,qf] at h;have h':ziq ways (List.replicate ways.length []) 0=_:=h;rw [h',sb]
theorem zDm {ways:List zz} (hw:WW ways):∀(t:List zz) (k:Nat) (last:zz),ways.drop k=t->last.length<=17592186043904->zir ways last k=some (if zlU last t=true then .inl () else .inr ()):=by
 have hl:=hw.1;intro t
 induction t with
 | nil=>
  intro k last hd _;have:=zbx hd;rw [zlU,xx rfl];refine znQ ?_;unfold zdC;rw [uN]
 | cons x t ih=>
  intro k last hd hll;obtain ⟨hlt,hx,hd'⟩:=zba hd;have hxl:=hw.2 x (hx▸xD hlt);have hb:zdC ways last k=if zAX last x then some (.inr (.inr ())) else some (.inl (x,((k+1:Nat):Int))):=by
   unfold zdC;rw [uM,zI rfl hlt,sb,hx,zEQ (by omega),sb,uO];unfold zAX;by_cases h0:0<=lexI last x
   ·rw [itT (by simpa using h0),sb,itT rfl,ya h0];rfl
   ·rw [itF (by simpa using h0),zLj (by omega),sb,sb,yb h0,q7];cases (!last.isEmpty&&begB x last) with
    | true=>rfl
    | false=>rw [itF rfl];push_cast;rfl
  rw [zlU];cases hs:zAX last x with
  | true=>
   rw [hs] at hb;rw [xw (by simp)];exact znQ hb
  | false=>
   rw [hs] at hb;rw [pT,xQ,ztW hb];exact ih (k+1) x hd' hxl
theorem zAq {ways:List zz} (hw:WW ways):zlb ways=some (decide (ofW ways=ways)):=by
 have h:=zDm hw ways 0 [] rfl (by simp);have h':zir ways [] 0=_:=h;unfold zlb;rw [h',sb];by_cases hc:zlU [] ways=true
 ·rw [xx hc];simp only;rw [ya (zAb.1 hc)]
 ·rw [xw hc];simp only;rw [yb (fun e=>hc (zAb.2 e))]
theorem zFR {σ ρ:Type} {kb:σ->zz->Option (σ⊕ρ)} {v:List zz} (hv:v.length<=1152921504606846976):∀(l:List zz) (i:Nat) (s:σ) (o:σ⊕ρ),v.drop i=l->go12 kb l s=some o->
  zbn (rnd kb) v (i:Int) (.inl s)=some (match o with| .inl s'=> .inl (.inl s')| .inr r=> .inr (.inr r)):=by
 intro l
 induction l with
 | nil=>
  intro i s o hd h;cases h;have:=zbx hd;refine zgp ?_;unfold zah;rw [uN]
 | cons x l ih=>
  intro i s o hd h;obtain ⟨hk,hx,hd'⟩:=zba hd;rw [go12] at h;cases hb:kb s x with
  | none=>rw [hb] at h;cases h
  | some q=>
   rw [hb] at h;cases q with
   | inl s'=>
    refine (zjY (v2':=((i+1:Nat):Int)) (sg2':= .inl s') ?_).trans (ih (i+1) s' o hd' h);unfold zah;rw [uM,zI rfl hk,sb,hx,zKf hb,sb,itF (c:= !true) rfl,uO];push_cast;rfl
   | inr r=>
    cases h;refine zgp ?_;unfold zah;rw [uM,zI rfl hk,sb,hx,zKg hb,sb,itT (c:= !false) rfl]
theorem zNu {σ ρ:Type} {kb:σ->zz->Option (σ⊕ρ)} {v:List zz} (hv:v.length<=1152921504606846976) {s:σ} {o:σ⊕ρ} (h:go12 kb v s=some o):zbl v (rnd kb) (.inl s)=some o:=by
 have h1:=zFR hv v 0 s o rfl h;have h2:zbn (rnd kb) v 0 (.inl s)=_:=h1;unfold zbl;rw [h2,sb];cases o<;>rfl
theorem zzX:∀(l acc:List zz),acc.length+l.length<=5864062014634->go12 (fun s x=>zO s x) l acc=some (.inl (acc++l))
 | [],acc,_=>by simp [go12]
 | x::l,acc,h=>by
  simp only [ye] at h;have hb:zO acc x=some (.inl (acc++[x])):=by
   unfold zO;rw [zga (by simp;omega),sb]
  rw [go12,hb];simp only;rw [zzX l (acc++[x]) (by simp;omega),yN];rfl
theorem zFK {l:List zz} (hw:WW l):zP l=some (zoM l):=by
 have hl:=hw.1;unfold zP zaO zav zbm zCj;rw [zNu (by omega) (zzX l [] (by simpa using hl)),sb];simp only [xV];rw [sb,sb,xx ⟨by omega,xG.2 fun x hx=>by have:=hw.2 x hx;simp;omega⟩,sb]
def sumW (l:List zz):Nat:=(l.map List.length).sum
theorem zBa (x:zz) (l:List zz):sumW (x::l)=x.length+sumW l:=by unfold sumW;simp
theorem zIe {a b:List zz} (h:a.Perm b):sumW a=sumW b:=(h.map List.length).sum_nat
theorem zHm {t:zux} {A:List zz} {P:List (zz×Int)} (h:zwu t A P) {way:zz} (hl:way.length<=1152921504606846976):zhu t way=some (hasB A way):=by
 have key:∀(d k:Nat) (i:Int),k+d=way.length->(way.take k,i)∈P->∃q,zfN t way i k=some q/\(match q with| .inl _=>false| .inr b=>b)=hasB A way:=by
  intro d
  induction d with
  | zero=>
   intro k i hk hp;refine ⟨.inl (),ziR ?_,?_⟩
   ·unfold zbk;rw [uN]
   ·rw [yT (by omega)] at hp;rw [zKy h hp]
  | succ d ih=>
   intro k i hk hp;have hlt:k<way.length:=by omega
   have hq:way.take k++[way[k]]=way.take (k+1):=(yx hlt).symm;have hpre:way.take k++[way[k]]<+:way:=by rw [hq];exact uy _ _
   by_cases hA:way.take k++[way[k]]∈A
   ·have hg:=h.1.leaf _ hp way[k] hA;simp only at hg;refine ⟨.inr true,ziR ?_,(zIi hpre (fun e=>absurd (List.append_eq_nil_iff.1 e).2 (by simp)) hA).symm⟩;unfold zbk;rw [uM,zI rfl hlt,sb,hg,itF (by rfl),itT (by rfl)]
   ·by_cases hP:∃j,(way.take k++[way[k]],j)∈P
    ·obtain ⟨j,hj⟩:=hP;have hg:=h.1.node _ hp way[k] _ hj rfl;have hid:=h.1.ids _ hj;simp only at hg hid;have hb:zbk t way i k=some (.inl (j,((k+1:Nat):Int))):=by
      unfold zbk;rw [uM,zI rfl hlt,sb,hg,itF (by rfl),itF (by simp<;>omega),uO];push_cast;rfl
     rw [zqJ hb];exact ih (k+1) j (by omega) (by rw [<-hq];exact hj)
    ·have hno:∀q∈P,q.1≠way.take k++[way[k]]:=fun q hq e=>hP ⟨q.2,by rw [<-e];exact hq⟩
     have hg:=h.1.none _ hp way[k] hA hno;simp only at hg;refine ⟨.inr false,ziR ?_,(zIj h hp hpre hA hno).symm⟩;unfold zbk;rw [uM,zI rfl hlt,sb,hg,itT (by rfl)]
 obtain ⟨q,h1,h2⟩:=key way.length 0 0 (by omega) (by rw [yE];exact h.1.root);have h1':zfN t way 0 0=some q:=h1;unfold zhu;rw [h1',sb,<-h2];cases q<;>rfl
theorem zMc {t:zux} {A:List zz} {P:List (zz×Int)} (h:zwu t A P) {way:zz} (hn:way≠[]) (hf:∀a∈A,¬way<+:a) (hb:∀a∈A,¬a<+:way) (hl:t.length+way.length<=4611686018427387904):
  ∃t' P',zlt t way=some t'/\zwu t' (A++[way]) P'/\t'.length<=t.length+way.length:=by
 have key:∀(d k:Nat) (t1:zux) (P1:List (zz×Int)) (i f f2:Int),k+d=way.length->Trie t1 A P1->(way.take k,i)∈P1->t1.length<=t.length+k->
   (∀r∈P1,r.1=[]\/(∃a∈A,r.1<+:a/\r.1≠a)\/r.1<+:way)->(k=0\/∃(p:zz) (j n:Int),(p,j)∈P1/\p++[n]=way.take k/\f=j/\f2=n)->
   ∃t2 P2 p j n i2,zht way t1 i k f f2=some (t2,j,n)/\Trie t2 A P2/\(p,j)∈P2/\p++[n]=way/\(way,i2)∈P2/\t2.length<=t.length+way.length/\∀r∈P2,r.1=[]\/(∃a∈A,r.1<+:a/\r.1≠a)\/r.1<+:way:=by
  intro d
  induction d with
  | zero=>
   intro k t1 P1 i f f2 hk ht hp hlen hx hlast;obtain rfl:k=way.length:=by omega
   rw [qa] at hp hlast;rcases hlast with h0| ⟨p,j,n,h1,h2,rfl,rfl⟩
   ·exact absurd (yq h0) hn
   ·refine ⟨t1,P1,p,f,f2,i,ztv ?_,ht,h1,h2,hp,hlen,hx⟩;unfold zcp;rw [itF (by simp)]
  | succ d ih=>
   intro k t1 P1 i f f2 hk ht hp hlen hx hlast;have hlt:k<way.length:=by omega
   have hq:way.take k++[way[k]]=way.take (k+1):=(yx hlt).symm;have hpre:way.take k++[way[k]]<+:way:=by rw [hq];exact uy _ _
   have hA:way.take k++[way[k]]∉A:=fun ha=>hb _ ha hpre
   by_cases hP:∃j,(way.take k++[way[k]],j)∈P1
   ·obtain ⟨j,hj⟩:=hP;have hg:=ht.node _ hp way[k] _ hj rfl;simp only at hg;have hbd:zcp way t1 i k f f2=some (.inl (t1,j,((k+1:Nat):Int),i,way[k])):=by
     unfold zcp;rw [uM,zI rfl hlt,sb,hg,itF (by rfl),uO];push_cast;rfl
    rw [znc hbd];exact ih (k+1) t1 P1 j i way[k] (by omega) ht (by rw [<-hq];exact hj) (by omega) hx (.inr ⟨way.take k,i,way[k],hp,hq,rfl,rfl⟩)
   ·have hno:∀q∈P1,q.1≠way.take k++[way[k]]:=fun q hq' e=>hP ⟨q.2,by rw [<-e];exact hq'⟩
    have hg:=ht.none _ hp way[k] hA hno;simp only at hg;have hw1:IntKind.i64.wrap ((t1.length:Int)+1)=((t1.length+1:Nat):Int):=by rw [uO];push_cast;rfl
    have hbd:zcp way t1 i k f f2=some (.inl (mput t1 ⟨i,way[k]⟩ ((t1.length+1:Nat):Int),((t1.length+1:Nat):Int),((k+1:Nat):Int),i,way[k])):=by
     unfold zcp;rw [uM,zI rfl hlt,sb,hg,itT (by rfl),hw1,zed,xx rfl,uO];push_cast;rfl
    rw [znc hbd];refine ih (k+1) _ _ _ i way[k] (by omega) (zKz ht hp hA hno) (xY _ (by rw [<-hq];exact xy)) (by rw [zDJ hg];omega) (fun r hr=>?_) (.inr ⟨way.take k,i,way[k],xX _ hp,hq,rfl,rfl⟩);rcases xE.1 hr with hr| hr
    ·exact hx r hr
    ·simp only [xT] at hr;rw [hr];exact .inr (.inr hpre)
 obtain ⟨t2,P2,p,j,n,i2,h1,h2,h3,h4,h5,h6,h7⟩:=key way.length 0 t P 0 0 0 (by omega) h.1 (by rw [yE];exact h.1.root) (by omega)
  (fun r hr=>by rcases h.2 r hr with h0| h0;exact .inl h0;exact .inr (.inl h0)) (.inl rfl)
 have h1':zht way t 0 0 0 0=some (t2,j,n):=h1;subst h4;obtain ⟨e,ht⟩:=zIh h2 h3 h5 hf hb h7;refine ⟨mput t2 ⟨j,n⟩ (-1),_,?_,ht,by rw [e];exact h6⟩;unfold zlt;rw [h1',sb]
theorem zHN {l:List zz} (hl:l.length<=5864062014634) (hx:∀w∈l,w.length<=17592186043904) (hs:l.Pairwise fun a b=>lexI a b<=0):∀(r:List zz) (k:Nat) (acc:List zz) (t:zux) (P:List (zz×Int)),l.drop k=r->k<=l.length->Fo (l.take k) acc->acc.length<=k->zwu t acc P->
  t.length+sumW r<=4611686018427387904->zlX l acc t k=some (ofW l):=by
 intro r
 induction r with
 | nil=>
  intro k acc t P hd hk hfo hal ht hsum;have:=zbx hd;obtain rfl:k=l.length:=by omega
  rw [qa] at hfo;refine zyA ?_;unfold zhc;rw [itF (by simp),zMj hfo]
 | cons x r ih=>
  intro k acc t P hd hk hfo hal ht hsum;obtain ⟨hlt,hxk,hd'⟩:=zba hd;have hxm:x∈l:=hxk▸xD hlt;have hxl:=hx x hxm;rw [zBa] at hsum;have hbe:∀a∈l.take k,lexI a x<=0:=fun a ha=>by
   obtain ⟨i,hi,rfl⟩:=qh ha;rw [pM,<-hxk];rw [yf] at hi;exact uA.1 hs i k (by omega) hlt (by omega)
  have htk:l.take (k+1)=l.take k++[x]:=by rw [yx hlt,hxk]
  have hstep:=zKZ hfo hbe;rw [<-htk] at hstep;have hg:(if (decide ((x.length:Int)>0))=true then (zhu t x>>=fun rv5=>some (!rv5)) else some false)=some (!x.isEmpty&& !hasB acc x):=by
   cases x with
   | nil=>rfl
   | cons y x'=>rw [itT (by simp<;>omega),zHm ht (by omega),sb];rfl
  unfold addL at hstep;cases hc:(!x.isEmpty&& !hasB acc x) with
  | true=>
   rw [hc,xx rfl] at hstep;have hc':=hc;simp only [xB,yn,qK] at hc';have hb:∀a∈acc,¬a<+:x:=fun a ha hp=>by
    have:=zgz.2 ⟨a,ha,hfo.mask.full a ha,hp⟩;rw [hc'.2] at this;cases this
   obtain ⟨t',P',h1,h2,h3⟩:=zMc ht hc'.1 (zGn hfo hbe hc'.2) hb (by omega);refine (zsg (l':=acc++[x]) (t':=t') (v':=((k+1:Nat):Int)) ?_).trans (ih (k+1) _ t' P' hd' (by omega) hstep (by simp;omega) h2 (by omega));unfold zhc;rw [uM,zI rfl hlt,sb,hxk,hg,sb,hc,itT rfl,h1,sb,zga (by simp;omega),sb,uO];push_cast;rfl
  | false=>
   rw [hc,xw (by simp)] at hstep;refine (zsg (l':=acc) (t':=t) (v':=((k+1:Nat):Int)) ?_).trans (ih (k+1) _ t P hd' (by omega) hstep (by omega) ht (by omega));unfold zhc;rw [uM,zI rfl hlt,sb,hxk,hg,sb,hc,itF rfl,uO];push_cast;rfl
def SW (w:List zz):Prop:=WW w/\sumW w<=4611686018427387904
theorem zJM {w:List zz} (hw:SW w):ztc w=some ⟨ofW w⟩:=by
 obtain ⟨hw,hsum⟩:=hw;unfold ztc;rw [zAq hw,sb];by_cases hm:ofW w=w
 ·rw [ya hm,itT rfl,zAf hw,sb,hm]
 ·have hp:=zun w;have hlen:=hp.length_eq;have hl:=hw.1;have h:=zHN (l:=zoM w) (by omega) (fun x hx=>hw.2 x (hp.mem_iff.1 hx)) (zEg w) (zoM w) 0 [] [] _ rfl (xF _) zMi (xF _) zKA (by rw [zIe hp];simpa using hsum);have h':zlX (zoM w) [] [] 0=_:=h;rw [yb hm,itF rfl];unfold zen;rw [sb,zFK hw,sb,h',sb,zJP hp,zAf (zMO hw),sb]
theorem zLB {l:List zz} {a b:Nat} (h:l.length<=a) (k:∀w∈l,w.length<=b):sumW l<=a*b:=by
 have key:∀l:List zz,(∀w∈l,w.length<=b)->sumW l<=l.length*b:=by
  intro l
  induction l with
  | nil=>intro _;simp [sumW]
  | cons x l ih=>
   intro k;have:=ih fun w hw=>k w (xz _ hw)
   have:=k x xy;rw [zBa,ye,yR];omega
 exact yi (key l k) (yu _ h)
def UW (w:List zz):Prop:=w.length<=4194304/\∀x∈w,x.length<=4194304
theorem UW.ww {w:List zz} (h:UW w):WW w:=⟨by have:=h.1;omega,fun x hx=>by have:=h.2 x hx;omega⟩
theorem UW.sw {w:List zz} (h:UW w):SW w:=⟨h.ww,yi (zLB h.1 h.2) (by decide)⟩
theorem UW.of {w:List zz} (h:UW w):UW (ofW w):=⟨yi (zGM w) h.1,fun x hx=>h.2 x (zml.1 hx).1⟩
theorem zsv {n:Int} {w u:zz} (h:zwk n w=some u):u≠[]/\w=n::u:=by
 unfold zwk at h;split at h
 ·split at h
  ·rename_i e;cases h;subst e;exact ⟨by simp,rfl⟩
  ·cases h
 ·cases h
theorem zDF {m:List zz} (h:zny m) (n:Int):zny (zie m n):=by
 have mem:∀u,u∈zie m n->u≠[]/\n::u∈m:=fun u hu=>by
  obtain ⟨w,hw,hr⟩:=qN.1 hu;obtain ⟨h1,rfl⟩:=zsv hr;exact ⟨h1,hw⟩
 refine ⟨?_,fun u hu=>(mem u hu).1,fun u hu v hv hp=>?_⟩
 ·unfold zie;refine uL (zwk n) (fun a b hab u hu v hv=>?_) h.sorted;obtain ⟨_,rfl⟩:=zsv hu;obtain ⟨_,rfl⟩:=zsv hv;rw [zdw,xx rfl] at hab;exact hab
 ·have:=h.anti _ (mem u hu).2 _ (mem v hv).2 (List.cons_prefix_cons.2 ⟨rfl,hp⟩);injection this
theorem UW.filter {w:List zz} (h:UW w) (p:zz->Bool):UW (w.filter p):=⟨yi (List.length_filter_le _ _) h.1,fun x hx=>h.2 x (yC.1 hx).1⟩
def flds {χ:Type} (fi:Mes->χ->Int) (s:List Mes):Fld->List χ->Option (List Fld)
 | _,[]=>some []
 | f,x::l=>if f.Kind≠17\/f.Repeated=true then none else if fi (zH s f.Of) x<0 then none
  else (flds fi s (zae (zH s f.Of) (fi (zH s f.Of) x)) l).map (zae (zH s f.Of) (fi (zH s f.Of) x)::·)
theorem zDg {χ:Type} {fi:Mes->χ->Int} {s:List Mes}:∀{l:List χ} {f:Fld} {r:List Fld},flds fi s f l=some r->r.length=l.length
 | [],_,_,h=>by cases h;rfl
 | x::l,f,r,h=>by
  rw [flds] at h;split at h
  ·cases h
  ·split at h
   ·cases h
   ·rw [ue] at h;obtain ⟨r',h1,rfl⟩:=h;rw [ye,zDg h1];rfl
theorem zwI {s:List Mes}:∀{l:zz} {f:Fld},f.Kind=17->f.Repeated=false->zcw s l f.Of=(flds fldI s f l).map fun r=>r.map (·.Name)
 | [],_,_,_=>rfl
 | [n],f,h1,h2=>by
  rw [zcw,flds,xw (show ¬(f.Kind≠17\/f.Repeated=true) by rw [h1,h2];simp)];by_cases h:fldI (zH s f.Of) n<0
  ·rw [xx h,xx h];rfl
  ·rw [xw h,xw h,flds];rfl
 | n::y::l,f,h1,h2=>by
  rw [zcw,flds,xw (show ¬(f.Kind≠17\/f.Repeated=true) by rw [h1,h2];simp)];by_cases h:fldI (zH s f.Of) n<0
  ·rw [xx h,xx h];rfl
  ·rw [xw h,xw h];by_cases hg:(zae (zH s f.Of) (fldI (zH s f.Of) n)).Repeated=true\/(zae (zH s f.Of) (fldI (zH s f.Of) n)).Kind≠17
   ·rw [xx hg,flds,xx (hg.elim .inr .inl)];rfl
   ·have hk:(zae (zH s f.Of) (fldI (zH s f.Of) n)).Kind=17:=by
     by_cases hk:(zae (zH s f.Of) (fldI (zH s f.Of) n)).Kind=17
     ·exact hk
     ·exact absurd (.inr hk) hg
    have hr:(zae (zH s f.Of) (fldI (zH s f.Of) n)).Repeated=false:=by
     cases hr:(zae (zH s f.Of) (fldI (zH s f.Of) n)).Repeated with
     | false=>rfl
     | true=>exact absurd (.inl hr) hg
    rw [xw hg,zwI hk hr];cases flds fldI s (zae (zH s f.Of) (fldI (zH s f.Of) n)) (y::l)<;>rfl
theorem zBr {s:List Mes} (hr:zeZ s) {steps:zz} (hl:steps.length<=1048576):∀(t:zz) (k:Nat) (acc:List Fld) (f:Fld),steps.drop k=t->acc.length<=k->(f.Kind=17->0<=f.Of/\f.Of<s.length)->
  zaW steps s acc k f.Name f.Number f.Kind f.Repeated f.Packed f.Of=some (match flds fldI s f t with| some r=> .inl (acc++r)| none=> .inr ()):=by
 intro t
 induction t with
 | nil=>
  intro k acc f hd ha hf;have:=zbx hd;rw [flds];simp only [yG];refine zdr ?_;unfold zQ;rw [uN]
 | cons x t ih=>
  intro k acc f hd ha hf;obtain ⟨hlt,hx,hd'⟩:=zba hd;rw [flds];by_cases hc:f.Kind≠17\/f.Repeated=true
  ·rw [xx hc];refine zdr ?_;unfold zQ;rw [uM,zI rfl hlt,sb,itT (by simpa using hc)]
  ·rw [xw hc];have hk:f.Kind=17:=by
    by_cases hk:f.Kind=17
    ·exact hk
    ·exact absurd (.inl hk) hc
   have hcr:f.Repeated=false:=by
    cases hr':f.Repeated with
    | false=>rfl
    | true=>exact absurd (.inr hr') hc
   obtain ⟨o1,o2⟩:=hf hk;obtain ⟨q,hq⟩:∃q:Nat,f.Of=q:=⟨f.Of.toNat,by omega⟩;have hql:q<s.length:=by omega
   have hmem:s[q]∈s:=xD hql;have hfew:=hr.few _ hmem;rw [hq,zeH hql];have hby:=zox (m:=s[q]) (by omega) x;unfold fldI;cases hi:s[q].Fields.findIdx? (fun g=>g.Number==x) with
   | none=>
    rw [hi] at hby;rw [ziF hi,xx (show (-1:Int)<0 by decide)];refine zdr ?_;unfold zQ;rw [uM,zI rfl hlt,sb,itF (by simp [hk,hcr]),zI rfl hql,sb,hx,hby,sb,itT (by rfl)]
   | some i=>
    rw [hi] at hby;have hil:i<s[q].Fields.length:=by
     rw [qH] at hi;exact hi.1
    have hfo:=hr.fld _ hmem _ (xD hil);rw [ziG hi,xw (by omega),zjI hil];have hb:zQ steps s acc k f.Name f.Number f.Kind f.Repeated f.Packed q=some (.inl (acc++[s[q].Fields[i]],((k+1:Nat):Int),s[q].Fields[i].Name,s[q].Fields[i].Number,s[q].Fields[i].Kind,s[q].Fields[i].Repeated,s[q].Fields[i].Packed,s[q].Fields[i].Of)):=by
     unfold zQ;rw [uM,zI rfl hlt,sb,itF (by simp [hk,hcr]),zI rfl hql,sb,hx,hby,sb,itF (by rfl),zI rfl hil,sb,zga (by simp;omega),sb,uO];push_cast;rfl
    rw [zjp hb,ih (k+1) _ _ hd' (by simp;omega) hfo.sub];show _=some (match (flds fldI s s[q].Fields[i] t).map (s[q].Fields[i]::·) with| some r=>Sum.inl (acc++r)| none=>Sum.inr ());cases flds fldI s s[q].Fields[i] t<;>simp
theorem zDQ {r:List Fld×Bool} (hl:r.1.length<=1048576):∀(t:List Fld) (k:Nat),r.1.drop k=t->k<=r.1.length->zis r ((r.1.take k).map (·.Name)++List.replicate (r.1.length - k) []) k=some (r.1.map (·.Name)):=by
 intro t
 induction t with
 | nil=>
  intro k hd hk;have:=zbx hd;obtain rfl:k=r.1.length:=by omega
  rw [qa,pA,uz,yG];refine ztZ ?_;unfold zel;rw [itF (by simp)]
 | cons x t ih=>
  intro k hd hk;obtain ⟨hlt,hx,hd'⟩:=zba hd;have hln:((r.1.take k).map (·.Name)).length=k:=by rw [yQ,yf];omega
  refine (ztY (names':=(r.1.take (k+1)).map (·.Name)++List.replicate (r.1.length - (k+1)) []) (v2':=((k+1:Nat):Int)) ?_).trans (ih (k+1) hd' (by omega));unfold zel;rw [uM,zI rfl hlt,sb,hx,zI rfl (show k<_ by rw [yd,qB,hln];omega),sb,uO,yk];have e:=zCh ((r.1.take k).map (·.Name)) (r.1.length - (k+1)) ([]:List UInt8) x.Name;rw [hln,show r.1.length - (k+1)+1=r.1.length - k by omega] at e;rw [e,yx hlt,hx,qE];push_cast;rfl
theorem zJL {s:List Mes} (hw:WS s) (root:Int):zpQ s root=some (zfa s root):=by
 unfold zpQ zfa;rw [znW hw,sb];cases hr:zeS s with
 | false=>rfl
 | true=>
  rw [itF (by rfl),xw (show ¬(true=false) by simp)];by_cases h:root<0\/root>=s.length
  ·rw [xx h,itT (by simpa using h)]
  ·rw [xw h,itF (by rw [<-qu];simpa using h)]
theorem zHQ {s:List Mes} (hr:zeZ s) {k:Nat} (hk:k<s.length) {way:zz} (hl:way.length<=1048576):zmG s k way=some (if (zfB s k way).2=true then ((zfB s k way).1,0) else ([],10)):=by
 have h:=zBr hr hl way 0 [] ⟨[],0,17,false,false,(k:Int)⟩ rfl (xC _) (fun _=>⟨by simp,by simp only;omega⟩);have h':zaW way s [] 0 [] 0 17 false false k=_:=h;have hnf:=zwI (s:=s) (l:=way) (f:=⟨[],0,17,false,false,(k:Int)⟩) rfl rfl;simp only at hnf;unfold zmG zdj zfB;rw [h',sb];cases hf:flds fldI s ⟨[],0,17,false,false,(k:Int)⟩ way with
 | none=>
  rw [hf] at hnf;rw [hnf];simp only [sb,uh];rw [itT (by rfl),xw (by simp)]
 | some r=>
  rw [hf] at hnf;obtain ⟨g1,g2⟩:=zvY hr way k _ hk hnf;rw [hnf];have hrl:=zDg hf;simp only [sb,xV,pm];rw [itF (by rfl),zsk (a:=r.length) rfl (yO _) (by omega),sb];have hlp:=zDQ (r:=(r,true)) (by simp only;omega) r 0 rfl (xF _);simp only [yE,yX,xV,qf] at hlp;have hlp':zis (r,true) (List.replicate r.length []) 0=_:=hlp;rw [hlp',sb,zJV (by rw [yQ];omega) (fun x hx=>by have:=(zyF (g2 x hx)).2;omega),sb];have hn:znk (r.map (·.Name))=decide (1<=(r.map (·.Name)).length/\(r.map (·.Name)).length<=65):=by
   unfold znk;rw [xG.2 g2,xQ]
  rw [hn]
  generalize decide (1<=(r.map (·.Name)).length/\(r.map (·.Name)).length<=65)=b
  cases b<;>rfl
theorem zFC {s:List Mes} (hr:zeZ s) {q:Nat} (hq:q<s.length) {ways:List zz} (hw:WW ways) (hl:∀w∈ways,w.length<=1048576):∀(t:List zz) (k:Nat) (us:List (List UInt8)),ways.drop k=t->k<=ways.length->us.length=k->
  zjh ⟨ways⟩ q s (us++List.replicate (ways.length - k) []) k=some (if (t.all fun w=>(zfB s q w).2)=true then .inl (us++t.map fun w=>(zfB s q w).1) else .inr 10):=by
 have hwl:=hw.1;intro t
 induction t with
 | nil=>
  intro k us hd hk hu;have:=zbx hd;obtain rfl:k=ways.length:=by omega
  rw [pA,uz,yG,List.all_nil,xx rfl,yX,yG];refine zoF ?_;unfold zdH;simp only;rw [itF (by simp)]
 | cons x t ih=>
  intro k us hd hk hu;obtain ⟨hlt,hx,hd'⟩:=zba hd;have hxl:=hl x (hx▸xD hlt);have hp:=zHQ hr hq hxl;rw [yr];cases hc:(zfB s q x).2 with
  | false=>
   rw [hc,xw (by simp)] at hp;rw [yJ,xw (by simp)];refine zoF ?_;unfold zdH;simp only;rw [uM,zI rfl hlt,sb,hx,hp,sb,itT (by rfl)]
  | true=>
   rw [hc,xx rfl] at hp;have e:=zCh us (ways.length - (k+1)) ([]:List UInt8) (zfB s q x).1;rw [hu,show ways.length - (k+1)+1=ways.length - k by omega] at e;have hb:zdH ⟨ways⟩ q s (us++List.replicate (ways.length - k) []) k=some (.inl ((us++[(zfB s q x).1])++List.replicate (ways.length - (k+1)) [],((k+1:Nat):Int))):=by
    unfold zdH;simp only;rw [uM,zI rfl hlt,sb,hx,hp,sb,itF (by rfl),zI rfl (show k<_ by rw [yd,qB];omega),sb,uO,yk,e];push_cast;rfl
   rw [zuY hb,ih (k+1) _ hd' (by omega) (by simp;omega),xQ,xU,yN];rfl
theorem zHL {s:List Mes} (root:Int) {ways:List zz} (hw:WS s) (hW:WW ways) (hl:∀w∈ways,w.length<=1048576):znP s root ⟨ways⟩=some (zFB s root ways):=by
 unfold znP zFB;rw [zJL hw,sb];by_cases h:zfa s root=0
 ·obtain ⟨hr,h1,h2⟩:=zrC h;obtain ⟨q,rfl⟩:∃k:Nat,root=k:=⟨root.toNat,by omega⟩;have hlen:=hW.1;rw [itF (by simpa using h),xw (show ¬(zfa s q≠0) from fun hh=>hh h)];simp only;rw [zAq hW,sb];by_cases hm:ofW ways=ways
  ·have hlp:=zFC hr (q:=q) (by omega) hW hl ways 0 [] rfl (xF _) rfl;rw [xV,qf] at hlp;have hlp':zjh ⟨ways⟩ q s (List.replicate ways.length []) 0=_:=hlp;rw [ya hm,itF (by rfl),zsk (a:=ways.length) rfl (yO _) (by omega),sb,hlp',sb];by_cases ha:(ways.all fun w=>(zfB s q w).2)=true
   ·rw [xx ha,xx ⟨hm,ha⟩];rfl
   ·rw [xw ha,xw (fun hh=>ha hh.2)]
  ·rw [yb hm,itT (by rfl),xw (fun hh=>hm hh.1)]
 ·rw [itT (by simpa using h),xx h]
def zfO (l:List Vlu):List (Int×Vlu):=l.map fun v=>(v.Number,v)
theorem zkz:∀(l:List Vlu) (n:Int),mget (zfO l) n=look l n
 | [],n=>rfl
 | v::l,n=>by
  show mget ((v.Number,v)::zfO l) n=_;rw [mget,zdx,zkz l n];by_cases h:n=v.Number
  ·rw [xx h,xx h.symm]
  ·rw [xw h,xw (fun e=>h e.symm)]
theorem zFu {m:List (Int×Vlu)} {n:Int} (h:mget m n=none) (v:Vlu):mput m n v=m++[(n,v)]:=by
 induction m with
 | nil=>rfl
 | cons p m ih=>
  rw [mget] at h;split at h
  ·cases h
  ·rename_i hn;rw [mput,xw hn,ih h];rfl
theorem zwF {l:List Vlu} (hr:zeT l) {k:Nat} (hk:k<l.length):look (l.take k) (l[k]).Number=none:=by
 cases h:look (l.take k) (l[k]).Number with
 | none=>rfl
 | some u=>
  obtain ⟨h1,h2⟩:=zdk h;obtain ⟨i,hi,e⟩:=qh h2;rw [yf] at hi;rw [pM] at e;have:=(uA.1 hr) i k (by omega) hk (by omega);rw [e] at this;omega
theorem zHf {x:Msg} (hr:zeT x.Values) (hl:x.Values.length<=1048576):∀(t:List Vlu) (k:Nat),x.Values.drop k=t->k<=x.Values.length->zfj x (zfO (x.Values.take k)) k=some (zfO x.Values):=by
 intro t
 induction t with
 | nil=>
  intro k hd hk;have:=zbx hd;obtain rfl:k=x.Values.length:=by omega
  rw [qa];refine zpz ?_;unfold zcf;rw [itF (by simp)]
 | cons v t ih=>
  intro k hd hk;obtain ⟨hlt,hx,hd'⟩:=zba hd;refine (zpy (values':=zfO (x.Values.take (k+1))) (v':=((k+1:Nat):Int)) ?_).trans (ih (k+1) hd' (by omega));unfold zcf;rw [uM,zI rfl hlt,sb,uO,zFu (by rw [zkz];exact zwF hr hlt),yx hlt];unfold zfO;rw [qE];push_cast;rfl
theorem zxl {x:Msg} (hr:zeT x.Values) (hl:x.Values.length<=1048576):zfG x=some (zfO x.Values):=by
 unfold zfG;have h:=zHf hr hl x.Values 0 rfl (xF _);have h':zfj x [] 0=_:=h;rw [h',sb]
theorem zJS {m:List (Int×Vlu)} {ks:List Int} (hl:ks.length<=4194304):∀(t:List Int) (k:Nat),ks.drop k=t->k<=ks.length->zfI ks m ((ks.take k).map fun n=>(mget m n).getD zvlu) k=some (ks.map fun n=>(mget m n).getD zvlu):=by
 intro t
 induction t with
 | nil=>
  intro k hd hk;have:=zbx hd;obtain rfl:k=ks.length:=by omega
  rw [qa];refine zqs ?_;unfold zcC;rw [itF (by simp)]
 | cons v t ih=>
  intro k hd hk;obtain ⟨hlt,hx,hd'⟩:=zba hd;refine (zqr (l':=(ks.take (k+1)).map fun n=>(mget m n).getD zvlu) (v3':=((k+1:Nat):Int)) ?_).trans (ih (k+1) hd' (by omega));unfold zcC;rw [uM,zI rfl hlt,sb,zga (by simp;omega),sb,uO,yx hlt,qE];push_cast;rfl
theorem zFA {m:List (Int×Vlu)} (hn:(m.map Prod.fst).Nodup) (hv:∀n v,mget m n=some v->v.Number=n) (hw:∀n∈m.map Prod.fst,(Lit.int .i64 n).wf=true) (hl:m.length<=4194304):
  ∃l,zdd m=some l/\zeT l/\∀n,look l n=mget m n:=by
 have hall:(m.all fun p=>(Lit.int .i64 p.1).wf)=true:=by
  rw [xG];exact fun p hp=>hw p.1 (qm hp)
 obtain ⟨ks,hks⟩:∃ks,ks=(m.map Prod.fst).mergeSort fun x y=>decide (x<=y):=⟨_,rfl⟩
 have hp:=ul (m.map Prod.fst) fun x y=>decide (x<=y)
 have hs:=uk (le:=fun x y:Int=>decide (x<=y)) (fun a b c h k=>by simp at*;omega) (fun a b=>by simp;omega) (m.map Prod.fst);rw [<-hks] at hp hs;have hnd:=hp.nodup_iff.2 hn;have hlt:ks.Pairwise (·<·):=(List.Pairwise.and hs hnd).imp fun {a b} h=>by
  have h1:a<=b:=by simpa using h.1
  have h2:a≠b:=h.2;omega
 have hkl:ks.length=m.length:=by rw [hp.length_eq,yQ]
 have hsome:∀n∈ks,∃v,mget m n=some v:=fun n h=>by
  cases hg:mget m n with
  | some v=>exact ⟨v,rfl⟩
  | none=>exact absurd (hp.mem_iff.1 h) (zpS hg)
 refine ⟨ks.map fun n=>(mget m n).getD zvlu,?_,?_,fun n=>?_⟩
 ·unfold zdd;rw [zLn (by omega) (by omega),sb];unfold zyu;rw [xx ⟨hall,by omega⟩,<-hks,sb];have h:=zJS (m:=m) (ks:=ks) (by omega) ks 0 rfl (xF _);have h':zfI ks m [] 0=_:=h;rw [h',sb]
 ·unfold zeT;rw [pt];refine hlt.imp_of_mem fun {a b} ha hb h=>?_
  obtain ⟨v,e1⟩:=hsome a ha;obtain ⟨u,e2⟩:=hsome b hb;rw [e1,e2];show v.Number<u.Number;rw [hv a v e1,hv b u e2];exact h
 ·have key:∀l:List Int,(∀n∈l,∃v,mget m n=some v)->look (l.map fun n=>(mget m n).getD zvlu) n=if n∈l then mget m n else none:=by
   intro l
   induction l with
   | nil=>intro _;rfl
   | cons a l ih=>
    intro ha;obtain ⟨v,e1⟩:=ha a xy;rw [xU,zdx,ih fun n h=>ha n (xz _ h),e1];show (if v.Number=n then some v else _)=_;rw [hv a v e1];by_cases h:a=n
    ·subst h;rw [xx rfl,xx xy,e1]
    ·rw [xw h];by_cases h2:n∈l
     ·rw [xx h2,xx (xz _ h2)]
     ·rw [xw h2,xw (fun hc=>(xA.1 hc).elim (fun e=>h e.symm) h2)]
  rw [key ks hsome];by_cases h:n∈ks
  ·rw [xx h]
  ·rw [xw h];cases hg:mget m n with
   | none=>rfl
   | some v=>exact absurd (hp.mem_iff.2 (zDH hg)) h
theorem znp (v:Vlu):zfU v=some (v.Subs.headD zkg):=by
 unfold zfU;cases h:v.Subs with
 | nil=>rfl
 | cons y l=>
  rw [uN];rfl
theorem zsM (n:Int) (x:Msg):zje n x=some ⟨n,[],[],[x]⟩:=rfl
theorem zAl {m:Mes} {n:Int} (h:0<=fldI m n):fldI m n<m.Fields.length/\(zae m (fldI m n)).Number=n:=by
 rcases zia m n with ⟨e,_⟩| ⟨i,hi,e,hn,_⟩
 ·omega
 ·rw [e];refine ⟨by omega,?_⟩;unfold zae;rw [yk,qJ,xI hi];exact hn
theorem zvH {m:Mes} {n:Int} (hl:m.Fields.length<=140737488351232) (h:0<=fldI m n):zhV m n=some (zae m (fldI m n)):=by
 unfold zhV;rw [zox hl,sb];have h0:=h;unfold fldI zlq at h0;cases hf:m.Fields.findIdx? (fun f:Fld=>f.Number==n) with
 | none=>rw [hf] at h0;simp at h0
 | some i=>
  have e:fldI m n=i:=by unfold fldI zlq;rw [hf]
  have hi:i<m.Fields.length:=by have:=(zAl h).1;omega
  rw [e,zI rfl hi,sb];unfold zae;rw [yk,qJ,xI hi];rfl
structure Ok15 (fuel:Nat) (x:Msg):Prop where
 b:bdM x
 s:smM x
 z:2*szM x<fuel
 d:szM x<=131072
theorem Ok15.dm {fuel:Nat} {x:Msg} (h:Ok15 fuel x):dM x<=131072:=by have:=zCZ x;have:=h.d;omega
theorem Ok15.right {fuel:Nat} {x:Msg} (h:Ok15 fuel x) {s:List Mes} (hw:WS s) (root:Int):zmg fuel s root x=some (zeS s&&zao s x root):=zFP root h.z hw h.b h.s h.dm
theorem zxN {fuel:Nat} {s:List Mes} (root:Int) {l:List Msg} (hw:WS s) (hne:l≠[]) (hl:l.length<=1048576) (hx:∀x∈l,Ok15 fuel x):ziL fuel s root l=some (zdo s root l):=by
 have hloop:∀(t:List Msg) (k:Nat),l.drop k=t->k<=l.length->(∃j:Nat,zJ fuel l s root k=some (.inr j)/\t.all (fun x=>zeS s&&zao s x root)=false)\/
   zJ fuel l s root k=some (.inl ())/\t.all (fun x=>zeS s&&zao s x root)=true:=by
  intro t
  induction t with
  | nil=>
   intro k hd hk;have:=zbx hd;refine .inr ⟨zcG ?_,rfl⟩;unfold zG;rw [uN]
  | cons v t ih=>
   intro k hd hk;obtain ⟨hlt,hv,hd'⟩:=zba hd;have h1:zjA fuel v s root=some (!(zeS s&&zao s v root)):=by
    unfold zjA;rw [(hx v (hv▸xD hlt)).right hw,sb]
   cases hb:zeS s&&zao s v root with
   | false=>
    refine .inl ⟨k,zcG ?_,by rw [yr,hb];rfl⟩;unfold zG;rw [uM,zI rfl hlt,sb,hv,h1,sb,itT (by rw [hb];rfl)]
   | true=>
    have hs:zJ fuel l s root k=zJ fuel l s root ((k+1:Nat):Int):=by
     refine zfz ?_;unfold zG;rw [uM,zI rfl hlt,sb,hv,h1,sb,itF (by rw [hb];rfl),uO];push_cast;rfl
    rw [hs];rcases ih (k+1) hd' (by omega) with ⟨j,g1,g2⟩| ⟨g1,g2⟩
    ·exact .inl ⟨j,g1,by rw [yr,hb,g2];rfl⟩
    ·exact .inr ⟨g1,by rw [yr,hb,g2];rfl⟩
 have hc:zap fuel l s root=some (!l.all (fun x=>zeS s&&zao s x root)):=by
  unfold zap zaP;rcases hloop l 0 rfl (xF _) with ⟨j,g1,g2⟩| ⟨g1,g2⟩
  ·have g1':zJ fuel l s root 0=_:=g1;rw [g1',sb,g2];simp only;rw [sb,ya (by omega)];rfl
  ·have g1':zJ fuel l s root 0=_:=g1;rw [g1',sb,g2];simp only;rw [sb];rfl
 unfold ziL;rw [hc,sb];cases hr:zeS s with
 | false=>
  obtain ⟨x,l',rfl⟩:=qO hne;have hm:zdo s root (x::l')=9:=by unfold zdo zfa;rw [hr];rfl
  rw [hm,itF (by simp),znW hw,sb,hr,itT (by rfl)]
 | true=>
  by_cases hroot:root<0\/root>=s.length
  ·obtain ⟨x,l',rfl⟩:=qO hne;have hx0:zao s x root=false:=by
    cases h:zao s x root with
    | false=>rfl
    | true=>obtain ⟨a,b,_⟩:=zaS h;omega
   have ha:zfa s root=2:=by unfold zfa;rw [hr,xw (show ¬true=false by simp),xx hroot]
   have hm:zdo s root (x::l')=2:=by unfold zdo;rw [ha];rfl
   rw [hm,itF (by simp [hx0]),znW hw,sb,hr,itF (by rfl),itT (by simpa using hroot)]
  ·have ha:zfa s root=0:=by unfold zfa;rw [hr,xw (show ¬true=false by simp),xw hroot]
   have hm:zdo s root l=if l.all (fun x=>zao s x root)=true then 0 else 12:=by unfold zdo;rw [ha];rfl
   rw [hm];simp only [xQ,Bool.not_not];cases hall:l.all (fun x=>zao s x root) with
   | true=>rw [itT (by rfl),xx rfl]
   | false=>
    rw [itF (by rfl),znW hw,sb,hr,itF (by rfl),uN];rfl
def zoO (s:List Mes) (root:Int) (x:Msg) (way:zz):Int:=if zdo s root [x]≠0 then zdo s root [x] else if (zfB s root way).2=false then 10 else 0
theorem zwU {s:List Mes} {root:Int} {x:Msg} {way:zz} (h:zdo s root [x]≠0):zoO s root x way=zdo s root [x]:=by unfold zoO;rw [xx h]
theorem zwV {s:List Mes} {root:Int} {x:Msg} {way:zz} (h:zdo s root [x]=0) (hp:(zfB s root way).2=false):zoO s root x way=10:=by unfold zoO;rw [xw (fun k=>k h),xx hp]
theorem zvC {s:List Mes} {root:Int} {x:Msg} {way:zz} (h:zdo s root [x]=0) (hp:(zfB s root way).2=true):zoO s root x way=0:=by unfold zoO;rw [xw (fun k=>k h),xw (by rw [hp];simp)]
theorem zxM {fuel:Nat} {s:List Mes} (root:Int) {x:Msg} {way:zz} (hw:WS s) (hx:Ok15 fuel x) (hl:way.length<=1048576):
  zih fuel s root x way=some (zoO s root x way):=by
 unfold zoO zih;rw [zxN root hw (by simp) (by simp) (fun y hy=>by rw [xT.1 hy];exact hx),sb];by_cases h0:zdo s root [x]=0
 ·rw [itF (by simp [h0]),xw (fun h=>h h0),zHL root hw ⟨by simp,fun w hm=>by rw [xT.1 hm];omega⟩ (fun w hm=>by rw [xT.1 hm];exact hl),sb];have ha:zfa s root=0:=by
   unfold zdo at h0;by_cases h:zfa s root=0
   ·exact h
   ·rw [xx h] at h0;exact absurd h0 h
  unfold zFB;rw [xw (fun h=>h ha)];cases hp:(zfB s root way).2 with
  | false=>rw [xw (by simp [hp]),xx rfl]
  | true=>
   have hne:way≠[]:=fun e=>by subst e;unfold zfB at hp;simp [zcw] at hp
   have hof:ofW [way]=[way]:=by
    refine zoN _ _ (znR _) (uJ _ _) fun w=>?_
    rw [zml];constructor
    ·exact fun h=>h.1
    ·intro h;rw [xT] at h;subst h;exact ⟨xT.2 rfl,hne,fun v hv _ _=>xT.1 hv⟩
   rw [xx ⟨hof,by simp [hp]⟩,xw (by simp)]
 ·rw [itT (by simp [h0]),xx h0]
theorem zBh {v:Vlu} (hb:v.Words.length<=140737488351232/\v.Texts.length<=140737488351232/\v.Subs.length<=140737488351232):zdS v=some (decide (0<zcb v)):=by
 unfold zdS zcb;rw [zt (by rw [uO];omega),uO];congr 1;simp only [yZ];omega
def zqR (n:Int):zz->Option zz
 | []=>none
 | x::l=>if x=n then some l else none
def ziS (w:List zz) (n:Int):List zz:=w.filterMap (zqR n)
theorem zoI {n:Int} {w u:zz} (h:zqR n w=some u):w=n::u:=by
 cases w with
 | nil=>cases h
 | cons x l=>
  rw [zqR] at h;split at h
  ·rename_i e;cases h;rw [e]
  ·cases h
theorem zBt {ways:List zz} (hw:WW ways) (hne:∀w∈ways,w≠[]):∀(t:List zz) (i:Nat) (q:List (Int×List zz)),ways.drop i=t->i<=ways.length->(∀n,(mget q n).getD []=ziS (ways.take i) n)->
  ∃q',zfF ways q i=some q'/\∀n,(mget q' n).getD []=ziS ways n:=by
 have hl:=hw.1;intro t
 induction t with
 | nil=>
  intro i q hd hi hq;have:=zbx hd;obtain rfl:i=ways.length:=by omega
  rw [qa] at hq;refine ⟨q,zqp ?_,hq⟩;unfold zcB;rw [itF (by simp)]
 | cons w t ih=>
  intro i q hd hi hq;obtain ⟨hlt,hv,hd'⟩:=zba hd;have hwm:w∈ways:=hv▸xD hlt;obtain ⟨x,l,rfl⟩:=qO (hne w hwm);have hlen:((mget q x).getD []).length<=i:=by
   rw [hq];exact yi (uI _ _) (by rw [yf];omega)
  obtain ⟨q',g1,g2⟩:=ih (i+1) (mput q x ((mget q x).getD []++[l])) hd' (by omega) fun n=>by
   rw [zed,yx hlt,hv];unfold ziS;rw [List.filterMap_append];by_cases e:n=x
   ·subst e;rw [xx rfl,yz,hq];simp [ziS,zqR]
   ·rw [xw e,hq];have:zqR n (x::l)=none:=by rw [zqR,xw (fun e'=>e e'.symm)]
    simp [ziS,this]
  refine ⟨q',(zqo (rests':=mput q x ((mget q x).getD []++[l])) (v':=((i+1:Nat):Int)) ?_).trans g1,g2⟩;unfold zcB;rw [uM,zI rfl hlt,sb,hv,show idx (x::l) 0=some x from rfl,sb,zrG,sb,zga (by simp;omega),sb,uO];push_cast;rfl
theorem zEY {ways:List zz} (hw:WW ways) (hne:∀w∈ways,w≠[]):∃q,ziV ways=some q/\∀n,(mget q n).getD []=ziS ways n:=by
 obtain ⟨q,g1,g2⟩:=zBt hw hne ways 0 [] rfl (xF _) (fun n=>rfl);refine ⟨q,?_,g2⟩;unfold ziV;have g1':zfF ways [] 0=_:=g1;rw [g1',sb]
theorem zEb {w:List zz} (hm:zny w) {n:Int} (h:ziA w n=true):ziS w n=[[]]:=by
 have hin:[n]∈w:=by
  unfold ziA at h;rw [pI] at h;obtain ⟨v,hv,e⟩:=h;rw [pR] at e;exact e▸hv
 have hall:∀u∈ziS w n,u=[]:=fun u hu=>by
  obtain ⟨v,hv,e⟩:=qN.1 hu;have e2:=zoI e;subst e2;have:=hm.anti [n] hin _ hv ⟨u,rfl⟩;simpa using this.symm
 have hnd:(ziS w n).Nodup:=by
  unfold ziS;refine uL (zqR n) (fun a b hab u hu v hv e=>?_) hm.sorted;rw [zoI hu,zoI hv,e,zjR] at hab;cases hab
 have hmem:[]∈ziS w n:=qN.2 ⟨[n],hin,by rw [zqR,xx rfl]⟩;cases hr:ziS w n with
 | nil=>rw [hr] at hmem;cases hmem
 | cons a l=>
  rw [hr] at hall hnd;have ha:=hall a xy;cases l with
  | nil=>rw [ha]
  | cons b l=>
   have hb:=hall b (by simp);rw [ha,hb] at hnd;simp at hnd
theorem zyj {α β:Type} {f g:α->Option β}:∀{l:List α},(∀x∈l,f x=g x)->l.filterMap f=l.filterMap g
 | [],_=>rfl
 | x::l,h=>by
  rw [List.filterMap_cons,List.filterMap_cons,h x xy,zyj fun y hy=>h y (xz _ hy)]
theorem zsw {w:List zz} {n:Int} (h:ziA w n=false):ziS w n=zie w n/\∀u∈ziS w n,u≠[]:=by
 have hno:∀v∈w,v≠[n]:=fun v hv e=>by
  unfold ziA at h;rw [up] at h;exact h v hv (by rw [e];simp)
 refine ⟨?_,fun u hu e=>?_⟩
 ·unfold ziS zie;refine zyj fun v hv=>?_
  cases v with
  | nil=>rfl
  | cons x l=>
   cases l with
   | nil=>
    show (if x=n then some [] else none)=none;by_cases e:x=n
    ·exact absurd (by rw [e]) (hno _ hv)
    ·rw [xw e]
   | cons y l=>rw [zqR,zwk]
 ·obtain ⟨v,hv,e2⟩:=qN.1 hu;have:=zoI e2;rw [e] at this;exact hno v hv this
theorem zyP (s:List Mes) (m:Mes) (w:List zz) (keep:Bool):∀(l k:List Vlu),zep s (l++k) m w keep=zep s l m w keep++zep s k m w keep
 | [],k=>rfl
 | v::l,k=>by rw [yw,zep,zep,zyP s m w keep l k,yN]
theorem zyQ (s:List Mes) (m:Mes) (w:List zz) (keep:Bool):∀(l:List Vlu),(zep s l m w keep).length<=l.length
 | []=>by rw [zep];exact xC _
 | v::l=>by
  have h1:=zAO s v (zae m (fldI m v.Number)) w keep;have h2:=zyQ s m w keep l;rw [zep,yd,ye];omega
theorem zFW {s:List Mes} (hs:zeZ s):∀(fuel:Nat) (x:Msg) (k:Nat) (w:List zz) (keep:Bool),szM x<fuel->k<s.length->zao s x k=true->bdM x->smM x->zny w->WW w->zjC fuel s k x w keep=some (zoG s x k w keep)
 | 0,x,k,w,keep,h,_,_,_,_,_,_=>by omega
 | fuel+1,x,k,w,keep,hz,hk,hx,hb,hsm,hM,hW=>by
  obtain ⟨_,_,r3,r4,_⟩:=zaS hx;have sx:=(zgF x).1 hsm;have bx:=(zdK x).1 hb;have hm:zH s (k:Int)=s[k]:=zeH hk;have hfew:=hs.few s[k] (xD hk);rw [zcy] at hz;obtain ⟨q,q1,q2⟩:=zEY hW hM.full;have key:∀(t:List Vlu) (i:Nat),x.Values.drop i=t->i<=x.Values.length->zii keep k (zjC fuel) q s x i (zep s (x.Values.take i) (zH s k) w keep)=some (zep s x.Values (zH s k) w keep):=by
   intro t
   induction t with
   | nil=>
    intro i hd hi;have:=zbx hd;obtain rfl:i=x.Values.length:=by omega
    rw [qa];refine ztK ?_;unfold zee;rw [itF (by simp)]
   | cons v t ih=>
    intro i hd hi;obtain ⟨hlt,hv,hd'⟩:=zba hd;have hvm:v∈x.Values:=hv▸xD hlt;have hf:=(r4 v hvm).1;have hpl:=zyQ s (zH s k) w keep (x.Values.take i);rw [yf] at hpl;have hstep:zep s (x.Values.take (i+1)) (zH s k) w keep=zep s (x.Values.take i) (zH s k) w keep++zwM s v (zae (zH s k) (fldI (zH s k) v.Number)) w keep:=by
     rw [yx hlt,hv,zyP,zep,zep,yG]
    refine (ztJ (v':=((i+1:Nat):Int)) (f2':=zep s (x.Values.take (i+1)) (zH s k) w keep) ?_).trans (ih (i+1) hd' (by omega));rw [hstep,zpV];unfold zee;rw [uM,zI rfl hlt,sb,hv,zI rfl hk,sb,<-hm,zvH (by rw [hm];omega) hf,sb,q2,uO];have hg:(if ((((ziS w v.Number).length:Nat):Int)==1)=true then idx (ziS w v.Number) 0>>=fun x4=>some ((x4.length:Int)==0) else some false)=some (ziA w v.Number):=by
     cases hwb:ziA w v.Number with
     | true=>rw [zEb hM hwb];rfl
     | false=>
      obtain ⟨_,h2⟩:=zsw hwb;by_cases h1:(ziS w v.Number).length=1
      ·obtain ⟨u,hu⟩:∃u,ziS w v.Number=[u]:=List.length_eq_one_iff.1 h1;have hu':=h2 u (by rw [hu];exact xy);have hl:u.length≠0:=fun e=>hu' (yq e)
       rw [hu,itT (by rfl),show idx [u] 0=some u from rfl,sb];congr 1;simpa using hl
      ·rw [uN]
    rw [hg,sb];by_cases hc:ziA w v.Number=false/\zie w v.Number≠[]/\(zae (zH s k) (fldI (zH s k) v.Number)).Kind=17/\(zae (zH s k) (fldI (zH s k) v.Number)).Repeated=false
    ·obtain ⟨c1,c2,c3,c4⟩:=id hc;have hu:=(zsw c1).1
     have hul:0<(zie w v.Number).length:=by cases h:zie w v.Number with
      | nil=>exact absurd h c2
      | cons=>simp
     obtain ⟨y,ey,ry⟩:=(zgM (r4 v hvm).2).msg c3 c4;have ysub:v.Subs=[y]:=by rw [ey]
     obtain ⟨k0,k1,_⟩:=zaS ry;obtain ⟨j,hj⟩:∃j:Nat,(zae (zH s k) (fldI (zH s k) v.Number)).Of=j:=⟨(zae (zH s k) (fldI (zH s k) v.Number)).Of.toNat,by omega⟩;have hsz:=zdE hvm;rw [zfR,ysub] at hsz;simp only [szMs] at hsz;have by':bdM y:=zdz.1 ((zeP v).1 (zcF.1 bx.2.2 v hvm)).2.2.2.2 y (by rw [ysub];exact xy)
     have sy:smM y:=zhO.1 ((zmW v).1 (zhP.1 sx.2.2 v hvm)).2.2.2 y (by rw [ysub];exact xy);rw [hj] at ry;rw [xx hc,hu,itT (by simp [c1,c3,c4,hul]),znp,sb,ysub,qC,hj,zFW hs fuel y j _ keep (by omega) (by omega) ry by' sy (zDF hM _) (zIm hW _),sb,zsM,sb];simp only;rw [zga (by simp;omega),sb,zqM];push_cast;rfl
    ·rw [xw hc,itF ?_]
     ·by_cases hwk:ziA w v.Number=keep
      ·rw [xx hwk,itT (by simp [hwk]),zga (by simp;omega),sb];push_cast;rfl
      ·rw [xw hwk,itF (by simpa using hwk),yG];push_cast;rfl
     ·cases hwb:ziA w v.Number with
      | true=>rfl
      | false=>
       rw [(zsw hwb).1];simp only [pT,xQ,Bool.and_eq_false_iff,qI,beq_eq_false_iff_ne,pp,ne_eq];by_cases h1:zie w v.Number=[]
       ·left;rw [h1];simp
       ·by_cases h2:(zae (zH s k) (fldI (zH s k) v.Number)).Kind=17
        ·right;right;by_cases h3:(zae (zH s k) (fldI (zH s k) v.Number)).Repeated=true
         ·exact h3
         ·exact absurd ⟨hwb,h1,h2,by simpa using h3⟩ hc
        ·right;left;exact h2
  show zkr (zjC fuel) s k x w keep=_;unfold zkr;have h:=key x.Values 0 rfl (xF _);rw [yE,zep] at h;have h':zii keep k (zjC fuel) q s x 0 []=_:=h;have hp:(if (!keep)=true then some x.Unknown else some [])=some (if keep=true then [] else x.Unknown):=by cases keep<;>rfl
  rw [hp,sb,q1,sb,h',sb,zsp]
theorem zJa {n:Nat} (h:n<=2097152):zdf (n:Int)=some []:=by
 unfold zdf;have e:IntKind.i64.wrap ((n:Int) - IntKind.i64.wrap (0 - 0))=n:=by rw [zt (x:=0 - 0) (by omega),uO];omega
 rw [itF (by simp),e];by_cases h0:(n:Int)>0
 ·rw [itT (by simpa using h0),zsk (a:=n) rfl (yO _) (by omega),sb];have e0:cut (List.replicate n ([]:Str)) 0 0=some []:=zpB (b:=0) rfl (xF _);rw [e0,sb]
 ·rw [itF (by simpa using h0)]
theorem zya {a b:List Str} (h:a.length+b.length<=2097152):zbX [a,b]=some (a++b):=by
 have b0:∀s:Nat,s+a.length<=2097152->zS [a,b] s 0=some (.inl (((s+a.length:Nat):Int),1)):=fun s hs=>by
  unfold zS;rw [itT (by simp),show idx [a,b] 0=some a from rfl,sb];rw [uO,uN,uO];push_cast;rfl
 have b1:∀s:Nat,s+b.length<=2097152->zS [a,b] s 1=some (.inl (((s+b.length:Nat):Int),2)):=fun s hs=>by
  unfold zS;rw [itT (by simp),show idx [a,b] 1=some b from rfl,sb];rw [uO,uN,uO];push_cast;rfl
 have l1:zcl [a,b] 0 0=some ((a.length+b.length:Nat):Int):=by
  have e0:=b0 0 (by omega);rw [xH] at e0;rw [zgl (show zS [a,b] 0 0=_ from e0),zgl (b1 a.length (by omega))];refine zjT ?_;unfold zS;rw [itF (by rfl)]
 have l2:zcm [a,b] [] 0=some (a++b):=by
  rw [zgm (newslice':=a) (v2':=1) (by
   unfold zaf;rw [itT (by simp),show idx [a,b] 0=some a from rfl,sb];rw [zga (by simp;omega),sb,xV];rfl),zgm (newslice':=a++b) (v2':=2) (by
   unfold zaf;rw [itT (by simp),show idx [a,b] 1=some b from rfl,sb];rw [zga (by omega),sb];rfl)]
  refine zjU ?_;unfold zaf;rw [itF (by rfl)]
 unfold zbX;rw [l1,sb,zJa h,sb,l2,sb]
theorem zJb {n:Nat} (h:n<=2097152):zdg (n:Int)=some []:=by
 unfold zdg;have e:IntKind.i64.wrap ((n:Int) - IntKind.i64.wrap (0 - 0))=n:=by rw [zt (x:=0 - 0) (by omega),uO];omega
 rw [itF (by simp),e];by_cases h0:(n:Int)>0
 ·rw [itT (by simpa using h0),zsk (a:=n) rfl (yO _) (by omega),sb];have e0:cut (List.replicate n (0:Int)) 0 0=some []:=zpB (b:=0) rfl (xF _);rw [e0,sb]
 ·rw [itF (by simpa using h0)]
theorem zER {a b:List Int} (h:a.length+b.length<=2097152):zcL [a,b]=some (a++b):=by
 have b0:∀s:Nat,s+a.length<=2097152->zT [a,b] s 0=some (.inl (((s+a.length:Nat):Int),1)):=fun s hs=>by
  unfold zT;rw [itT (by simp),show idx [a,b] 0=some a from rfl,sb];rw [uO,uN,uO];push_cast;rfl
 have b1:∀s:Nat,s+b.length<=2097152->zT [a,b] s 1=some (.inl (((s+b.length:Nat):Int),2)):=fun s hs=>by
  unfold zT;rw [itT (by simp),show idx [a,b] 1=some b from rfl,sb];rw [uO,uN,uO];push_cast;rfl
 have l1:zcn [a,b] 0 0=some ((a.length+b.length:Nat):Int):=by
  have e0:=b0 0 (by omega);rw [xH] at e0;rw [zgn (show zT [a,b] 0 0=_ from e0),zgn (b1 a.length (by omega))];refine zjW ?_;unfold zT;rw [itF (by rfl)]
 have l2:zco [a,b] [] 0=some (a++b):=by
  rw [zgo (newslice':=a) (v2':=1) (by
   unfold zag;rw [itT (by simp),show idx [a,b] 0=some a from rfl,sb];rw [zga (by simp;omega),sb,xV];rfl),zgo (newslice':=a++b) (v2':=2) (by
   unfold zag;rw [itT (by simp),show idx [a,b] 1=some b from rfl,sb];rw [zga (by omega),sb];rfl)]
  refine zjX ?_;unfold zag;rw [itF (by rfl)]
 unfold zcL;rw [l1,sb,zJb h,sb,l2,sb]
theorem zHs {n:Nat} (h:n<=2097152):zcx (n:Int)=some []:=by
 unfold zcx;have e:IntKind.i64.wrap ((n:Int) - IntKind.i64.wrap (0 - 0))=n:=by rw [zt (x:=0 - 0) (by omega),uO];omega
 rw [itF (by simp),e];by_cases h0:(n:Int)>0
 ·rw [itT (by simpa using h0),zsk (a:=n) rfl (yO _) (by omega),sb];have e0:cut (List.replicate n (⟨[],[]⟩:Msg)) 0 0=some []:=zpB (b:=0) rfl (xF _);rw [e0,sb]
 ·rw [itF (by simpa using h0)]
theorem zCW {a b:List Msg} (h:a.length+b.length<=2097152):zca [a,b]=some (a++b):=by
 have b0:∀s:Nat,s+a.length<=2097152->zN [a,b] s 0=some (.inl (((s+a.length:Nat):Int),1)):=fun s hs=>by
  unfold zN;rw [itT (by simp),show idx [a,b] 0=some a from rfl,sb];rw [uO,uN,uO];push_cast;rfl
 have b1:∀s:Nat,s+b.length<=2097152->zN [a,b] s 1=some (.inl (((s+b.length:Nat):Int),2)):=fun s hs=>by
  unfold zN;rw [itT (by simp),show idx [a,b] 1=some b from rfl,sb];rw [uO,uN,uO];push_cast;rfl
 have l1:zbz [a,b] 0 0=some ((a.length+b.length:Nat):Int):=by
  have e0:=b0 0 (by omega);rw [xH] at e0;rw [zfw (show zN [a,b] 0 0=_ from e0),zfw (b1 a.length (by omega))];refine zjb ?_;unfold zN;rw [itF (by rfl)]
 have l2:zbA [a,b] [] 0=some (a++b):=by
  rw [zfx (newslice':=a) (v2':=1) (by
   unfold zY;rw [itT (by simp),show idx [a,b] 0=some a from rfl,sb];rw [zga (by simp;omega),sb,xV];rfl),zfx (newslice':=a++b) (v2':=2) (by
   unfold zY;rw [itT (by simp),show idx [a,b] 1=some b from rfl,sb];rw [zga (by omega),sb];rfl)]
  refine zjc ?_;unfold zY;rw [itF (by rfl)]
 unfold zca;rw [l1,sb,zHs h,sb,l2,sb]
theorem zLF (u:Vlu):(⟨u.Number,u.Words,u.Texts,u.Subs⟩:Vlu)=u:=by cases u;rfl
theorem zBN (x:Msg):(⟨x.Values,x.Unknown⟩:Msg)=x:=by cases x;rfl
def jv15 (s:List Mes) (a:Msg) (k:Int) (v:Vlu):Vlu:=zkY s v (look a.Values v.Number) (zae (zH s k) (fldI (zH s k) v.Number))
structure Jm (s:List Mes) (a:Msg) (k:Int) (t:List Vlu) (q:List (Int×Vlu)):Prop where
 nd:(q.map Prod.fst).Nodup
 get:∀n,mget q n=match look t n with
  | some v=>some (jv15 s a k v)
  | none=>look a.Values n
 len:q.length<=a.Values.length+t.length
theorem Jm.put {s:List Mes} {a:Msg} {k:Int} {t:List Vlu} {q:List (Int×Vlu)} (h:Jm s a k t q) {v:Vlu} (hn:look t v.Number=none):Jm s a k (t++[v]) (mput q v.Number (jv15 s a k v)):=by
 refine ⟨zqK h.nd _ _,fun n=>?_,?_⟩
 ·rw [zed,zsd];by_cases e:n=v.Number
  ·subst e;rw [xx rfl,hn];simp only;rw [zdx,xx rfl]
  ·rw [xw e,h.get];cases hl:look t n with
   | some u=>rfl
   | none=>
    simp only;rw [zdx,xw (fun e'=>e e'.symm)];rfl
 ·have:=zDI q v.Number (jv15 s a k v);have:=h.len;rw [yd,qk];omega
theorem zEA {s:List Mes} (hs:zeZ s) {a b:Msg} {k:Nat} (hk:k<s.length) {rv:List zg->Fld->Vlu->Vlu->Option Vlu} (ra:zao s a k=true) (rb:zao s b k=true) (sa:smM a) (sb':smM b) (ba:bdM a) (bb:bdM b)
  (hrv:∀v∈b.Values,∀u,look a.Values v.Number=some u->rv s (zae (zH s k) (fldI (zH s k) v.Number)) u v=some (jv15 s a k v)):
  ∃q,zhr b k rv s (zfO a.Values) 0=some q/\Jm s a k b.Values q:=by
 obtain ⟨_,_,a3,a4,_⟩:=zaS ra;obtain ⟨_,_,b3,b4,_⟩:=zaS rb;have al:=((zgF a).1 sa).1;have bl:=((zgF b).1 sb').1;have hm:zH s (k:Int)=s[k]:=zeH hk;have hfew:=hs.few s[k] (xD hk);have key:∀(t:List Vlu) (i:Nat) (q:List (Int×Vlu)),b.Values.drop i=t->i<=b.Values.length->Jm s a k (b.Values.take i) q->∃q',zhr b k rv s q i=some q'/\Jm s a k b.Values q':=by
  intro t
  induction t with
  | nil=>
   intro i q hd hi hJ;have:=zbx hd;obtain rfl:i=b.Values.length:=by omega
   rw [qa] at hJ;refine ⟨q,ztm ?_,hJ⟩;unfold zdG;rw [itF (by simp)]
  | cons v t ih=>
   intro i q hd hi hJ;obtain ⟨hlt,hv,hd'⟩:=zba hd;have hbef:=zwF b3 hlt;rw [hv] at hbef;have hJ':=hJ.put hbef;rw [show b.Values.take i++[v]=b.Values.take (i+1) by rw [yx hlt,hv]] at hJ';obtain ⟨q',g1,g2⟩:=ih (i+1) _ hd' (by omega) hJ';refine ⟨q',(ztl (values':=mput q v.Number (jv15 s a k v)) (v':=((i+1:Nat):Int)) ?_).trans g1,g2⟩;have hg:=hJ.get v.Number;rw [hbef] at hg;simp only at hg;have hvm:v∈b.Values:=hv▸xD hlt;unfold zdG;rw [uM,zI rfl hlt,sb,hv,hg];cases hu:look a.Values v.Number with
   | none=>
    rw [itF (by rfl),uO];have e:jv15 s a k v=v:=by unfold jv15;rw [hu,zmE]
    rw [e];push_cast;rfl
   | some u=>
    have hf:=(b4 v hvm).1;rw [itT (by rfl),zI rfl hk,sb,<-hm,zvH (by rw [hm];omega) hf,sb,yz,zLF,hrv v hvm u hu,sb,uO];have e:(jv15 s a k v).Number=v.Number:=zsV _ _ _ _;rw [e];push_cast;rfl
 exact key b.Values 0 (zfO a.Values) rfl (xF _) ⟨by
  unfold zfO;rw [qQ];exact pt.2 (a3.imp fun h=>by simp only [Function.comp];omega),fun n=>by rw [zkz];rfl,by simp [zfO]⟩
theorem zFX {s:List Mes} (hs:zeZ s):∀(fuel:Nat),(∀(a b:Msg) (k:Nat),2*szM b<fuel->k<s.length->zao s a k=true->zao s b k=true->bdM a->bdM b->smM a->smM b->zjQ fuel s k a b=some (zke s b a k))/\
  ∀(f:Fld) (u v:Vlu),2*szV v<fuel->f.Number=v.Number->zlI s u f->zlI s v f->bdV u->bdV v->smV u->smV v->zgR fuel s f u v=some (zkY s v (some u) f)
 | 0=>⟨fun a b k h=>by omega,fun f u v h=>by omega⟩
 | fuel+1=>by
  obtain ⟨ih1,ih2⟩:=zFX hs fuel;refine ⟨fun a b k hz hk ra rb ba bb sa sb'=>?_,fun f u v hz hn hu hv bu bv su sv=>?_⟩
  ·obtain ⟨_,_,a3,a4,_⟩:=zaS ra;obtain ⟨_,_,b3,b4,_⟩:=zaS rb;have al:=(zgF a).1 sa;have bl:=(zgF b).1 sb';have bda:=(zdK a).1 ba;have bdb:=(zdK b).1 bb;have hm:zH s (k:Int)=s[k]:=zeH hk;rw [zcy] at hz;obtain ⟨q,g1,g2⟩:=zEA hs hk (rv:=zgR fuel) ra rb sa sb' ba bb fun v hv u hu=>by
    obtain ⟨e,hum⟩:=zdk hu;have:=zdE hv;have hf:=(b4 v hv).1;have hfu:=zgM (a4 u hum).2;rw [e] at hfu;rw [ih2 _ u v (by omega) (zAl hf).2 hfu (zgM (b4 v hv).2) (zcF.1 bda.2.2 u hum) (zcF.1 bdb.2.2 v hv) (zhP.1 al.2.2 u hum) (zhP.1 bl.2.2 v hv)];unfold jv15;rw [hu]
   have hnum:∀n v,mget q n=some v->v.Number=n/\0<=fldI (zH s k) n:=fun n v hg=>by
    rw [g2.get] at hg;cases hl:look b.Values n with
    | some w=>
     rw [hl] at hg;cases hg;obtain ⟨e,hwm⟩:=zdk hl;exact ⟨(zsV _ _ _ _).trans e,by rw [<-e];exact (b4 w hwm).1⟩
    | none=>
     rw [hl] at hg;obtain ⟨e,hwm⟩:=zdk hg;exact ⟨e,by rw [<-e];exact (a4 v hwm).1⟩
   obtain ⟨l,o1,o2,o3⟩:=zFA g2.nd (fun n v hg=>(hnum n v hg).1) (fun n hn=>by
    cases hg:mget q n with
    | none=>exact absurd hn (zpS hg)
    | some v=>exact zyi hs (by omega) (by omega) (hnum n v hg).2) (by
     have:=g2.len;omega)
   obtain ⟨j1,j2⟩:=zvU ra rb;have hl:l=(zke s b a k).Values:=zse o2 j1 fun n=>by
    rw [o3,g2.get,j2];cases hl:look b.Values n with
    | none=>rfl
    | some w=>
     obtain ⟨e,_⟩:=zdk hl;simp only;unfold jv15;rw [e]
   show zjE (zjQ fuel) (zgR fuel) s k a b=_;unfold zjE;rw [zxl a3 al.1,sb,g1,sb,o1,sb,zya (by omega),sb,hl,znL]
  ·show zfZ (zjQ fuel) (zgR fuel) s f u v=_;unfold zfZ;rw [zmE];simp only;obtain ⟨u1,⟨u2,_⟩,u3,u4⟩:=(zmW u).1 su;obtain ⟨v1,⟨v2,_⟩,v3,v4⟩:=(zmW v).1 sv;by_cases hr:f.Repeated=true
   ·rw [itT hr,zER (by omega),sb,zya (by omega),sb,zCW (by omega),sb,xx hr,hn]
   ·have hr':f.Repeated=false:=by simpa using hr
    rw [itF hr',xw hr];by_cases h17:f.Kind=17
    ·obtain ⟨x,ex,rx⟩:=hu.msg h17 hr';obtain ⟨y,ey,ry⟩:=hv.msg h17 hr';have ux:u.Subs=[x]:=by rw [ex]
     have vy:v.Subs=[y]:=by rw [ey]
     rw [zfR,vy] at hz;simp only [szMs] at hz;obtain ⟨k0,k1,_⟩:=zaS rx;obtain ⟨j,hj⟩:∃j:Nat,f.Of=j:=⟨f.Of.toNat,by omega⟩;have bx:bdM x:=zdz.1 ((zeP u).1 bu).2.2.2.2 x (by rw [ux];exact xy);have by':bdM y:=zdz.1 ((zeP v).1 bv).2.2.2.2 y (by rw [vy];exact xy)
     have sx:smM x:=zhO.1 u4 x (by rw [ux];exact xy);have sy:smM y:=zhO.1 v4 y (by rw [vy];exact xy);rw [hj] at rx ry;have:=ih1 x y j (by omega) (by omega) rx ry bx by' sx sy
     rw [itT (by simp [h17]),xx h17,znp,sb,znp,sb,ux,vy,hj];simp only [qC];rw [this,sb,zsM,sb,znK,hn]
    ·rw [itF (by simp [h17]),xw h17]
theorem zAK {l:List Vlu} (h:zeT l):((zfO l).map Prod.fst).Nodup:=by
 unfold zfO;rw [qQ];exact pt.2 (h.imp fun h=>by simp only [Function.comp];omega)
theorem zvZ {s:List Mes} (hs:zeZ s) {x:Msg} {k:Nat} (hk:k<s.length) (hx:zao s x k=true) (sx:smM x) {u:Vlu} (hn:0<=fldI (zH s k) u.Number):zdd (mput (zfO x.Values) u.Number u)=some (putL u false x.Values):=by
 obtain ⟨_,_,r3,r4,_⟩:=zaS hx;have hl:=((zgF x).1 sx).1;have hg:∀n v,mget (mput (zfO x.Values) u.Number u) n=some v->v.Number=n/\0<=fldI (zH s k) n:=fun n v h=>by
  rw [zed] at h;split at h
  ·rename_i e;cases h;exact ⟨e.symm,by rw [e];exact hn⟩
  ·rw [zkz] at h;obtain ⟨e,hm⟩:=zdk h;exact ⟨e,by rw [<-e];exact (r4 v hm).1⟩
 obtain ⟨l,o1,o2,o3⟩:=zFA (zqK (zAK r3) _ _) (fun n v h=>(hg n v h).1) (fun n hm=>by
  cases h:mget (mput (zfO x.Values) u.Number u) n with
  | none=>exact absurd hm (zpS h)
  | some v=>exact zyi hs (by omega) (by omega) (hg n v h).2) (by
  have:=zDI (zfO x.Values) u.Number u;have h2:(zfO x.Values).length=x.Values.length:=by simp [zfO]
  omega)
 rw [o1];congr 1;refine zse o2 (zld r3) fun n=>?_
 rw [o3,zed,zkz,zpP r3];by_cases e:n=u.Number
 ·rw [xx e,xx e,xw (by simp)]
 ·rw [xw e,xw e]
theorem zHO {s:List Mes} (hs:zeZ s) {x:Msg} {k:Nat} (hk:k<s.length) (hx:zao s x k=true) (sx:smM x) (u:Vlu):zdd (mdel (zfO x.Values) u.Number)=some (putL u true x.Values):=by
 obtain ⟨_,_,r3,r4,_⟩:=zaS hx;have hl:=((zgF x).1 sx).1;have hnd:=zAK r3;have hg:∀n v,mget (mdel (zfO x.Values) u.Number) n=some v->v.Number=n/\0<=fldI (zH s k) n:=fun n v h=>by
  rw [zAH _ _ _ hnd] at h;split at h
  ·cases h
  ·rw [zkz] at h;obtain ⟨e,hm⟩:=zdk h;exact ⟨e,by rw [<-e];exact (r4 v hm).1⟩
 obtain ⟨l,o1,o2,o3⟩:=zFA (((zyE (zfO x.Values) u.Number).map _).nodup hnd) (fun n v h=>(hg n v h).1) (fun n hm=>by
  cases h:mget (mdel (zfO x.Values) u.Number) n with
  | none=>exact absurd hm (zpS h)
  | some v=>exact zyi hs (by omega) (by omega) (hg n v h).2) (by
  have:=(zyE (zfO x.Values) u.Number).length_le;have h2:(zfO x.Values).length=x.Values.length:=by simp [zfO]
  omega)
 rw [o1];congr 1;refine zse o2 (zld r3) fun n=>?_
 rw [o3,zAH _ _ _ hnd,zkz,zpP r3];by_cases e:n=u.Number
 ·rw [xx e,xx e,xx rfl]
 ·rw [xw e,xw e]
theorem zJY {x:Msg} (hr:zeT x.Values) {u:Vlu} (h:look x.Values u.Number=none) (hm:zcb u=0):putM x u=x:=by
 unfold putM;have:putL u (decide (zcb u=0)) x.Values=x.Values:=zse (zld hr) hr fun n=>by
  rw [zpP hr];by_cases e:n=u.Number
  ·rw [xx e,xx (by simp [hm]),e,h]
  ·rw [xw e]
 rw [this,zBN]
theorem zED {s:List Mes} (hs:zeZ s) {v:Vlu} (hv:v.Words.length<=140737488351232/\v.Texts.length<=140737488351232/\v.Subs.length<=140737488351232):∀(way:zz) (fuel:Nat) (x:Msg) (k:Nat),way≠[]->way.length<=fuel->way.length<=1048576->k<s.length->smM x->zao s x k=true->zcw s way k≠none->
  zjF fuel x way v=some (setM way x v)
 | [],fuel,x,k,h,_,_,_,_,_,_=>absurd rfl h
 | n::l,0,x,k,_,h,_,_,_,_,_=>by simp at h
 | [n],fuel+1,x,k,_,_,_,hk,sx,hx,hp=>by
  obtain ⟨_,_,r3,r4,_⟩:=zaS hx;have hl:=((zgF x).1 sx).1;have hn:=(zlZ hs hk hp).1;show zhW (zjF fuel) x [n] v=_;unfold zhW;rw [zxl r3 hl,sb,show idx [n] 0=some n from rfl,sb,zkz,zBh hv,sb,sb,setM];have hmany:zcb (⟨n,v.Words,v.Texts,v.Subs⟩:Vlu)=zcb v:=rfl;cases hu:look x.Values n with
  | none=>
   rw [itT (by rfl),sb];by_cases hm:zcb v=0
   ·rw [itT (by simp [hm]),zJY r3 (u:=⟨n,v.Words,v.Texts,v.Subs⟩) hu hm]
   ·rw [uN,itF (by rfl),uN,zvZ (u:=⟨n,v.Words,v.Texts,v.Subs⟩) hs hk hx sx hn,sb];unfold putM;rw [hmany,yb hm]
  | some u=>
   rw [itF (by rfl),sb,itF (by rfl),itF (by rfl)];by_cases hm:zcb v=0
   ·rw [itT (by simp [hm]),zHO hs hk hx sx ⟨n,v.Words,v.Texts,v.Subs⟩,sb];unfold putM;rw [hmany,ya hm]
   ·rw [uN,zvZ (u:=⟨n,v.Words,v.Texts,v.Subs⟩) hs hk hx sx hn,sb];unfold putM;rw [hmany,yb hm]
 | n::y::l,fuel+1,x,k,_,hf,hlen,hk,sx,hx,hp=>by
  obtain ⟨_,_,r3,r4,_⟩:=zaS hx;have hl:=((zgF x).1 sx).1;obtain ⟨hn,hnx⟩:=zlZ hs hk hp;obtain ⟨hp',j,hj,hjl⟩:=hnx (by simp);obtain ⟨_,_,_,_,hsub⟩:=zsB hx hp;rw [hj] at hp' hsub;simp only [ye] at hf hlen;have hput:∀z:Msg,zdd (mput (zfO x.Values) n (⟨n,[],[],[z]⟩:Vlu))=some (putL ⟨n,[],[],[z]⟩ false x.Values):=fun z=>zvZ (u:=⟨n,[],[],[z]⟩) hs hk hx sx hn
  have hpm:∀z:Msg,putM x (⟨n,[],[],[z]⟩:Vlu)=⟨putL ⟨n,[],[],[z]⟩ false x.Values,x.Unknown⟩:=fun z=>rfl
  show zhW (zjF fuel) x (n::y::l) v=_;unfold zhW;rw [zxl r3 hl,sb,show idx (n::y::l) 0=some n from rfl,sb,zkz,zBh hv,sb,setM];cases hu:look x.Values n with
  | none=>
   rw [itT (by rfl),sb];simp only;by_cases hm:zcb v=0
   ·rw [itT (by simp [hm]),xx hm]
   ·rw [uN,uM,xw hm,Option.getD_none,znp,sb,zrG,sb];have ih:=zED hs hv (y::l) fuel zkg j (by simp) (by simp;omega) (by simp;omega) hjl (by unfold zkg;exact (zgF _).2 ⟨by simp,⟨by simp,by simp⟩,by simp only [smVs]⟩) (zwn (by omega) (by omega)) hp';have ih':zjF fuel (([]:List Msg).headD zkg) (y::l) v=_:=ih;rw [ih',sb,zsM,sb];simp only;rw [hput,sb,hpm];rfl
  | some u=>
   obtain ⟨z,hz,hrz⟩:=hsub u hu;obtain ⟨_,hum⟩:=zdk hu;have sz:smM z:=zhO.1 ((zmW u).1 (zhP.1 ((zgF x).1 sx).2.2 u hum)).2.2.2 z (by rw [hz];exact xy);rw [itF (by rfl),sb,itF (by rfl),uM,yz,znp,sb,zrG,sb];simp only [hz,qC];rw [zED hs hv (y::l) fuel z j (by simp) (by simp;omega) (by simp;omega) hjl sz hrz hp',sb,zsM,sb];simp only;rw [hput,sb,hpm]
def in15 (x:Msg) (n:Int):Msg:=((look x.Values n).getD zvlu).Subs.headD zkg
theorem zCK:∀w:zz,atM w zkg=(zvlu,false)
 | []=>by rw [atM]
 | [n]=>by rw [atM];rfl
 | n::y::l=>by rw [atM];rfl
theorem zMd {n:Int} {w:zz} (hw:w≠[]) (x:Msg):atM (n::w) x=atM w (in15 x n):=by
 obtain ⟨y,l,rfl⟩:=qO hw;rw [atM];unfold in15;cases look x.Values n with
 | none=>exact (zCK _).symm
 | some v=>
  simp only [yz];cases v.Subs with
  | nil=>exact (zCK _).symm
  | cons z l=>rfl
def zpo:zz->Msg->Msg
 | [],x=>x
 | n::l,x=>zpo l (in15 x n)
theorem zCI:∀(l:zz) (n:Int) (x:Msg),atM (l++[n]) x=atM [n] (zpo l x)
 | [],n,x=>rfl
 | a::l,n,x=>by rw [yw,zMd (by simp),zCI l n,zpo]
theorem zKO (n:Int) (x:Msg):atM [n] x=zym x n:=by
 rw [atM];unfold zym;rcases zqC x n with ⟨h1,h2⟩| ⟨j,hj,h1,h2⟩
 ·rw [h1,h2,xx (by omega)];rfl
 ·rw [h1,h2,xw (by omega),yk,qJ,xI hj];rfl
theorem zFa {s:List Mes} (hs:zeZ s) {x:Msg} {k:Nat} (hk:k<s.length) {n:Int} {w:zz} (hw:w≠[]) (hx:zao s x k=true) (hb:bdM x) (hm:smM x) (hp:zcw s (n::w) k≠none):
  ∃j:Nat,j<s.length/\zao s (in15 x n) j=true/\zcw s w j≠none/\bdM (in15 x n)/\smM (in15 x n)/\szM (in15 x n)<=szM x:=by
 obtain ⟨y,l,rfl⟩:=qO hw;obtain ⟨hn,hnx⟩:=zlZ hs hk hp;obtain ⟨hp',j,hj,hjl⟩:=hnx (by simp);obtain ⟨_,_,_,_,hsub⟩:=zsB hx hp;rw [hj] at hp' hsub;have hpos:1<=szM x:=by rw [zcy];omega
 refine ⟨j,hjl,?_⟩;unfold in15;cases hu:look x.Values n with
 | none=>exact ⟨zwn (by omega) (by omega),hp',zmO,(zgF _).2 ⟨by simp [zvlu,zkg],⟨by simp [zvlu,zkg],by simp [zvlu,zkg]⟩,by show smVs [];simp only [smVs]⟩,by show szM zkg<=_;rw [zEw];exact hpos⟩
 | some u=>
  obtain ⟨z,hz,hrz⟩:=hsub u hu;obtain ⟨_,hum⟩:=zdk hu;have hzm:z∈u.Subs:=by rw [hz];exact xy
  have h1:=zdE hum;have h2:=zfh hzm;have h3:=zfR u;have h4:=zcy x;rw [yz,hz,qC];exact ⟨hrz,hp',zdz.1 ((zeP u).1 (zcF.1 ((zdK x).1 hb).2.2 u hum)).2.2.2.2 z hzm,zhO.1 ((zmW u).1 (zhP.1 ((zgF x).1 hm).2.2 u hum)).2.2.2 z hzm,by omega⟩
theorem zHh {s:List Mes} (hs:zeZ s) {v:zz} (hv:v.length<=1048576) (n:Int):∀(t:zz) (i:Nat) (x:Msg) (k:Nat),v.drop i=t->i<=v.length->k<s.length->zao s x k=true->bdM x->smM x->zcw s (t++[n]) k≠none->
  zjd v i x.Values x.Unknown=some ((zpo t x).Values,(zpo t x).Unknown)/\bdM (zpo t x)/\szM (zpo t x)<=szM x:=by
 intro t
 induction t with
 | nil=>
  intro i x k hd hi hk hx hb hm hp;have:=zbx hd;refine ⟨zuz ?_,hb,xC _⟩;unfold zeW;rw [uN];rfl
 | cons a t ih=>
  intro i x k hd hi hk hx hb hm hp;obtain ⟨hlt,hva,hd'⟩:=zba hd;rw [yw] at hp;obtain ⟨j,j1,j2,j3,j4,j5,j6⟩:=zFa hs hk (by simp) hx hb hm hp;obtain ⟨g1,g2,g3⟩:=ih (i+1) (in15 x a) j hd' (by omega) j1 j2 j4 j5 j3;obtain ⟨_,_,r3,_⟩:=zaS hx;refine ⟨(zuy (v2':=((i+1:Nat):Int)) (f':=(in15 x a).Values) (f2':=(in15 x a).Unknown) ?_).trans g1,g2,yi g3 j6⟩;unfold zeW;rw [uM,zI rfl hlt,sb,hva,zBN,zxl r3 ((zgF x).1 hm).1,sb,zkz,znp,sb,uO];push_cast;rfl
theorem zMb {fuel:Nat} {s:List Mes} (root:Int) {x:Msg} {way:zz} (hw:WS s) (hx:Ok15 fuel x) (hl:way.length<=1048576):znB fuel s root x way=some (if zgB s root x way=0 then ((atM way x).1,0) else (zvlu,zgB s root x way)):=by
 unfold znB;rw [zxM root hw hx hl,sb];have hz:=hx.z;have hdd:=hx.d;by_cases h0:zdo s root [x]=0
 ·obtain ⟨hs,g1,g2,g3⟩:=zlY h0;have hrt:=g3 x (by simp);obtain ⟨k,rfl⟩:∃k:Nat,root=k:=⟨root.toNat,by omega⟩;by_cases hp:(zfB s k way).2=true
  ·have hne:way≠[]:=fun e=>by subst e;unfold zfB at hp;simp [zcw] at hp
   have hpn:zcw s way k≠none:=fun hh=>by unfold zfB at hp;rw [hh] at hp;cases hp
   have hc:zgB s k x way=if (atM way x).2=false then 11 else 0:=by
    unfold zgB;rw [xw (fun h=>h h0),xw (by rw [hp];simp)]
   obtain ⟨l,n,rfl⟩:∃l n,way=l++[n]:=⟨way.dropLast,way.getLast hne,(List.dropLast_concat_getLast hne).symm⟩;have hlen:(l++[n]).length=l.length+1:=by simp
   have hll:IntKind.i64.wrap (((l++[n]).length:Int) - 1)=(l.length:Int):=by rw [uO];omega
   have hcut:cut (l++[n]) 0 (l.length:Int)=some l:=by rw [zpB (b:=l.length) rfl (by omega),List.take_left]
   obtain ⟨q1,q2,q3⟩:=zHh hs (v:=l) (by omega) n l 0 x k rfl (xF _) (by omega) hrt hx.b hx.s hpn;have q1':zjd l 0 x.Values x.Unknown=_:=q1;have hdm:dM (zpo l x)<=131072:=by have:=zCZ (zpo l x);omega
   have hid:idx (l++[n]) (l.length:Int)=some n:=by rw [zI rfl (by omega)];simp
   rw [zvC h0 hp,itF (by rfl),hll,hcut,sb,q1',sb,hid,sb];simp only;rw [zBN,zLD n (by omega) q2 hdm,sb,hc,zCI,zKO];cases hg:zym (zpo l x) n with
   | mk g b=>
    cases b with
    | true=>rfl
    | false=>rfl
  ·have hp':(zfB s k way).2=false:=by simpa using hp
   have hc:zgB s k x way=10:=by
    unfold zgB;rw [xw (fun h=>h h0),xx hp']
   rw [zwV h0 hp',itT (by rfl),hc,xw (by omega)];rfl
 ·have hc:zgB s root x way=zdo s root [x]:=by
   unfold zgB;rw [xx h0]
  rw [zwU h0,itT (by simp [h0]),hc,xw h0];rfl
theorem zBq {s:List Mes} (hs:zeZ s) {way:zz} (hl:way.length<=1048576):∀(t:zz) (i:Nat) (f:Fld) (k:Nat),way.drop i=t->i<=way.length->k<s.length->f.Of=k->(t≠[]->zcw s t k≠none)->
  zfH s way i f.Name f.Number f.Kind f.Repeated f.Packed f.Of=some ((zha s t k f).Name,(zha s t k f).Number,(zha s t k f).Kind,(zha s t k f).Repeated,(zha s t k f).Packed,(zha s t k f).Of):=by
 intro t
 induction t with
 | nil=>
  intro i f k hd hi hk hf hp;have:=zbx hd;refine zln ?_;unfold zbF;rw [uN];rfl
 | cons n t ih=>
  intro i f k hd hi hk hf hp;obtain ⟨hlt,hv,hd'⟩:=zba hd;obtain ⟨hn,hnx⟩:=zlZ hs hk (hp (by simp));have hm:zH s (k:Int)=s[k]:=zeH hk;have hfew:=hs.few s[k] (xD hk);have hstep:zbF s way i f.Name f.Number f.Kind f.Repeated f.Packed f.Of=some (.inl (((i+1:Nat):Int),(zae (zH s k) (fldI (zH s k) n)).Name,(zae (zH s k) (fldI (zH s k) n)).Number,(zae (zH s k) (fldI (zH s k) n)).Kind,(zae (zH s k) (fldI (zH s k) n)).Repeated,(zae (zH s k) (fldI (zH s k) n)).Packed,(zae (zH s k) (fldI (zH s k) n)).Of)):=by
   unfold zbF;rw [uM,zI rfl hlt,sb,hv,hf,zI rfl hk,sb,<-hm,zvH (by rw [hm];omega) hn,sb,uO];push_cast;rfl
  rw [zha];refine (zqq hstep).trans ?_;cases t with
  | nil=>
   have hil:i+1=way.length:=by have:=zbx hd';omega
   refine zln ?_;unfold zbF;rw [uN];rfl
  | cons y l=>
   obtain ⟨hp',j,hj,hjl⟩:=hnx (by simp);rw [hj] at hp';have:=ih (i+1) (zae (zH s k) (fldI (zH s k) n)) j hd' (by omega) hjl hj (fun _=>hp');rw [hj] at this|-;exact this
theorem zEX {s:List Mes} (hs:zeZ s) {way:zz} (hl:way.length<=1048576) {k:Nat} (hk:k<s.length) (hne:way≠[]) (hp:zcw s way k≠none):zhq s k way=some (zha s way k zfld):=by
 unfold zhq;have h:=zBq hs hl way 0 ⟨[],0,0,false,false,k⟩ k rfl (xF _) hk rfl (fun _=>hp);have h':zfH s way 0 [] 0 0 false false k=_:=h;rw [h',sb];obtain ⟨n,l,rfl⟩:=qO hne;rw [zha,zha]
theorem zKN {fuel:Nat} {s:List Mes} (root:Int) {x:Msg} {way:zz} {v:Vlu} (hw:WS s) (hx:Ok15 fuel x) (hl:way.length<=1048576) (hf:way.length<=fuel) (bv:bdV v) (sv:smV v) (zv:2*szV v+2<fuel) (dv:szV v<=131072) (hr:zds s root x way v=0->bdM (setM way x v)/\szM (setM way x v)<fuel/\szM (setM way x v)<=131072):
  zmq fuel s root x way v=some (if zds s root x way v=0 then (setM way x v,0) else (zkg,zds s root x way v)):=by
 unfold zmq;rw [zxM root hw hx hl,sb];obtain ⟨_,⟨v1,_⟩,⟨v2,_⟩,v3,_⟩:=(zeP v).1 bv;have hvb:v.Words.length<=140737488351232/\v.Texts.length<=140737488351232/\v.Subs.length<=140737488351232:=⟨by omega,by omega,by omega⟩;by_cases h0:zdo s root [x]=0
 ·obtain ⟨hs,g1,g2,g3⟩:=zlY h0;have hrt:=g3 x (by simp);obtain ⟨k,rfl⟩:∃k:Nat,root=k:=⟨root.toNat,by omega⟩;by_cases hp:(zfB s k way).2=true
  ·have hne:way≠[]:=fun e=>by subst e;unfold zfB at hp;simp [zcw] at hp
   have hpn:zcw s way k≠none:=fun hh=>by unfold zfB at hp;rw [hh] at hp;cases hp
   have hc:zds s k x way v=if 0<zcb v/\zhl s v (zha s way k zfld)=false then 12 else 0:=by
    unfold zds;rw [xw (fun h=>h h0),xw (by rw [hp];simp)]
   have hrs:zeS s=true:=by
    unfold zdo zfa at h0;cases h:zeS s with
    | true=>rfl
    | false=>rw [h] at h0;simp at h0
   have hdv:dV v<=131072:=by have:=(zIO (szV v)).2.2.1 v (xC _);omega
   have hG:(zdS v>>=fun rv2=>if rv2=true then zhq s k way>>=fun rv3=>znw fuel rv3 s v>>=fun rv4=>some (!rv4) else some false)=some (decide (0<zcb v/\zhl s v (zha s way k zfld)=false)):=by
    rw [zBh hvb,sb];by_cases hm:0<zcb v
    ·rw [itT (by simpa using hm),zEX hs hl (by omega) hne hpn,sb,zKw _ zv hw hrs bv sv hdv,sb];cases hff:zhl s v (zha s way k zfld)<;>simp [hm]
    ·rw [itF (by simpa using hm)];simp [hm]
   rw [zvC h0 hp,itF (by rfl),hG,sb,hc];by_cases hb:0<zcb v/\zhl s v (zha s way k zfld)=false
   ·rw [itT (by simpa using hb),xx hb,xw (by omega)];rfl
   ·have hz:zds s k x way v=0:=by rw [hc,xw hb]
    obtain ⟨z1,z2,z3⟩:=hr hz;rw [itF (by simpa using hb),xw hb,xx rfl,zED hs hvb way fuel x k hne hf hl (by omega) hx.s hrt hpn,sb,zvr z2 z1 (by have:=zCZ (setM way x v);omega),sb]
  ·have hp':(zfB s k way).2=false:=by simpa using hp
   have hc:zds s k x way v=10:=by
    unfold zds;rw [xw (fun h=>h h0),xx hp']
   rw [zwV h0 hp',itT (by rfl),hc,xw (by omega)];rfl
 ·have hc:zds s root x way v=zdo s root [x]:=by
   unfold zds;rw [xx h0]
  rw [zwU h0,itT (by simp [h0]),hc,xw h0];rfl
theorem zIu {fuel:Nat} {s:List Mes} (root:Int) {a b:Msg} (hw:WS s) (ha:Ok15 fuel a) (hb:Ok15 fuel b) (hr:zdo s root [a,b]=0->szM (zke s b a root)<fuel/\szM (zke s b a root)<=131072):
  zlm fuel s root a b=some (if zdo s root [a,b]=0 then (zke s b a root,0) else (zkg,zdo s root [a,b])):=by
 unfold zlm;rw [zxN root hw (by simp) (by simp) (fun y hy=>by
  simp only [xA,xL,xM] at hy;rcases hy with rfl| rfl
  ·exact ha
  ·exact hb),sb]
 by_cases h0:zdo s root [a,b]=0
 ·obtain ⟨hs,g1,g2,g3⟩:=zlY h0;obtain ⟨k,rfl⟩:∃k:Nat,root=k:=⟨root.toNat,by omega⟩;have ra:=g3 a (by simp);have rb:=g3 b (by simp);obtain ⟨z1,z2⟩:=hr h0
  rw [itF (by simp [h0]),xx h0,(zFX hs fuel).1 a b k hb.z (by omega) ra rb ha.b hb.b ha.s hb.s,sb,
   zvr z1 (zBy _ b a k (xC _) ra rb ha.b hb.b ha.s hb.s) (by have:=zCZ (zke s b a k);omega),sb]
 ·rw [itT (by simp [h0]),xw h0];rfl
theorem zIv {fuel:Nat} {s:List Mes} (root:Int) {x:Msg} {ways:List zz} (keep:Bool) (hw:WS s) (hx:Ok15 fuel x) (hW:UW ways):
  zjB fuel s root x ⟨ways⟩ keep=some (if zdo s root [x]=0 then (zoG s x root (ofW ways) keep,0) else (zkg,zdo s root [x])):=by
 unfold zjB;rw [zxN root hw (by simp) (by simp) (fun y hy=>by rw [xT.1 hy];exact hx),sb];by_cases h0:zdo s root [x]=0
 ·obtain ⟨hs,g1,g2,g3⟩:=zlY h0;obtain ⟨k,rfl⟩:∃k:Nat,root=k:=⟨root.toNat,by omega⟩;have hrt:=g3 x (by simp);obtain ⟨t1,t2⟩:=zxB (s:=s) _ x k (ofW ways) keep (xC _) hx.b;have hz:=hx.z;have hd:=hx.d;rw [itF (by simp [h0]),xx h0,zJM hW.sw,sb];simp only;rw [zFW hs fuel x k _ keep (by omega) (by omega) hrt hx.b hx.s (zAG ways) hW.of.ww,sb,zvr (by omega) t1 (by have:=zCZ (zoG s x k (ofW ways) keep);omega),sb]
 ·rw [itT (by simp [h0]),xw h0];rfl
theorem zHe {fuel:Nat} {s:List Mes} (root:Int) {x:Msg} {ways:List zz} (hw:WS s) (hx:Ok15 fuel x) (hW:UW ways):zkq fuel s root x ⟨ways⟩=some (if zdo s root [x]=0 then (zoG s x root (ofW ways) false,0) else (zkg,zdo s root [x])):=by
 unfold zkq;rw [zIv root false hw hx hW,sb]
end Go.Proofs.YtekgmimingolbaaGreat
