/-
  What the plain functions are. No condition.
-/
import Derived.Test.YtaglemhabeipfaaGreatx3S1
import Derived.Test.YtaglemhabeipfaaGreatx3K3
set_option autoImplicit true
set_option relaxedAutoImplicit true
namespace Go.Proofs.YtaglemhabeipfaaGreat
open Go.IntKind (i64 u64)
open Go
def cont (c:UInt8):Bool:=decide (128<=c.toNat/\c.toNat<192)
def is1:List UInt8->Bool
 | a::_=>decide (a.toNat<128)
 | _=>false
def is2:List UInt8->Bool
 | a::b::_=>decide (194<=a.toNat/\a.toNat<224/\cont b=true)
 | _=>false
def is3:List UInt8->Bool
 | a::b::c::_=>decide (224<=a.toNat/\a.toNat<240/\cont b=true/\cont c=true/\(a.toNat=224->160<=b.toNat)/\(a.toNat=237->b.toNat<160))
 | _=>false
def is4:List UInt8->Bool
 | a::b::c::d::_=>decide (240<=a.toNat/\a.toNat<245/\cont b=true/\cont c=true/\cont d=true/\(a.toNat=240->144<=b.toNat)/\(a.toNat=244->b.toNat<144))
 | _=>false
def nxt (l:List UInt8):Nat:=if is1 l then 1 else if is2 l then 2 else if is3 l then 3 else if is4 l then 4 else 0
def isN (n:Nat) (l:List UInt8):Bool:=match n with
 | 1=>is1 l
 | 2=>is2 l
 | 3=>is3 l
 | 4=>is4 l
 | _=>false
theorem zjB (h:isN n l=true):∃a t,l=a::t/\n<=l.length/\(n=1/\a.toNat<128\/n=2/\194<=a.toNat/\a.toNat<224\/n=3/\224<=a.toNat/\a.toNat<240\/n=4/\240<=a.toNat):=by
 match n,l with
 | 1,a::t=>simp only [isN,is1,xP] at h;exact ⟨a,t,rfl,by simp,.inl ⟨rfl,h⟩⟩
 | 2,a::b::t=>simp only [isN,is2,xP] at h;exact ⟨a,_,rfl,by simp,.inr (.inl ⟨rfl,h.1,h.2.1⟩)⟩
 | 3,a::b::c::t=>simp only [isN,is3,xP] at h;exact ⟨a,_,rfl,by simp,.inr (.inr (.inl ⟨rfl,h.1,h.2.1⟩))⟩
 | 4,a::b::c::d::t=>simp only [isN,is4,xP] at h;exact ⟨a,_,rfl,by simp,.inr (.inr (.inr ⟨rfl,h.1⟩))⟩
 | 0,_=>cases h
 | 1,[]=>cases h
 | 2,[]=>cases h
 | 2,[_]=>cases h
 | 3,[]=>cases h
 | 3,[_]=>cases h
 | 3,[_,_]=>cases h
 | 4,[]=>cases h
 | 4,[_]=>cases h
 | 4,[_,_]=>cases h
 | 4,[_,_,_]=>cases h
 | _+5,_=>cases h
theorem zFJ (h:isN n l=true) (h':isN m l=true):n=m:=by
 grind [zjB]
theorem zHV (h:isN n l=true):nxt l=n:=by
 obtain ⟨_,_,_,_,g⟩:=zjB h;have k:∀m,m≠n->isN m l=false:=fun m hm=>by
  cases hh:isN m l with
  | false=>rfl
  | true=>exact absurd (zFJ hh h) hm
 have hn:n=1\/n=2\/n=3\/n=4:=by omega
 rcases hn with rfl| rfl| rfl| rfl
 ·simp only [isN] at h;simp [nxt,h]
 ·have j1:=k 1 (by omega);simp only [isN] at h j1;simp [nxt,h,j1]
 ·have j1:=k 1 (by omega);have j2:=k 2 (by omega);simp only [isN] at h j1 j2;simp [nxt,h,j1,j2]
 ·have j1:=k 1 (by omega);have j2:=k 2 (by omega);have j3:=k 3 (by omega);simp only [isN] at h j1 j2 j3;simp [nxt,h,j1,j2,j3]
theorem zrb (h:nxt l≠0):isN (nxt l) l=true:=by
 unfold nxt at h|-;by_cases h1:is1 l=true
 ·simp [h1,isN]
 ·by_cases h2:is2 l=true
  ·simp [h1,h2,isN]
  ·by_cases h3:is3 l=true
   ·simp [h1,h2,h3,isN]
   ·by_cases h4:is4 l=true
    ·simp [h1,h2,h3,h4,isN]
    grind
theorem zsr (l:List UInt8):nxt l<=l.length:=by
 grind [zjB,zrb]
theorem zGh (l:List UInt8):nxt l<=4:=by
 grind [zjB,zrb]
def fst4 (m:Int) (l:List UInt8):Nat×Nat:=
 if h:nxt l=0\/(nxt l:Int)>m then (0,0) else (nxt l+(fst4 (m - nxt l) (l.drop (nxt l))).1,(fst4 (m - nxt l) (l.drop (nxt l))).2+1)
termination_by l.length
decreasing_by all_goals (have:=zsr l;simp only [xT];omega)
theorem zuf (h:nxt l=0\/(nxt l:Int)>m):fst4 m l=(0,0):=by rw [fst4,dif_pos h]
theorem zAp (h:¬(nxt l=0\/(nxt l:Int)>m)):fst4 m l=(nxt l+(fst4 (m - nxt l) (l.drop (nxt l))).1,(fst4 (m - nxt l) (l.drop (nxt l))).2+1):=by rw [fst4,dif_neg h]
def pre4 (l:List UInt8):Nat×Nat:=fst4 l.length l
theorem zDn (h:(l.length:Int)<=m):fst4 m l=pre4 l:=by
 have key:∀(n:Nat) (l:List UInt8) (m m':Int),l.length=n->(l.length:Int)<=m->(l.length:Int)<=m'->fst4 m l=fst4 m' l:=by
  intro n
  induction n using Nat.strongRecOn with
  | _ n ih=>
   grind [zsr,zuf,zAp]
 exact key _ l m l.length rfl h (Int.le_refl _)
theorem zCk (h:nxt l=0):pre4 l=(0,0):=zuf (.inl h)
theorem zGo (h:nxt l≠0):pre4 l=(nxt l+(pre4 (l.drop (nxt l))).1,(pre4 (l.drop (nxt l))).2+1):=by
 grind [pre4,zsr,zAp,zDn]
theorem zEm (P:List UInt8->Prop) (h0:∀l,nxt l=0->P l) (h1:∀l,nxt l≠0->P (l.drop (nxt l))->P l) (l:List UInt8):P l:=by
 generalize hn:l.length=n
 induction n using Nat.strongRecOn generalizing l with
 | _ n ih=>
  grind [zsr]
def zgL (l:List UInt8):Bool:=decide ((pre4 l).1=l.length)
def enc (v:Nat):List UInt8:=if v<128 then [UInt8.ofNat v] else UInt8.ofNat (128+v%128)::enc (v/128)
termination_by v
decreasing_by omega
def scan:Nat->Nat->List UInt8->Unit⊕(Int×Int×Int)
 | _,_,[]=> .inl ()
 | i,acc,c::t=>if i=9/\1<c.toNat then .inr (0,0,4) else if c.toNat<128 then .inr (((acc+c.toNat%128*128^i:Nat):Int),((i+1:Nat):Int),0) else scan (i+1) (acc+c.toNat%128*128^i) t
def rdR:Unit⊕(Int×Int×Int)->Int×Int×Int
 | .inl _=>(0,0,3)
 | .inr r=>r
def rd (b:List UInt8):Int×Int×Int:=rdR (scan 0 0 (b.take 10))
def hor:List UInt8->Nat
 | []=>0
 | c::t=>c.toNat%128+128*hor t
def lead:Nat->List UInt8->Nat
 | 0,_=>0
 | _+1,[]=>0
 | k+1,c::t=>if 128<=c.toNat then lead k t+1 else 0
theorem zHh (i:Nat):2^(7*i)=128^i:=by rw [Nat.pow_mul]
theorem zFr (c:Nat):c&&&127=c%128:=uc c 7
theorem zCn {acc i c:Nat} (hi:i<=9) (hacc:acc<128^i) (hc:c<256) (h9:i=9->c<=1):
  orI .u64 (acc:Int) (shlI .u64 (u64.wrap (andI .u8 (c:Int) 127)) ((7*i:Nat):Int))=((acc+c%128*128^i:Nat):Int):=by
 have e1:andI .u8 (c:Int) 127=((c%128:Nat):Int):=by
  have:=zwt (k:= .u8) rfl (a:=c) (b:=127) (by simpa [IntKind.bits] using hc) (by simp [IntKind.bits]);rw [zFr] at this;exact this
 have hp:128^i<=128^9:=qR (by omega) hi;have vC:c%128*128^i<18446744073709551616:=by
  by_cases h:i=9
  ·grind
  ·have h3:128^i<=128^8:=qR (by omega) (by omega);have:=pQ (show c%128<=127 by omega) h3;omega
 have e2:shlI .u64 (u64.wrap ((c%128:Nat):Int)) ((7*i:Nat):Int)=((c%128*128^i:Nat):Int):=by
  unfold shlI;rw [zoX rfl (by simp [IntKind.bits];omega),xA,yM (by simp [IntKind.bits];omega)];have h4:((c%128:Nat):Int)*2^(7*i)=((c%128*128^i:Nat):Int):=by rw [<-zHh];push_cast;rfl
  rw [h4];exact zoX rfl (by simpa [IntKind.bits] using vC)
 rw [e1,e2,zrc rfl (by simp [IntKind.bits];omega) (by simpa [IntKind.bits] using vC)];congr 1;rw [<-zHh] at hacc|-;exact zsz _ _ _ hacc
theorem zCm:∀(t:List UInt8) (v:List UInt8) (i acc:Nat),v.drop i=t->i+t.length=v.length->v.length<=10->acc<128^i->zdS v acc i=some (scan i acc t):=by
 intro t
 induction t with
 | nil=>
  intro v i acc _ hl _ _;refine zfw ?_;unfold zcA;rw [itF (by simp at hl|-;omega)];rfl
 | cons c t ih=>
  intro v i acc hd hl hv hacc;simp only [ya] at hl;have hget:v[i]'(by omega)=c:=by
   have h1:v.drop i=v[i]'(by omega)::v.drop (i+1):=yy (by omega)
   grind
  have hd':v.drop (i+1)=t:=by rw [<-ym,hd];rfl
  have hc:=c.toNat_lt;have hb:zcA v acc i=if i=9/\1<c.toNat then some (.inr (.inr (0,0,4))) else if c.toNat<128 then some (.inr (.inr (((acc+c.toNat%128*128^i:Nat):Int),((i+1:Nat):Int),0))) else some (.inl (((acc+c.toNat%128*128^i:Nat):Int),((i+1:Nat):Int))):=by
   unfold zcA;rw [ui,zao rfl (show i<v.length by omega),sb,hget];by_cases h9:i=9/\1<c.toNat
   ·grind
   ·rw [xl h9,uj,uk];have e:((7:Int)*(i:Int))=((7*i:Nat):Int):=by push_cast;rfl
    rw [e,zxW,sb,zCn (by omega) hacc (by omega) (by omega),uk]
    grind
  rw [scan];split at hb
  ·rename_i h9;rw [xm h9];exact zfw hb
  ·rename_i h9;rw [xl h9];split at hb
   ·rename_i h8;rw [xm h8];exact zfw hb
   ·rename_i h8;rw [xl h8,znE hb];refine ih v (i+1) _ hd' (by omega) hv ?_;rw [yB];have:=yx (128^i) (show c.toNat%128<=127 by omega);omega
theorem zrg (b:List UInt8):zdW b=some (rd b):=by
 unfold zdW rd;have e:(if (10:Int)<(b.length:Int) then (10:Int) else (b.length:Int))=((min 10 b.length:Nat):Int):=by split<;>omega
 have e2:b.take (min 10 b.length)=b.take 10:=by rw [List.take_eq_take_iff];omega
 rw [e,zrC rfl (by omega),sb,e2];have h:=zCm (b.take 10) (b.take 10) 0 0 rfl (by simp) (by simp;omega) (by simp);have h':zdS (b.take 10) 0 0=some (scan 0 0 (b.take 10)):=h;rw [h',sb];cases scan 0 0 (b.take 10)<;>rfl
theorem zBe (b:List UInt8):zfK b=some ((rd b).2.1,(rd b).2.2):=by unfold zfK;rw [zrg,sb]
theorem zAE:∀(k:Nat) (l:List UInt8),lead k l<=k/\lead k l<=l.length
 | 0,_=>⟨xr _,xB _⟩
 | _+1,[]=>⟨xB _,xr _⟩
 | k+1,c::t=>by
  have:=zAE k t;rw [lead];split<;>simp<;>omega
theorem zCr:∀(l:List UInt8) (i acc:Nat),i+l.length<=10->i<=9->
  scan i acc l=if i+lead (10 - i) l=10 then .inr (0,0,4) else if lead (10 - i) l=l.length then .inl () else if i+lead (10 - i) l=9/\1<(l.getD (lead (10 - i) l) 0).toNat then .inr (0,0,4) else
   .inr (((acc+hor (l.take (lead (10 - i) l+1))*128^i:Nat):Int),((i+lead (10 - i) l+1:Nat):Int),0):=by
 intro l
 induction l with
 | nil=>
  intro i acc _ hi;obtain ⟨k,hk⟩:∃k,10 - i=k+1:=⟨9 - i,by omega⟩;rw [hk];simp only [lead,scan,yn]
  grind
 | cons c t ih=>
  intro i acc hl hi;obtain ⟨k,hk⟩:∃k,10 - i=k+1:=⟨9 - i,by omega⟩;simp only [ya] at hl;rw [scan];by_cases hc:128<=c.toNat
  ·have e:lead (10 - i) (c::t)=lead k t+1:=by rw [hk,lead,xm hc]
   rw [e];by_cases h9:i=9
   ·have:k=0:=by omega
    subst this;rw [xm ⟨h9,by omega⟩,lead,xm (by omega)]
   ·rw [xl (by omega),xl (by omega),ih (i+1) _ (by omega) (by omega),show 10 - (i+1)=k by omega];by_cases h1:i+1+lead k t=10
    ·grind
    ·rw [xl h1,xl (show ¬i+(lead k t+1)=10 by omega)];by_cases h2:lead k t=t.length
     ·grind
     ·rw [xl h2,xl (show ¬lead k t+1=(c::t).length by simp;omega)];have eg:(c::t).getD (lead k t+1) 0=t.getD (lead k t) 0:=by simp [List.getD]
      rw [eg];by_cases h3:i+1+lead k t=9/\1<(t.getD (lead k t) 0).toNat
      ·grind
      ·rw [xl h3,xl (show ¬(i+(lead k t+1)=9/\1<(t.getD (lead k t) 0).toNat) by omega)];rw [pf,hor,yB]
       grind
  ·have e:lead (10 - i) (c::t)=0:=by rw [hk,lead,xl hc]
   rw [e];simp only [yr,ya,List.getD_cons_zero];rw [xl (show ¬i=10 by omega),xl (show ¬0=t.length+1 by omega)];by_cases h9:i=9/\1<c.toNat
   ·grind
   ·rw [xl h9,xl h9,xm (show c.toNat<128 by omega)];simp [hor]
theorem zza (x y:List UInt8):hor (x++y)=hor x+128^x.length*hor y:=by
 induction x with
 | nil=>simp [hor]
 | cons c t ih=>simp only [yc,hor,ih,ya,yB,Nat.mul_add];rw [yJ (128^t.length) 128,qD];omega
theorem zDp (l:List UInt8):hor l<128^l.length:=by
 induction l with
 | nil=>simp [hor]
 | cons c t ih=>simp only [hor,ya,yB];omega
theorem zIy (hn:n<=9) (hC:C<256) (h9:¬(n=9/\1<C)) (hX:X<128^n):X+128^n*(C%128)<18446744073709551616:=by
 by_cases h9':n=9
 ·subst h9';omega
 ·have h5:128^n<=128^8:=qR (by omega) (by omega);have h6:C%128<=127:=by omega
  have:=pQ h5 h6;omega
theorem zun:∀(k:Nat) (l:List UInt8),lead k (l.take k)=lead k l
 | 0,_=>rfl
 | _+1,[]=>rfl
 | k+1,c::t=>by simp only [pf,lead,zun k t]
theorem zum:∀(k:Nat) (l:List UInt8),(∀y∈l.take (lead k l),128<=y.toNat)/\∀(h:lead k l<l.length),lead k l<k->(l[lead k l]).toNat<128
 | 0,_=>⟨fun y hy=>by simp [lead] at hy,fun _ h=>by omega⟩
 | _+1,[]=>⟨fun y hy=>by simp at hy,fun h=>by simp at h⟩
 | k+1,c::t=>by
  obtain ⟨h1,h2⟩:=zum k t;by_cases hc:128<=c.toNat
  ·have e:lead (k+1) (c::t)=lead k t+1:=by rw [lead,xm hc]
   grind
  ·have e:lead (k+1) (c::t)=0:=by rw [lead,xl hc]
   grind
theorem ziv (b:List UInt8):rd b=(0,0,4)\/(rd b=(0,0,3)/\b.length<=9)\/
  ∃x c y,b=x++c::y/\(∀z∈x,128<=z.toNat)/\c.toNat<128/\x.length<=9/\hor (x++[c])<18446744073709551616/\rd b=(((hor (x++[c]):Nat):Int),((x.length+1:Nat):Int),0):=by
 have hle:=zAE 10 b;have hs:=zCr (b.take 10) 0 0 (by simp;omega) (by omega);simp only [xJ,qx,zun,Nat.pow_zero,yL] at hs;unfold rd;rw [hs];by_cases h10:lead 10 b=10
 ·rw [xm h10];exact .inl rfl
 ·rw [xl h10];by_cases hl:lead 10 b=(b.take 10).length
  ·rw [xm hl];refine .inr (.inl ⟨rfl,?_⟩);rw [xY] at hl;omega
  ·rw [xl hl];rw [xY] at hl;have vC:lead 10 b<b.length:=by omega
   have hg:(b.take 10).getD (lead 10 b) 0=b[lead 10 b]:=by
    grind
   rw [hg,y8,yM (by omega)];have hc:=(b[lead 10 b]).toNat_lt;by_cases h9:lead 10 b=9/\1<(b[lead 10 b]).toNat
   ·rw [xm h9];exact .inl rfl
   ·rw [xl h9];obtain ⟨hf1,hf2⟩:=zum 10 b;have hsp:b.take (lead 10 b+1)=b.take (lead 10 b)++[b[lead 10 b]]:=by
     simp_all
    have vF:(b.take (lead 10 b)).length=lead 10 b:=by rw [xY];omega
    refine .inr (.inr ⟨b.take (lead 10 b),b[lead 10 b],b.drop (lead 10 b+1),?_,hf1,hf2 vC (by omega),by omega,?_,?_⟩)
    ·simp_all
    ·rw [zza];have h3:=zDp (b.take (lead 10 b));rw [vF] at h3|-;simp only [hor,Nat.mul_zero,yr];exact zIy (by omega) (by omega) h9 h3
    ·rw [hsp,vF];simp [rdR]
theorem zrF (h:v<128):enc v=[UInt8.ofNat v]:=by rw [enc,xm h]
theorem zvv (h:¬v<128):enc v=UInt8.ofNat (128+v%128)::enc (v/128):=by rw [enc,xl h]
theorem zfm:∀(v:Nat),(enc v).length=lenN v:=by
 intro v
 induction v using Nat.strongRecOn with
 | _ v ih=>
  grind [zrF,zcd,zvv,zbL]
theorem zhz {v:Nat} (h:v<18446744073709551616):1<=(enc v).length/\(enc v).length<=10:=by
 rw [zfm];exact ⟨zjE v,zoh h⟩
theorem zED:∀(v i acc:Nat) (more:List UInt8),v*128^i<18446744073709551616->scan i acc (enc v++more)= .inr (((acc+v*128^i:Nat):Int),((i+(enc v).length:Nat):Int),0):=by
 intro v
 induction v using Nat.strongRecOn with
 | _ v ih=>
  intro i acc more hv;have h9:i=9->v<=1:=fun h=>by
   grind
  by_cases h:v<128
  ·have e:(UInt8.ofNat v).toNat=v:=by simp;omega
   rw [zrF h,List.singleton_append,scan,e,xl (by omega),xm h,qi h];rfl
  ·have e:(UInt8.ofNat (128+v%128)).toNat=128+v%128:=by simp;omega
   rw [zvv h,yc,scan,e,xl (by omega),xl (by omega)];have h2:v/128*128^(i+1)<=v*128^i:=by
    rw [yB,yJ (128^i) 128,<-qD];exact yx _ (by omega)
   rw [ih (v/128) (by omega) (i+1) _ _ (by omega)];have e3:acc+(128+v%128)%128*128^i+v/128*128^(i+1)=acc+v*128^i:=by
    have e5:v/128*128^(i+1)=v/128*128*128^i:=by rw [yB,yJ (128^i) 128,<-qD]
    rw [e5,show (128+v%128)%128=v%128 by omega,qL,<-Nat.add_mul,show v%128+v/128*128=v by omega]
   grind
theorem zsK {v:Nat} (more:List UInt8) (h:v<18446744073709551616):rd (enc v++more)=((v:Int),(((enc v).length:Nat):Int),0):=by
 unfold rd;rw [qy,yD (zhz h).2,zED v 0 0 _ (by simpa using h)];simp [rdR]
theorem zEH (v:Nat):shrI .u64 (v:Int) 7=((v/128:Nat):Int):=zoF (k:= .u64) (a:=v) (b:=7) (by simp [IntKind.bits])
theorem zDQ:∀(w n:Nat),n+w<9223372036854775808+w->n+lz w<=1152921504606846976->zgZ w n=some ((n+lz w:Nat):Int):=by
 intro w
 induction w using Nat.strongRecOn with
 | _ w ih=>
  intro n hn hl;by_cases h:w=0
  ·subst h;refine zqB ?_;rfl
  ·have e:=zHT h;refine (zqA (wv2':=((w/128:Nat):Int)) (n':=((n+1:Nat):Int)) ?_).trans ?_
   ·grind [zfy,sb,wrap_i64,zEH]
   ·rw [ih (w/128) (by omega) (n+1) (by omega) (by omega)];congr 2;omega
theorem zDP {v:Nat} (h:v<18446744073709551616):zjs (v:Int)=some ((lenN v:Nat):Int):=by
 unfold zjs;have h1:=zHS v;have h2:=zoh h;have h3:=zDQ (v/128) 1 (by omega) (by omega)
 grind [zEH,sb]
theorem zHZ:∀n<256,n||| 128=n%128+128:=by decide+kernel
theorem zEo:∀(v:Nat) (l:List UInt8),v<18446744073709551616->l.length+(enc v).length<=1152921504606->∃(v':Nat) (l':List UInt8),zfl (v:Int) l=some ((v':Int),l')/\v'<128/\l'++[UInt8.ofNat v']=l++enc v:=by
 intro v
 induction v using Nat.strongRecOn with
 | _ v ih=>
  intro l hv hl;by_cases h:v<128
  ·refine ⟨v,l,zoQ ?_,h,by rw [zrF h]⟩;unfold zdF
   grind
  ·rw [zvv h,ya] at hl;obtain ⟨v',l',h1,h2,h3⟩:=ih (v/128) (by omega) (l++[UInt8.ofNat (128+v%128)]) (by omega) (by simp;omega);refine ⟨v',l',?_,h2,by rw [h3,zvv h];simp⟩;refine (zoP (wv2':=((v/128:Nat):Int)) (l':=l++[UInt8.ofNat (128+v%128)]) ?_).trans h1;unfold zdF;have e1:(v:Int)%256=((v%256:Nat):Int):=by omega
   have e2:orI .u8 ((v%256:Nat):Int) 128=((v%128+128:Nat):Int):=by
    have:=zrc (k:= .u8) rfl (a:=v%256) (b:=128) (by simp [IntKind.bits];omega) (by simp [IntKind.bits])
    grind [zHZ]
   grind [zwq,ztP,sb,zdX,zEH]
theorem zzx {v:Nat} (b:List UInt8) (h:v<18446744073709551616) (hb:b.length<=1099511627776):zfv b (v:Int)=some (b++enc v):=by
 unfold zfv;have h1:=zoh h;have h2:=(zhz h).2;rw [zDP h,sb,uk,zGd (by omega) (by omega),sb,zdX (by simp;omega),sb];obtain ⟨v',l',h3,h4,h5⟩:=zEo v b h (by omega);have vF:l'.length+1=b.length+(enc v).length:=by have:=congrArg List.length h5;simpa using this
 grind [sb,zwq,ztP,zdX]
theorem zzE (a b:List UInt8):zdv a b=some (a==b):=rfl
def zba (n w:Int):Bool:=decide (1<=n/\n<=536870911/\(w=0\/w=1\/w=2\/w=5))
def tgR (r:Int×Int×Int):Int×Int×Int×Int:=
 if r.2.2≠0 then (0,0,0,r.2.2) else if 4294967295<r.1\/zba (r.1/8) (r.1%8)=false then (0,0,0,5) else (r.1/8,r.1%8,r.2.1,0)
def tg (l:List UInt8):Int×Int×Int×Int:=tgR (rd l)
def tW (n w:Int):Nat:=(8*n+w).toNat
theorem zdi :zba n w=true↔1<=n/\n<=536870911/\(w=0\/w=1\/w=2\/w=5):=by simp [zba]
theorem zfE (l:List UInt8):0<=(rd l).1/\(rd l).1<18446744073709551616/\0<=(rd l).2.1/\(rd l).2.1<=10/\(rd l).2.1<=l.length/\((rd l).2.2=0\/(rd l).2.2=3\/(rd l).2.2=4)/\((rd l).2.2=0->1<=(rd l).2.1):=by
 rcases ziv l with h| ⟨h,_⟩| ⟨x,c,y,e,_,_,hl,hv,h⟩
 ·rw [h];simp
 ·rw [h];simp
 ·have:l.length=x.length+1+y.length:=by rw [e];simp;omega
  rw [h];refine ⟨?_,?_,?_,?_,?_,.inl rfl,fun _=>?_⟩<;>simp only<;>omega
theorem zBa (x:List UInt8) (c:UInt8) (y:List UInt8) (hx:∀z∈x,128<=z.toNat) (hc:c.toNat<128) (hl:x.length<=9) (hv:hor (x++[c])<18446744073709551616):
  rd (x++c::y)=(((hor (x++[c]):Nat):Int),((x.length+1:Nat):Int),0):=by
 have key:∀(x:List UInt8) (z:List UInt8) (i acc:Nat),(∀z∈x,128<=z.toNat)->i+x.length<=9->acc+hor (x++[c])*128^i<18446744073709551616->scan i acc (x++c::z)= .inr (((acc+hor (x++[c])*128^i:Nat):Int),((i+x.length+1:Nat):Int),0):=by
  intro x
  induction x with
  | nil=>
   intro z i acc _ hi hv;have e1:hor ([]++[c])=c.toNat:=by simp [hor];omega
   rw [e1] at hv|-;rw [xz,scan,xl,xm hc,qi hc]
   ·rfl
   ·rintro ⟨rfl,h2⟩;have:=yx (128^9) (show 2<=c.toNat by omega);omega
  | cons d x ih=>
   intro z i acc hx hi hv;simp only [ya] at hi;have hd:=hx d xn;have e5:acc+hor ((d::x)++[c])*128^i=acc+d.toNat%128*128^i+hor (x++[c])*128^(i+1):=by
    rw [yc,hor,yB,Nat.add_mul,yJ (128^i) 128,<-qD,yJ (hor (x++[c])) 128];omega
   rw [e5] at hv|-;rw [yc,scan,xl (by omega),xl (by omega),ih z (i+1) _ (fun z hz=>hx z (xo _ hz)) (by omega) hv,ya];congr 3;omega
 unfold rd;have e2:(x++c::y).take 10=x++c::y.take (9 - x.length):=by
  rw [qy,yD (by omega),show 10 - x.length=(9 - x.length)+1 by omega,pf]
 rw [e2,key x _ 0 0 hx (by omega) (by simpa using hv)];simp [rdR]
theorem zmp (l m:List UInt8) (h:(rd l).2.2=0):rd (l++m)=rd l:=by
 rcases ziv l with h'| ⟨h',_⟩| ⟨x,c,y,e,hx,hc,hl,hv,h'⟩
 ·rw [h'] at h;cases h
 ·rw [h'] at h;cases h
 ·rw [h',e,yj,yc,zBa x c _ hx hc hl hv]
theorem zuS (l m:List UInt8) (h:(rd l).2.2=0):tg (l++m)=tg l:=by unfold tg;rw [zmp l m h]
theorem zBp (h:r.2.2≠0):tgR r=(0,0,0,r.2.2):=xm h
theorem ztc (h:r.2.2=0) (h2:4294967295<r.1\/zba (r.1/8) (r.1%8)=false):tgR r=(0,0,0,5):=by unfold tgR;rw [xl (by simp [h]),xm h2]
theorem zzL (h:r.2.2=0) (h2:¬(4294967295<r.1\/zba (r.1/8) (r.1%8)=false)):tgR r=(r.1/8,r.1%8,r.2.1,0):=by unfold tgR;rw [xl (by simp [h]),xl h2]
theorem zyd (l:List UInt8):(∃c,tg l=(0,0,0,c)/\(c=3\/c=4\/c=5))\/∃n w k,tg l=(n,w,k,0)/\zba n w=true/\1<=k/\k<=10/\k<=l.length/\rd l=(8*n+w,k,0):=by
 obtain ⟨h1,h2,h3,h4,h5,h6,h7⟩:=zfE l;unfold tg;by_cases h:(rd l).2.2=0
 ·by_cases hg:4294967295<(rd l).1\/zba ((rd l).1/8) ((rd l).1%8)=false
  ·exact .inl ⟨5,ztc h hg,by omega⟩
  ·refine .inr ⟨_,_,_,zzL h hg,?_,h7 h,h4,h5,?_⟩
   ·cases ht:zba ((rd l).1/8) ((rd l).1%8)
    ·exact absurd (.inr ht) hg
    ·rfl
   ·refine qS ?_ (qS rfl h);simp only;omega
 ·exact .inl ⟨_,zBp h,by omega⟩
theorem zqs {n w:Int} (h:zba n w=true):((tW n w:Nat):Int)=8*n+w/\tW n w<4294967296:=by
 have:=zdi.1 h;unfold tW;omega
theorem zFQ {v:Nat} (h:v<34359738368):lenN v<=5:=by
 by_cases h1:v<128
 ·rw [zcd h1];omega
 ·rw [zbL h1];by_cases h2:v/128<128
  ·rw [zcd h2];omega
  ·rw [zbL h2];by_cases h3:v/128/128<128
   ·rw [zcd h3];omega
   ·rw [zbL h3];by_cases h4:v/128/128/128<128
    ·rw [zcd h4];omega
    ·rw [zbL h4,zcd (by omega)];omega
theorem zIs {n w:Int} (more:List UInt8) (h:zba n w=true):tg (enc (tW n w)++more)=(n,w,((enc (tW n w)).length:Int),0):=by
 have hr:=zdi.1 h;obtain ⟨e,vC⟩:=zqs h;unfold tg;rw [zsK more (by omega)];have e1:((tW n w:Nat):Int)/8=n:=by omega
 have e2:((tW n w:Nat):Int)%8=w:=by omega
 rw [zzL rfl (by simp only [e1,e2,h];simp;omega)];simp only [e1,e2]
set_option linter.unusedVariables false
abbrev Rec:=zo
def zez (w:Int) (k:Nat) (m:List UInt8):Int⊕(Nat×Nat):=
 if w=0 then (if (rd m).2.2≠0 then .inl (rd m).2.2 else .inr (k,k+(rd m).2.1.toNat))
 else if w=2 then (if (rd m).2.2≠0 then .inl (rd m).2.2 else if (m.length:Int) - (rd m).2.1<(rd m).1 then .inl 3 else .inr (k+(rd m).2.1.toNat,k+(rd m).2.1.toNat+(rd m).1.toNat))
 else if m.length<(if w=5 then 4 else 8) then .inl 3 else .inr (k,k+(if w=5 then 4 else 8))
def rec5 (l:List UInt8):Int⊕(Int×Int×Nat×Nat):=
 if (tg l).2.2.2≠0 then .inl (tg l).2.2.2 else match zez (tg l).2.1 (tg l).2.2.1.toNat (l.drop (tg l).2.2.1.toNat) with
  | .inl c=> .inl c
  | .inr p=> .inr ((tg l).1,(tg l).2.1,p.1,p.2)
theorem zhd (w:Int) (k:Nat) (m:List UInt8):(∃c,zez w k m= .inl c/\(c=3\/c=4))\/
  ∃a t,zez w k m= .inr (a,t)/\k<=a/\a<=t/\t<=k+m.length/\
   (w=0/\a=k/\(rd m).2.2=0/\((t - k:Nat):Int)=(rd m).2.1/\k<t\/w=2/\(rd m).2.2=0/\((a - k:Nat):Int)=(rd m).2.1/\((t - a:Nat):Int)=(rd m).1\/w≠0/\w≠2/\a=k/\t=k+(if w=5 then 4 else 8)):=by
 obtain ⟨h1,h2,h3,h4,h5,h6,h7⟩:=zfE m;unfold zez;by_cases w0:w=0
 ·grind
 ·grind
theorem zvl (w:Int) (k:Nat) (m z:List UInt8) (h:zez w k m= .inr p):zez w k (m++z)= .inr p:=by
 unfold zez at h|-
 grind [zmp]
theorem zfr (l:List UInt8):(∃c,rec5 l= .inl c/\(c=3\/c=4\/c=5))\/
  ∃(n w:Int) (k a t:Nat),rec5 l= .inr (n,w,a,t)/\tg l=(n,w,(k:Int),0)/\zba n w=true/\zez w k (l.drop k)= .inr (a,t)/\1<=k/\k<=l.length/\k<=a/\a<=t/\t<=l.length/\rd l=(8*n+w,(k:Int),0):=by
 rcases zyd l with ⟨c,h,hc⟩| ⟨n,w,k,h,hr,k1,k2,k3,hrd⟩
 ·grind [rec5]
 ·obtain ⟨k,rfl⟩:∃j:Nat,k=j:=⟨k.toNat,by omega⟩
  have e:rec5 l=match zez w k (l.drop k) with
   | .inl c=> .inl c
   | .inr p=> .inr (n,w,p.1,p.2):=by unfold rec5;rw [h];simp
  rcases zhd w k (l.drop k) with ⟨c,h2,hc⟩| ⟨a,t,h2,g1,g2,g3,_⟩
  ·grind
  grind
theorem zqj (l z:List UInt8) (h:rec5 l= .inr r):rec5 (l++z)= .inr r:=by
 rcases zfr l with ⟨c,h',_⟩| ⟨n,w,k,a,t,h',htg,_,hb,_,hk,_,_,_,hrd⟩
 ·grind
 grind [rec5,zuS,zvl]
def zrec:Rec:=⟨0,0,0,0,0⟩
def zcg (b:List UInt8) (at5:Int):Rec×Int:=if at5<0\/at5>=b.length then (zrec,2) else match rec5 (b.drop at5.toNat) with
 | .inl c=>(zrec,c)
 | .inr (n,w,a,t)=>(⟨n,w,at5,at5+a,at5+t⟩,0)
def spl (base:Nat) (l:List UInt8):List Rec×Option (Nat×Int):=
 if hl:l=[] then ([],none) else match h:rec5 l with
  | .inl c=>([],some (base,c))
  | .inr (n,w,a,t)=>(⟨n,w,base,(base+a:Nat),(base+t:Nat)⟩::(spl (base+t) (l.drop t)).1,(spl (base+t) (l.drop t)).2)
termination_by l.length
decreasing_by
 all_goals
  rcases zfr l with ⟨c',h',_⟩| ⟨n',w',k',a',t',h',_,_,_,g1,g2,g3,g4,g5,_⟩
  ·rw [h'] at h;cases h
  ·rw [h'] at h;cases h;simp only [xT];omega
theorem zcS (base:Nat):spl base []=([],none):=by rw [spl,dif_pos rfl]
theorem zeC (hl:l≠[]) (h:rec5 l= .inl c):spl base l=([],some (base,c)):=by
 rw [spl,dif_neg hl]
 grind
theorem zbO (hl:l≠[]) (h:rec5 l= .inr (n,w,a,t)):
  spl base l=(⟨n,w,base,(base+a:Nat),(base+t:Nat)⟩::(spl (base+t) (l.drop t)).1,(spl (base+t) (l.drop t)).2):=by
 rw [spl,dif_neg hl];split
 ·grind
 ·grind
theorem zfp (P:Nat->List UInt8->Prop) (h0:∀base,P base []) (he:∀base l c,l≠[]->rec5 l= .inl c->(c=3\/c=4\/c=5)->P base l)
  (hc:∀base l (n w:Int) (a t:Nat),l≠[]->rec5 l= .inr (n,w,a,t)->zba n w=true->1<=a->a<=t->t<=l.length->P (base+t) (l.drop t)->P base l) (base:Nat) (l:List UInt8):P base l:=by
 generalize hn:l.length=m
 induction m using Nat.strongRecOn generalizing base l with
 | _ m ih=>
  by_cases hl:l=[]
  ·grind
  ·rcases zfr l with ⟨c,h,hc'⟩| ⟨n,w,k,a,t,h,_,hr,_,g1,g2,g3,g4,g5,_⟩
   ·grind
   ·exact hc base l n w a t hl h hr (by omega) g4 g5 (ih _ (by simp only [xT];omega) _ _ rfl)
theorem zGw (base:Nat) (l:List UInt8):(spl base l).1.length<=l.length:=by
 refine zfp (fun base l=>(spl base l).1.length<=l.length) ?_ ?_ ?_ base l
 ·intro base;rw [zcS];simp
 ·intro base l c hl h _;rw [zeC hl h];simp
 ·intro base l n w a t hl h _ g1 g2 g3 ih;rw [zbO hl h]
  grind
theorem zEK (base:Nat) (l:List UInt8):∀p c,(spl base l).2=some (p,c)->(c=3\/c=4\/c=5)/\base<=p/\p<base+l.length:=by
 refine zfp (fun base l=>∀p c,(spl base l).2=some (p,c)->(c=3\/c=4\/c=5)/\base<=p/\p<base+l.length) ?_ ?_ ?_ base l
 ·intro base p c h;rw [zcS] at h;cases h
 ·intro base l c' hl h hc p c h2;rw [zeC hl h] at h2;cases h2
  grind
 ·intro base l n w a t hl h _ g1 g2 g3 ih p c h2;rw [zbO hl h] at h2
  grind
def ziB (d:Nat) (r:Rec):Rec:=⟨r.Number,r.Wire,r.From+d,r.At+d,r.To+d⟩
theorem zuO (d:Nat) (base:Nat) (l:List UInt8):spl (base+d) l=((spl base l).1.map (ziB d),(spl base l).2.map fun p=>(p.1+d,p.2)):=by
 refine zfp (fun base l=>spl (base+d) l=((spl base l).1.map (ziB d),(spl base l).2.map fun p=>(p.1+d,p.2))) ?_ ?_ ?_ base l
 ·intro base;rw [zcS,zcS];rfl
 ·intro base l c hl h _;rw [zeC hl h,zeC hl h];rfl
 ·intro base l n w a t hl h _ g1 g2 g3 ih;rw [zbO hl h,zbO hl h,show base+d+t=base+t+d by omega,ih];simp only [xG,ziB,yi,yR,zo.mk.injEq,y6,qo];push_cast;omega
theorem zsY (m:List UInt8) (base:Nat) (l:List UInt8):(spl base l).2=none->spl base (l++m)=((spl base l).1++(spl (base+l.length) m).1,(spl (base+l.length) m).2):=by
 refine zfp (fun base l=>(spl base l).2=none->spl base (l++m)=((spl base l).1++(spl (base+l.length) m).1,(spl (base+l.length) m).2)) ?_ ?_ ?_ base l
 ·intro base _;rw [zcS];simp
 ·intro base l c hl h _ h2;rw [zeC hl h] at h2;cases h2
 ·intro base l n w a t hl h _ g1 g2 g3 ih h2;rw [zbO hl h] at h2|-;rw [zbO (by simp [hl]) (zqj l m h),po g3,ih h2]
  grind
def zaW (w:Int) (v:List UInt8):Bool:=
 if w=0 then decide ((rd v).2.2=0/\(rd v).2.1=v.length) else decide (w=2\/w=1/\v.length=8\/w=5/\v.length=4)
def put5 (n w:Int) (v:List UInt8):List UInt8:=enc (tW n w)++(if w=2 then enc v.length else [])++v
theorem zFy (v:Nat):1<=(enc v).length:=by rw [zfm];exact zjE v
theorem zEr {n w:Int} {v:List UInt8} (z:List UInt8) (h:zba n w=true) (hf:zaW w v=true) (hv:v.length<=1048576):
  rec5 (put5 n w v++z)= .inr (n,w,(put5 n w v).length - v.length,(put5 n w v).length):=by
 obtain ⟨_,vC⟩:=zqs h;have hen:=zhz (v:=v.length) (by omega);have e:tg (put5 n w v++z)=(n,w,((enc (tW n w)).length:Int),0):=by
  grind [put5,sb,wrap_i64,zIs]
 have hd:(put5 n w v++z).drop (enc (tW n w)).length=(if w=2 then enc v.length else [])++v++z:=by
  unfold put5
  grind
 unfold rec5;rw [e];simp only [ne_eq,qT,yu,xA];rw [hd];have hw:=(zdi.1 h).2.2;unfold zaW at hf;rcases hw with rfl| rfl| rfl| rfl
 ·rw [xm rfl] at hf;obtain ⟨f1,f2⟩:=yh hf;have hb:zez 0 (enc (tW n 0)).length ((if (0:Int)=2 then enc v.length else [])++v++z)= .inr ((enc (tW n 0)).length,(enc (tW n 0)).length+v.length):=by
   grind [zez,zmp]
  rw [hb];simp [put5]
 ·grind [zez]
 ·grind [zez,zsK]
 ·grind [zez]
theorem zfg (n w:Int) (v:List UInt8):(put5 n w v).length=(enc (tW n w)).length+(if w=2 then (enc v.length).length else 0)+v.length:=by
 unfold put5
 grind
theorem zGx {n w:Int} {v:List UInt8} (h:zba n w=true) (hf:zaW w v=true) (hv:v.length<=1048576):
  spl 0 (put5 n w v)=([⟨n,w,0,(((put5 n w v).length - v.length:Nat):Int),((put5 n w v).length:Int)⟩],none):=by
 have h1:=zEr [] h hf hv;rw [xS] at h1;have vR:put5 n w v≠[]:=fun e=>by
  grind [zfg,zFy]
 rw [zbO vR h1,qY,zcS];simp
theorem zvx {l:List UInt8} {k:Nat} (h:rd l=((rd l).1,(k:Int),0)):(enc (rd l).1.toNat).length<=k:=by
 rcases ziv l with h'| ⟨h',_⟩| ⟨x,c,y,e,hx,hc,hl,hv,h'⟩
 ·grind
 ·grind
 ·rw [h'] at h|-;have hk:(x.length:Int)+1=k:=by have:=congrArg (fun p=>p.2.1) h;simpa using this
  simp only [xA];have h1:=zDp (x++[c]);rw [zfm];have key:∀(j v:Nat),v<128^(j+1)->lenN v<=j+1:=by
   intro j
   induction j with
   | zero=>intro v hv;rw [zcd (by omega)];omega
   | succ j ih=>
    grind [zcd,zbL]
  grind
theorem zsL {l:List UInt8} {n w:Int} {a t:Nat} (h:rec5 l= .inr (n,w,a,t)):
  zaW w ((l.drop a).take (t - a))=true/\((l.drop a).take (t - a)).length=t - a/\(put5 n w ((l.drop a).take (t - a))).length<=t:=by
 rcases zfr l with ⟨c,h',_⟩| ⟨n',w',k,a',t',h',_,hr,hb,g1,g2,g3,g4,g5,hrd⟩
 ·grind
 ·rw [h'] at h;cases h;have vF:((l.drop a).take (t - a)).length=t - a:=by simp;omega
  have hm:=zvx (l:=l) (k:=k) (by rw [hrd]);have e1:(rd l).1.toNat=tW n w:=by rw [hrd];rfl
  rw [e1] at hm;refine ⟨?_,vF,?_⟩
  ·rcases zhd w k (l.drop k) with ⟨c,hc,_⟩| ⟨a2,t2,h2,k1,k2,k3,hcase⟩
   ·grind
   ·rw [h2] at hb;cases hb;unfold zaW;rcases hcase with ⟨rfl,rfl,f1,f2,f3⟩| ⟨rfl,f1,f2,f3⟩| ⟨w0,w2,rfl,f1⟩
    ·rw [xm rfl]
     -- what is read is the value alone
     have hv:rd ((l.drop a).take (t - a))=rd (l.drop a):=by
      rcases ziv (l.drop a) with h6| ⟨h6,_⟩| ⟨x,c,y,e,hx,hc,hl,hv,h6⟩
      ·grind
      ·grind
      ·rw [h6] at f2;have e7:t - a=(x++[c]).length:=by simp at f2|-;omega
       grind [zBa]
     grind
    ·rfl
    grind [zdi]
  ·rw [zfg,vF];rcases zhd w k (l.drop k) with ⟨c,hc,_⟩| ⟨a2,t2,h2,k1,k2,k3,hcase⟩
   ·grind
   ·rw [h2] at hb;cases hb;by_cases hw2:w=2
    ·rw [xm hw2];rcases hcase with ⟨rfl,_⟩| ⟨_,f1,f2,f3⟩| ⟨_,w2,_⟩
     ·omega
     ·have hm2:=zvx (l:=l.drop k) (k:=a - k) (by rw [f2];exact qS rfl (qS rfl f1))
      grind
     grind
    grind
theorem zBb (l:List UInt8) {j:Nat} (h:(rd l).2.2=0) (hj:(rd l).2.1<=j):rd (l.take j)=rd l:=by
 rcases ziv l with h6| ⟨h6,_⟩| ⟨x,c,y,e,hx,hc,hl,hv,h6⟩
 ·grind
 ·grind
 ·rw [h6] at hj;have hj':(x++[c]).length<=j:=by simp at hj|-;omega
  have:l.take j=x++c::y.take (j - (x++[c]).length):=by
   rw [e,List.append_cons x c y,qy,yD hj',<-List.append_cons]
  rw [this,zBa x c _ hx hc hl hv,h6]
theorem zyL (h:zez w k m= .inr (a,t)):zez w k (m.take (t - k))= .inr (a,t):=by
 rcases zhd w k m with ⟨c,hc,_⟩| ⟨a2,t2,h2,k1,k2,k3,hcase⟩
 ·grind
 grind [zez,zBb]
theorem zpD (h:rec5 l= .inr (n,w,a,t)):rec5 (l.take t)= .inr (n,w,a,t):=by
 rcases zfr l with ⟨c,h',_⟩| ⟨n',w',k,a',t',h',htg,hr,hb,g1,g2,g3,g4,g5,hrd⟩
 ·grind
 ·rw [h'] at h;cases h;have hr1:=zBb l (j:=t) (by rw [hrd]) (by rw [hrd];simp only;omega);have e:tg (l.take t)=(n,w,(k:Int),0):=by
   have:=zuS (l.take t) (l.drop t) (by rw [hr1,hrd]);simp_all
  unfold rec5;rw [e];simp only [ne_eq,qT,yu,xA];rw [qn,zyL hb]
theorem zBh (b:List UInt8) (base:Nat) (l:List UInt8):l=b.drop base->base<=b.length->∀r∈(spl base l).1,∃(n w:Int) (f a t:Nat),r=⟨n,w,(f:Int),((f+a:Nat):Int),((f+t:Nat):Int)⟩/\rec5 (b.drop f)= .inr (n,w,a,t)/\1<=a/\a<=t/\f+t<=b.length:=by
 refine zfp (fun base l=>l=b.drop base->base<=b.length->∀r∈(spl base l).1,∃(n w:Int) (f a t:Nat),r=⟨n,w,(f:Int),((f+a:Nat):Int),((f+t:Nat):Int)⟩/\rec5 (b.drop f)= .inr (n,w,a,t)/\1<=a/\a<=t/\f+t<=b.length) ?_ ?_ ?_ base l
 ·intro base _ _ r hr;rw [zcS] at hr;cases hr
 ·intro base l c hl h _ _ _ r hr;rw [zeC hl h] at hr;cases hr
 ·intro base l n w a t hl h _ g1 g2 g3 ih hld hbase r hr;have vF:l.length=b.length - base:=by rw [hld];simp
  rw [zbO hl h] at hr;rcases xq.1 hr with rfl| hr
  ·grind
  ·exact ih (by rw [hld,ym]) (by omega) r hr
theorem zEh (k:IntKind) (a b:Int):orI k a b=bits .or k a b:=rfl
theorem zxy (w:Int):zgx w=some (w%4294967296):=by unfold zgx;rw [zyA]
theorem zCs (w:Int):zhb w=some (sgnS w):=by
 unfold zhb;rw [zxy,sb,zCK];unfold sgnS;congr 1;split<;>split<;>omega
theorem zCH (h: -2147483648<=n/\n<=2147483647):zhc n=some (zmZ n):=by
 unfold zhc;rw [uk,wrap_u64];unfold zmZ;congr 1;split<;>omega
theorem zxu {v:List UInt8} {m k j:Nat} (hk:k<=8) (hv:v.length=k) (hj:j<k):zcr v (m:Int) (zeS k m j) (j:Int)=some (.inl (zeS k m (j+1),((j+1:Nat):Int))):=by
 have vF:=zsg (n:=k) (m:=m) (j:=j) (by omega);unfold zcr;have e1:i64.wrap (8*(j:Int))=((8*j:Nat):Int):=by rw [uk];push_cast;rfl
 rw [ui,e1,zEG,sb,zao rfl (show j<(zeS k m j).length by omega),sb,zoF (by simp [IntKind.bits];omega),zrf,zwq,zxv,zwC rfl,sb,xA,zxs hj,uk];rfl
theorem zxt {v:List UInt8} {m k:Nat} (hk:k<=8) (hv:v.length=k):∀(d j:Nat),j+d=k->zdK v (m:Int) (zeS k m j) (j:Int)=some (zed k m):=by
 intro d
 induction d with
 | zero=>
  intro j hj;refine zng ?_;unfold zcr;have:j=k:=by omega
  subst this;rw [uj,zxr]
 | succ d ih=>
  intro j hj;rw [znf (zxu hk hv (by omega))];exact ih (j+1) (by omega)
theorem zuo {m:Nat} (n:Int):zha (m:Int) n=some (zed (min n.toNat 8) m):=by
 unfold zha;have e:(if (8:Int)<(if n<0 then 0 else n) then (8:Int) else (if n<0 then 0 else n))=((min n.toNat 8:Nat):Int):=by split<;>split<;>omega
 rw [e,zzm rfl (Int.le_refl _) (by omega),sb];have h:=zxt (v:=List.replicate (min n.toNat 8) (0:UInt8)) (m:=m) (k:=min n.toNat 8) (by omega) (by simp) (min n.toNat 8) 0 (by omega);rw [zvF] at h;have h':zdK (List.replicate (min n.toNat 8) (0:UInt8)) (m:Int) (List.replicate (min n.toNat 8) (0:UInt8)) 0=some (zed (min n.toNat 8) m):=h;rw [h',sb]
theorem zCx {l:List UInt8} {j:Nat} (h:j<l.length):l.take (j+1)=l.take j++[l[j]]:=by rw [List.take_add_one,xI h];rfl
theorem zCJ {v:List UInt8} (hv:v.length<=8):∀(d j:Nat),j+d=v.length->zeQ v ((word (v.take j):Nat):Int) (j:Int)=some ((word v:Nat):Int):=by
 intro d
 induction d with
 | zero=>
  intro j hj;refine zpa ?_;unfold zdZ;rw [uj,yD (by omega)]
 | succ d ih=>
  intro j hj;have hl:(v.take j).length=j:=by simp;omega
  have hw:=zwo (v.take j);rw [hl] at hw;refine (zoZ (wv':=((word (v.take (j+1)):Nat):Int)) (v2':=((j+1:Nat):Int)) ?_).trans (ih (j+1) (by omega));unfold zdZ;have hc:=(v[j]'(by omega)).toNat_lt;have e1:i64.wrap (8*(j:Int))=((8*j:Nat):Int):=by rw [uk];push_cast;rfl
  have e2:shlI .u64 (u64.wrap ((v[j]'(by omega)).toNat:Int)) ((8*j:Nat):Int)=u64.wrap (((v[j]'(by omega)).toNat:Int)*2^(8*j)):=by
   unfold shlI;rw [xA,yM (by simp [IntKind.bits];omega),wrap_u64 ((v[j]'(by omega)).toNat:Int),yZ (by omega) (by omega)]
  rw [ui,zao rfl (show j<v.length by omega),sb,e1,zxW,sb,e2,zEh,zGK _ _ _ (by omega) (by omega) hw,zCx (show j<v.length by omega),zuW,hl,uk];rfl
theorem zGJ (b:List UInt8):zjt b=some ((word (b.take 8):Nat):Int):=by
 unfold zjt;have e:(if (8:Int)<(b.length:Int) then (8:Int) else (b.length:Int))=((min 8 b.length:Nat):Int):=by split<;>omega
 have e2:b.take (min 8 b.length)=b.take 8:=by rw [List.take_eq_take_iff];omega
 rw [e,zrC rfl (by omega),sb,e2];have h:=zCJ (v:=b.take 8) (by simp;omega) (b.take 8).length 0 (by omega);have h':zeQ (b.take 8) 0 0=some ((word (b.take 8):Nat):Int):=h;rw [h',sb]
def zaQ (k:Int):Bool:=decide (1<=k/\k<=17)
def kNum (k:Int):Bool:=decide (1<=k/\k<=14)
def zX (k:Int):Int:=if 15<=k then 2 else if 12<=k then 1 else if 9<=k then 5 else 0
def zaM (k w:Int):Int:=
 if k=1\/k=8 then zmZ (sgnS w) else if k=3\/k=5\/k=9\/k=10\/k=11 then w%4294967296 else if k=7 then (if 0<w then 1 else 0) else w
theorem zeE (k:Int) (h:0<=w/\w<=18446744073709551615):0<=zaM k w/\zaM k w<=18446744073709551615:=by
 have hs:=zzF w;unfold zaM;split
 ·exact zGH (by omega)
 ·split
  ·omega
  ·split
   ·split<;>omega
   ·exact h
theorem zCW {k:Int} {w:Int} (h9:9<=k) (h12:k<12):zaM k w<4294967296:=by
 unfold zaM;rw [xl (by omega),xm (by omega)];omega
theorem ziL (k:Int) {w:Int} (h:0<=w/\w<=18446744073709551615):zaM k (zaM k w)=zaM k w:=by
 have hs:=zzF w;unfold zaM;by_cases h1:k=1\/k=8
 ·simp only [xm h1];rw [zEF hs]
 ·simp only [xl h1];by_cases h2:k=3\/k=5\/k=9\/k=10\/k=11
  ·simp only [xm h2];omega
  ·simp only [xl h2];by_cases h7:k=7
   ·simp only [xm h7];split<;>simp
   ·simp only [xl h7]
def rawW (k:Int) (b:List UInt8):Int:=if zX k=0 then (rd b).1 else (word (b.take 8):Nat)
def zjQ (k:Int) (b:List UInt8):Int×Int:=if kNum k=false then (0,2) else if zaW (zX k) b=false then (0,12) else (zaM k (rawW k b),0)
def zhD (k:Int) (c:Nat):List UInt8:=if 12<=k then zed 8 c else if 9<=k then zed 4 c else enc c
def sPut (k w:Int):List UInt8:=zhD k (zaM k w).toNat
theorem zkx (k:Int) :0<=rawW k b/\rawW k b<=18446744073709551615:=by
 unfold rawW;split
 ·have:=zfE b;omega
 ·have h:=zwo (b.take 8);have h2:(256:Nat)^(b.take 8).length<=256^8:=qR (by omega) (by simp;omega);omega
theorem zdc :kNum k=true↔1<=k/\k<=14:=by simp [kNum]
theorem zqo {k:Int} (hk:kNum k=true) {c:Nat} (hc:c<18446744073709551616):zaW (zX k) (zhD k c)=true:=by
 have:=zdc.1 hk;unfold zhD;by_cases h1:12<=k
 ·have e:zX k=1:=by unfold zX;rw [xl (by omega),xm h1]
  rw [xm h1,e];simp [zaW,zar]
 ·rw [xl h1];by_cases h2:9<=k
  ·have e:zX k=5:=by unfold zX;rw [xl (by omega),xl h1,xm h2]
   rw [xm h2,e];simp [zaW,zar]
  ·have e:zX k=0:=by unfold zX;rw [xl (by omega),xl h1,xl h2]
   have hr:=zsK [] hc;rw [xS] at hr;rw [xl h2,e];unfold zaW;rw [xm rfl,hr];simp
theorem zzz {k:Int} (hk:kNum k=true) {c:Nat} (hc:c<18446744073709551616) (h32:9<=k->k<12->c<4294967296):rawW k (zhD k c)=(c:Int):=by
 have:=zdc.1 hk;unfold zhD rawW;by_cases h1:12<=k
 ·have e:zX k=1:=by unfold zX;rw [xl (by omega),xm h1]
  rw [xm h1,e,xl (by omega),yD (by rw [zar];omega),zlY,qi (by omega)]
 ·rw [xl h1];by_cases h2:9<=k
  ·have e:zX k=5:=by unfold zX;rw [xl (by omega),xl h1,xm h2]
   have:=h32 h2 (by omega);rw [xm h2,e,xl (by omega),yD (by rw [zar];omega),zlY,qi (by omega)]
  ·have e:zX k=0:=by unfold zX;rw [xl (by omega),xl h1,xl h2]
   have hr:=zsK [] hc;rw [xS] at hr;rw [xl h2,e,xm rfl,hr]
theorem zzD {k w:Int} (hk:kNum k=true) (h:0<=w/\w<=18446744073709551615):zjQ k (sPut k w)=(zaM k w,0):=by
 have hc:=zeE k h;obtain ⟨c,hcc⟩:∃c:Nat,zaM k w=c:=⟨(zaM k w).toNat,by omega⟩;unfold zjQ sPut;rw [hcc,xA,hk,xl (by simp),zqo hk (by omega),xl (by simp),zzz hk (by omega) (fun h9 h12=>by have:=zCW (w:=w) h9 h12;omega),<-hcc,ziL k h]
theorem zzC {k w:Int} (h:0<=w/\w<=18446744073709551615):sPut k (zaM k w)=sPut k w:=by unfold sPut;rw [ziL k h]
theorem zhp {k w:Int} (h:0<=w/\w<=18446744073709551615):1<=(sPut k w).length/\(sPut k w).length<=10:=by
 have hc:=zeE k h;unfold sPut zhD;split
 ·rw [zar];omega
 ·split
  ·rw [zar];omega
  ·exact zhz (by omega)
def zgu (k:Int) (l:List UInt8):Int⊕Nat:=
 if k<9 then (if (rd l).2.2≠0 then .inl (rd l).2.2 else .inr (rd l).2.1.toNat) else if l.length<(if k<12 then 4 else 8) then .inl 3 else .inr (if k<12 then 4 else 8)
theorem zlU (k:Int) (l:List UInt8):(∃c,zgu k l= .inl c/\(c=3\/c=4))\/∃n,zgu k l= .inr n/\1<=n/\n<=l.length/\n<=10/\(k<9/\(rd l).2.2=0/\(rd l).2.1=(n:Int)\/¬k<9/\n=(if k<12 then 4 else 8)):=by
 obtain ⟨h1,h2,h3,h4,h5,h6,h7⟩:=zfE l;unfold zgu
 grind
theorem zwi (k:Int) (l m:List UInt8) {n:Nat} (h:zgu k l= .inr n):zgu k (l++m)= .inr n:=by
 unfold zgu at h|-
 grind [zmp]
def pcs (k:Int) (l:List UInt8):List (List UInt8)×Int:=
 if hl:l=[] then ([],0) else match h:zgu k l with
  | .inl c=>([],c)
  | .inr n=>(l.take n::(pcs k (l.drop n)).1,(pcs k (l.drop n)).2)
termination_by l.length
decreasing_by
 all_goals
  rcases zlU k l with ⟨c',h',_⟩| ⟨n',h',g1,g2,_⟩
  ·rw [h'] at h;cases h
  ·rw [h'] at h;cases h;simp only [xT];omega
theorem zgW (k:Int):pcs k []=([],0):=by rw [pcs,dif_pos rfl]
theorem zmm (hl:l≠[]) (h:zgu k l= .inl c):pcs k l=([],c):=by
 rw [pcs,dif_neg hl]
 grind
theorem zgc (hl:l≠[]) (h:zgu k l= .inr n):pcs k l=(l.take n::(pcs k (l.drop n)).1,(pcs k (l.drop n)).2):=by
 rw [pcs,dif_neg hl]
 grind
theorem zmn (k:Int) (P:List UInt8->Prop) (h0:P []) (he:∀l c,l≠[]->zgu k l= .inl c->(c=3\/c=4)->P l)
  (hc:∀l n,l≠[]->zgu k l= .inr n->1<=n->n<=l.length->n<=10->P (l.drop n)->P l) (l:List UInt8):P l:=by
 generalize hn:l.length=m
 induction m using Nat.strongRecOn generalizing l with
 | _ m ih=>
  by_cases hl:l=[]
  ·grind
  ·rcases zlU k l with ⟨c,h,hc'⟩| ⟨n,h,g1,g2,g3,_⟩
   ·grind
   grind
theorem zxD (k:Int) (l:List UInt8):(pcs k l).2=0\/(pcs k l).2=3\/(pcs k l).2=4:=by
 refine zmn k (fun l=>(pcs k l).2=0\/(pcs k l).2=3\/(pcs k l).2=4) ?_ ?_ ?_ l
 ·rw [zgW];exact .inl rfl
 ·intro l c hl h hc;rw [zmm hl h];exact .inr hc
 ·intro l n hl h _ _ _ ih;rw [zgc hl h];exact ih
theorem zvS (k:Int) (l:List UInt8):(pcs k l).1.length<=l.length:=by
 refine zmn k (fun l=>(pcs k l).1.length<=l.length) ?_ ?_ ?_ l
 ·rw [zgW];simp
 ·intro l c hl h _;rw [zmm hl h];simp
 ·intro l n hl h _ _ _ ih;rw [zgc hl h]
  grind
theorem zxE (k:Int) (l:List UInt8):(pcs k l).2=0->(pcs k l).1.flatten=l:=by
 refine zmn k (fun l=>(pcs k l).2=0->(pcs k l).1.flatten=l) ?_ ?_ ?_ l
 ·rw [zgW];intro _;rfl
 ·intro l c hl h hc h2;rw [zmm hl h] at h2;simp only at h2;omega
 ·intro l n hl h _ _ _ ih h2;rw [zgc hl h] at h2|-;simp_all
theorem zzv (k:Int) (m l:List UInt8):(pcs k l).2=0->pcs k (l++m)=((pcs k l).1++(pcs k m).1,(pcs k m).2):=by
 refine zmn k (fun l=>(pcs k l).2=0->pcs k (l++m)=((pcs k l).1++(pcs k m).1,(pcs k m).2)) ?_ ?_ ?_ l
 ·intro _;rw [zgW];simp
 ·intro l c hl h hc h2;rw [zmm hl h] at h2;simp only at h2;omega
 ·intro l n hl h g1 g2 _ ih h2;rw [zgc hl h] at h2|-;rw [zgc (by simp [hl]) (zwi k l m h),pG g2,po g2,ih h2];rfl
theorem zzO (hk:kNum k=true) (h:zgu k l= .inr n):zaW (zX k) (l.take n)=true:=by
 have hk':=zdc.1 hk;rcases zlU k l with ⟨c,h',_⟩| ⟨n',h',g1,g2,g3,hcase⟩
 ·grind
 ·rw [h'] at h;cases h;have vF:(l.take n).length=n:=by simp;omega
  unfold zaW;rcases hcase with ⟨h9,f1,f2⟩| ⟨h9,f1⟩
  ·have e:zX k=0:=by unfold zX;rw [xl (by omega),xl (by omega),xl (by omega)]
   rw [xm e];rcases ziv l with h6| ⟨h6,_⟩| ⟨x,c,y,e,hx,hc,hl,hv,h6⟩
   ·grind
   ·grind
   ·rw [h6] at f2;have e7:n=(x++[c]).length:=by simp at f2|-;omega
    grind [zBa]
  grind [zX]
theorem zsG (hk:kNum k=true) (l:List UInt8):∀p∈(pcs k l).1,zaW (zX k) p=true/\1<=p.length/\p.length<=10:=by
 refine zmn k (fun l=>∀p∈(pcs k l).1,zaW (zX k) p=true/\1<=p.length/\p.length<=10) ?_ ?_ ?_ l
 ·rw [zgW];intro p hp;cases hp
 ·intro l c hl h _;rw [zmm hl h];intro p hp;cases hp
 ·intro l n hl h g1 g2 g3 ih;rw [zgc hl h]
  grind [zzO]
def zcT (k:Int) (p:List UInt8):Int:=zaM k (rawW k p)
theorem zhq (hk:kNum k=true) (hf:zaW (zX k) p=true):zjQ k p=(zcT k p,0):=by
 unfold zjQ zcT
 grind
theorem zzP {k w:Int} (hk:kNum k=true) (h:0<=w/\w<=18446744073709551615) (m:List UInt8):zgu k (sPut k w++m)= .inr (sPut k w).length:=by
 have hk':=zdc.1 hk;have hc:=zeE k h;unfold sPut zhD zgu
 grind [zar,zsK]
theorem zot {k:Int} (hk:kNum k=true):∀(l:List Int),(∀w∈l,0<=w/\w<=18446744073709551615)->pcs k (l.flatMap (sPut k))=(l.map (sPut k),0)
 | [],_=>zgW k
 | w::l,h=>by
  have hw:=h w xn;have vF:=zhp (k:=k) hw;have vR:sPut k w++l.flatMap (sPut k)≠[]:=fun e=>by
   simp_all
  rw [xC,zgc vR (zzP hk hw _),qc,pR,zot hk l fun v hv=>h v (xo _ hv)];rfl
def ends (base:Nat):List (List UInt8)->List Int
 | []=>[]
 | p::ps=>((base+p.length:Nat):Int)::ends (base+p.length) ps
def zkG (k:Int) (b:List UInt8):List Int×Int:=if kNum k=false then ([],2) else if (pcs k b).2=0 then (ends 0 (pcs k b).1,0) else ([],(pcs k b).2)
def zZ (k:Int) (b:List UInt8):List Int×Int:=if kNum k=false then ([],2) else if (pcs k b).2=0 then ((pcs k b).1.map (zcT k),0) else ([],(pcs k b).2)
abbrev Fld:=za
abbrev Mes:=zg
def zij {α:Type} (p:α->Bool) (l:List α):Int:=match l.findIdx? p with
 | some i=>(i:Int)
 | none=> -1
theorem ziO {α:Type} {p:α->Bool} {l:List α} (h:l.findIdx? p=none):zij p l= -1:=by unfold zij;rw [h]
theorem ziP {α:Type} {p:α->Bool} {l:List α} {i:Nat} (h:l.findIdx? p=some i):zij p l=(i:Int):=by unfold zij;rw [h]
theorem zpi {α:Type} (p:α->Bool) (l:List α) (F:Int->Option (Unit⊕Int)) (h0:F (l.length:Int)=some (.inl ())) (hs:∀(i:Nat) (h:i<l.length),F (i:Int)=if p l[i] then some (.inr (i:Int)) else F ((i+1:Nat):Int)):
  ∀(d i:Nat),i+d=l.length->(∀j (h:j<l.length),j<i->p l[j]=false)->F (i:Int)=some (match l.findIdx? p with| some k=> .inr (k:Int)| none=> .inl ()):=by
 intro d
 induction d with
 | zero=>
  intro i hi hj;have:i=l.length:=by omega
  subst this;have hn:l.findIdx? p=none:=by
   rw [ud];intro x hx;obtain ⟨j,hj',rfl⟩:=y9 hx
   grind
  rw [h0,hn]
 | succ d ih=>
  intro i hi hj;have hil:i<l.length:=by omega
  rw [hs i hil];by_cases hp:p l[i]=true
  ·have hf:l.findIdx? p=some i:=by
    rw [pr]
    grind
   grind
  ·rw [xl hp];refine ih (i+1) (by omega) fun j h hji=>?_
   grind
def fldI (m:Mes) (number:Int):Int:=zij (fun f:Fld=>f.Number==number) m.Fields
def nmc (i:Nat) (c:UInt8):Bool:=decide (65<=c.toNat/\c.toNat<=90\/97<=c.toNat/\c.toNat<=122\/c.toNat=95\/0<i/\48<=c.toNat/\c.toNat<=57)
def nmA:Nat->List UInt8->Bool
 | _,[]=>true
 | i,c::l=>nmc i c&&nmA (i+1) l
def zfb (s:List UInt8):Bool:=nmA 0 s&&decide (1<=s.length/\s.length<=60)
theorem zni {α:Type} {l t:List α} {x:α} {k:Nat} (h:l.drop k=x::t):∃hk:k<l.length,l[k]=x/\l.drop (k+1)=t:=by
 have hk:k<l.length:=by
  rcases yk k l.length with h'| h'
  ·exact h'
  ·rw [yE h'] at h;cases h
 rw [yy hk] at h
 grind
theorem zpd {α:Type} {l:List α} {k:Nat} (h:l.drop k=[]):l.length<=k:=by have:=congrArg List.length h;simp at this;omega
def zbH (n:Int) (prev:List Fld) (f:Fld):Int:=
 if zfb f.Name=false then 5 else if prev.any (fun g=>g.Name==f.Name)=true then 6
 else if f.Number<1\/f.Number>536870911\/(19000<=f.Number/\f.Number<20000) then 7
 else if prev.any (fun g=>g.Number==f.Number)=true then 8 else if zaQ f.Kind=false then 9
 else if f.Packed=true/\¬(f.Repeated=true/\kNum f.Kind=true) then 10
 else if f.Kind=17/\(f.Of<0\/f.Of>=n)\/f.Kind≠17/\f.Of≠0 then 11 else 0
theorem zwI (n:Int) (prev:List Fld) (f:Fld):0<=zbH n prev f/\zbH n prev f<=11:=by
 unfold zbH;omega
def msgF (n:Int) (prev:List Fld):List Fld->Option (Nat×Int)
 | []=>none
 | f::l=>if 0<zbH n prev f then some (prev.length,zbH n prev f) else msgF n (prev++[f]) l
def chkF (n:Int) (prev:List Mes):List Mes->Option (Nat×Int×Int)
 | []=>none
 | m::l=>if zfb m.Name=false then some (prev.length, -1,2) else if prev.any (fun g=>g.Name==m.Name)=true then some (prev.length, -1,3)
  else if 200<m.Fields.length then some (prev.length, -1,4) else match msgF n [] m.Fields with
   | some (k,w)=>some (prev.length,(k:Int),w)
   | none=>chkF n (prev++[m]) l
def zig (s:List Mes):Int×Int×Int:=if s.length=0\/100<s.length then (-1, -1,1) else match chkF s.length [] s with
 | none=>(0,0,0)
 | some (i,k,w)=>((i:Int),k,w)
def zjj (s:List Mes):Bool:=decide ((zig s).2.2=0)
def WS (s:List Mes):Prop:=s.length<=140737488351232/\∀m∈s,m.Name.length<=140737488351232/\m.Fields.length<=140737488351232/\∀f∈m.Fields,f.Name.length<=140737488351232
theorem zpv :∀(l prev:List Fld),msgF n prev l=none↔∀(k:Nat) (f:Fld),l[k]? =some f->zbH n (prev++l.take k) f=0
 | [],prev=>by simp [msgF]
 | f::l,prev=>by
  have hb:=zwI n prev f;rw [msgF];by_cases h:0<zbH n prev f
  ·rw [xm h];refine ⟨(fun h'=>nomatch h'),fun h'=>?_⟩;have:=h' 0 f rfl;simp at this;omega
  ·rw [xl h,zpv l (prev++[f])];constructor
   ·intro h' k g hg;cases k with
    | zero=>simp at hg;subst hg;simp;omega
    | succ k=>have:=h' k g (by simpa using hg);simpa using this
   ·intro h' k g hg;have:=h' (k+1) g (by simpa using hg);simpa using this
theorem ztR :∀(l prev:List Mes),chkF n prev l=none↔∀(i:Nat) (m:Mes),l[i]? =some m->zfb m.Name=true/\(prev++l.take i).any (fun g=>g.Name==m.Name)=false/\m.Fields.length<=200/\msgF n [] m.Fields=none
 | [],prev=>by simp [chkF]
 | m::l,prev=>by
  rw [chkF];by_cases h1:zfb m.Name=false
  ·rw [xm h1];refine ⟨(fun h'=>nomatch h'),fun h'=>?_⟩;have:=(h' 0 m rfl).1;rw [h1] at this;cases this
  ·rw [xl h1];by_cases h2:prev.any (fun g=>g.Name==m.Name)=true
   ·rw [xm h2];refine ⟨(fun h'=>nomatch h'),fun h'=>?_⟩;have:=(h' 0 m rfl).2.1;simp only [pS,xS] at this;rw [h2] at this;cases this
   ·rw [xl h2];by_cases h3:200<m.Fields.length
    ·rw [xm h3];refine ⟨(fun h'=>nomatch h'),fun h'=>?_⟩;have:=(h' 0 m rfl).2.2.1;omega
    ·rw [xl h3];cases h4:msgF n [] m.Fields with
     | some p=>
      refine ⟨(fun h'=>nomatch h'),fun h'=>?_⟩;have:=(h' 0 m rfl).2.2.2;rw [h4] at this;cases this
     | none=>
      simp only;rw [ztR l (prev++[m])];constructor
      ·intro h' i g hg;cases i with
       | zero=>simp at hg;subst hg;exact ⟨by simpa using h1,by simpa using h2,by omega,h4⟩
       | succ i=>have:=h' i g (by simpa using hg);simpa using this
      ·intro h' i g hg;have:=h' (i+1) g (by simpa using hg);simpa using this
theorem zGe:∀(n:Int) (l prev:List Fld) (k:Nat) (w:Int),msgF n prev l=some (k,w)->0<w:=by
 intro n l
 induction l with
 | nil=>intro prev k w h;cases h
 | cons f l ih=>
  intro prev k w h;rw [msgF] at h
  grind
theorem zAd:∀(n:Int) (l prev:List Mes) (i:Nat) (k w:Int),chkF n prev l=some (i,k,w)->0<w:=by
 intro n l
 induction l with
 | nil=>intro prev i k w h;cases h
 | cons m l ih=>
  intro prev i k w h;rw [chkF] at h;split at h
  ·cases h;omega
  ·split at h
   ·cases h;omega
   ·split at h
    ·cases h;omega
    ·split at h
     ·rename_i k' w' h';cases h;exact zGe _ _ _ _ _ h'
     grind
structure zGN (n:Int) (f:Fld):Prop where
 name:zfb f.Name=true
 lo:1<=f.Number
 hi:f.Number<=536870911
 kind:zaQ f.Kind=true
 packed:f.Packed=true->f.Repeated=true/\kNum f.Kind=true
 sub:f.Kind=17->0<=f.Of/\f.Of<n
 noSub:f.Kind≠17->f.Of=0
theorem zrH (h:zbH n prev f=0):zGN n f/\prev.any (fun g=>g.Name==f.Name)=false/\prev.any (fun g=>g.Number==f.Number)=false:=by
 unfold zbH at h;split at h
 ·omega
 ·rename_i h1;split at h
  ·omega
  ·rename_i h2;split at h
   ·omega
   ·rename_i h3;split at h
    ·omega
    ·rename_i h4;split at h
     ·omega
     ·rename_i h5;split at h
      ·omega
      ·rename_i h6;split at h
       ·omega
       ·rename_i h7;refine ⟨⟨by simpa using h1,by omega,by omega,by simpa using h5,fun hp=>?_,fun hk=>by omega,fun hk=>by omega⟩,by simpa using h2,by simpa using h4⟩
        grind
structure zcI (s:List Mes):Prop where
 len:1<=s.length/\s.length<=100
 name:∀m∈s,zfb m.Name=true
 names:∀(i j:Nat) (a b:Mes),i<j->s[i]? =some a->s[j]? =some b->a.Name≠b.Name
 few:∀m∈s,m.Fields.length<=200
 fld:∀m∈s,∀f∈m.Fields,zGN s.length f
 nums:∀m∈s,∀(i j:Nat) (f g:Fld),i<j->m.Fields[i]? =some f->m.Fields[j]? =some g->f.Number≠g.Number/\f.Name≠g.Name
theorem zCo {s:List Mes} (h:zjj s=true):zcI s:=by
 have h0:(zig s).2.2=0:=by simpa [zjj] using h
 have h1:¬(s.length=0\/100<s.length):=fun hh=>by unfold zig at h0;rw [xm hh] at h0;simp at h0
 have h2:chkF s.length [] s=none:=by
  cases h4:chkF s.length [] s with
  | none=>rfl
  | some p=>
   exfalso;obtain ⟨i,k,w⟩:=p;have h5:(zig s).2.2=w:=by unfold zig;rw [xl h1,h4]
   have:=zAd _ _ _ _ _ _ h4;omega
 have h3:=(ztR s []).1 h2;have at':∀m∈s,zfb m.Name=true/\m.Fields.length<=200/\msgF s.length [] m.Fields=none:=fun m hm=>by
  obtain ⟨i,hi,rfl⟩:=y9 hm;have:=h3 i _ (xI hi)
  grind
 refine ⟨by omega,fun m hm=>(at' m hm).1,fun i j a b hij ha hb=>?_,fun m hm=>(at' m hm).2.1,fun m hm f hf=>?_,fun m hm i j f g hij hf hg=>?_⟩
 ·have:=(h3 j b hb).2.1;have hai:a∈([]++s.take j:List Mes):=by
   rw [xz];exact qu (i:=i) (by rw [yG,xm hij];exact ha)
  grind
 ·have h4:=(zpv m.Fields []).1 (at' m hm).2.2;obtain ⟨i,hi,rfl⟩:=y9 hf;exact (zrH (h4 i _ (xI hi))).1
 ·have h4:=(zpv m.Fields []).1 (at' m hm).2.2;obtain ⟨_,k1,k2⟩:=zrH (h4 j g hg);have hai:f∈([]++m.Fields.take j:List Fld):=by
   rw [xz];exact qu (i:=i) (by rw [yG,xm hij];exact hf)
  grind
theorem zBF {s:List Mes} {i:Nat} {m:Mes} (hi:∃h:i<s.length,s[i]=m) (hb:m.Fields.length<=140737488351232):∀(d k:Nat) (n:Int),k+d=m.Fields.length->∃r,zbQ i s n k=some r:=by
 obtain ⟨hil,hm⟩:=hi;have e1:idx s (i:Int)=some m:=by rw [zao rfl hil,hm]
 intro d
 induction d with
 | zero=>
  intro k n hk;refine ⟨n,zjx ?_⟩;unfold zbh
  grind
 | succ d ih=>
  intro k n hk;obtain ⟨r,hr⟩:=ih (k+1) (i64.wrap (n+(i64.wrap (Int.tdiv (((m.Fields[k]'(by omega)).Name.length:Int)) 100)))) (by omega);refine ⟨r,(zjw (k':=((k+1:Nat):Int)) ?_).trans hr⟩
  grind [zbh,sb,wrap_i64,zao]
theorem zHz {s:List Mes} (hw:WS s):∃b,zdL s=some b:=by
 obtain ⟨hs,hm⟩:=hw;have key:∀(d i:Nat) (n:Int),i+d=s.length->∃r,zbP s n i=some r:=by
  intro d
  induction d with
  | zero=>
   intro i n hi;refine ⟨n,zjv ?_⟩;unfold zbg
   grind
  | succ d ih=>
   intro i n hi;have hil:i<s.length:=by omega
   obtain ⟨q,hq⟩:=zBF (s:=s) (i:=i) (m:=s[i]) ⟨hil,rfl⟩ (hm _ (xD hil)).2.1 (s[i]).Fields.length 0
    (i64.wrap ((i64.wrap ((i64.wrap (n+1))+(i64.wrap (Int.tdiv ((s[i]).Name.length:Int) 100))))+((s[i]).Fields.length:Int))) (by omega)
   have hq':zbQ i s (i64.wrap ((i64.wrap ((i64.wrap (n+1))+(i64.wrap (Int.tdiv ((s[i]).Name.length:Int) 100))))+((s[i]).Fields.length:Int))) 0=some q:=hq;obtain ⟨r,hr⟩:=ih (i+1) q (by omega);refine ⟨r,(zju (i':=((i+1:Nat):Int)) ?_).trans hr⟩
   grind [zbg,sb,wrap_i64,zao]
 obtain ⟨r,hr⟩:=key s.length 0 0 (by omega);have hr':zbP s 0 0=some r:=hr;exact ⟨_,by unfold zdL;rw [hr',sb]⟩
def zeF (m:Mes) (p:Int):Int:=(m.Fields.getD p.toNat ⟨[],0,0,false,false,0⟩).Number
def insS (κ:Int->Int) (i:Int) (out:List Int):List Int:=out.takeWhile (fun x=>decide (κ x<=κ i))++i::out.dropWhile (fun x=>decide (κ x<=κ i))
def zdU (κ:Int->Int):Nat->List Int
 | 0=>[]
 | n+1=>insS κ n (zdU κ n)
theorem zug (κ:Int->Int) (i:Int) (out:List Int):(insS κ i out).Perm (i::out):=by
 unfold insS;refine List.perm_middle.trans ?_;simp_all
theorem zcX :∀{n:Nat} {x:Int},x∈zdU κ n↔0<=x/\x<n
 | 0,x=>by
  simp only [zdU,xE,false_iff];omega
 | n+1,x=>by
  rw [zdU,(zug κ n _).mem_iff,xq,zcX];omega
theorem zuN (κ:Int->Int):∀(n:Nat),(zdU κ n).length=n
 | 0=>rfl
 | n+1=>by rw [zdU,(zug κ n _).length_eq,ya,zuN κ n]
def zdY (κ:Int->Int) (a b:Int):Prop:=κ a<κ b\/κ a=κ b/\a<b
theorem zwg {κ:Int->Int} {c:Int}:∀{l:List Int},∀x∈l.takeWhile (fun x=>decide (κ x<=c)),κ x<=c/\x∈l:=by
 intro l
 induction l with
 | nil=>intro x hx;simp at hx
 | cons y l ih=>
  intro x hx;rw [List.takeWhile_cons] at hx
  grind
theorem zvt :∀{l:List Int},l.Pairwise (zdY κ)->∀x∈l.dropWhile (fun x=>decide (κ x<=c)),c<κ x:=by
 intro l
 induction l with
 | nil=>intro _ x hx;simp at hx
 | cons y l ih=>
  intro hp x hx;rw [List.dropWhile_cons] at hx;have hp':=xQ.1 hp
  grind [zdY]
theorem zkB (κ:Int->Int):∀(n:Nat),(zdU κ n).Pairwise (zdY κ)
 | 0=> .nil
 | n+1=>by
  have ih:=zkB κ n;have hm:∀x∈zdU κ n,x<n:=fun x hx=>(zcX.1 hx).2
  rw [zdU,insS];have hsplit:(zdU κ n).takeWhile (fun x=>decide (κ x<=κ n))++(zdU κ n).dropWhile (fun x=>decide (κ x<=κ n))=zdU κ n:=pt;have hp:((zdU κ n).takeWhile (fun x=>decide (κ x<=κ n))++(zdU κ n).dropWhile (fun x=>decide (κ x<=κ n))).Pairwise (zdY κ):=by rw [hsplit];exact ih
  have ht:=zwg (κ:=κ) (c:=κ n) (l:=zdU κ n);have hd:=zvt (c:=κ n) ih;have htm:∀x∈(zdU κ n).takeWhile (fun x=>decide (κ x<=κ n)),x<n:=fun x hx=>hm x (ht x hx).2
  rw [List.pairwise_append] at hp|-;refine ⟨hp.1,xQ.2 ⟨fun x hx=> .inl (hd x hx),hp.2.1⟩,fun a ha b hb=>?_⟩
  grind [zdY]
theorem zvh {κ:Int->Int} {a b:Int} (h:zdY κ a b) (k:zdY κ b a):False:=by unfold zdY at h k;omega
abbrev Vw:=ztv
def zvw:Vw:=⟨zrec,0,false⟩
def zr (m:Mes) (i:Int):Fld:=m.Fields.getD i.toNat ⟨[],0,0,false,false,0⟩
def vw (m:Mes) (n w:Int):Int⊕(Int×Bool):=
 if fldI m n<0 then .inr (-1,false)
 else if (zr m (fldI m n)).Repeated=true/\kNum (zr m (fldI m n)).Kind=true/\w=2 then .inr (fldI m n,true)
 else if zaQ (zr m (fldI m n)).Kind=false\/zX (zr m (fldI m n)).Kind≠w then .inl 6 else .inr (fldI m n,false)
theorem zcK (m:Mes) (n:Int):fldI m n= -1/\(∀f∈m.Fields,f.Number≠n)\/∃(i:Nat) (h:i<m.Fields.length),fldI m n=i/\m.Fields[i].Number=n/\∀(j:Nat) (h:j<m.Fields.length),j<i->m.Fields[j].Number≠n:=by
 unfold fldI;cases h:m.Fields.findIdx? (fun f:Fld=>f.Number==n) with
 | none=>
  grind [ziO]
 | some i=>
  right;have h':=h;rw [pr] at h
  grind [ziP]
theorem zbw {m:Mes} {i:Nat} (h:i<m.Fields.length):zr m (i:Int)=m.Fields[i]:=by
 unfold zr;rw [xA,ue,xI h];rfl
theorem zdl (m:Mes) (n w:Int):vw m n w= .inl 6\/vw m n w= .inr (-1,false)/\fldI m n= -1\/∃(i:Nat) (run:Bool),vw m n w= .inr ((i:Int),run)/\fldI m n=i/\i<m.Fields.length:=by
 unfold vw
 grind [zcK]
def zee (m:Mes) (b:List UInt8) (at5:Int):Vw×Int:=
 if (zcg b at5).2≠0 then (zvw,(zcg b at5).2) else match vw m (zcg b at5).1.Number (zcg b at5).1.Wire with
  | .inl c=>(zvw,c)
  | .inr (i,run)=>(⟨(zcg b at5).1,i,run⟩,0)
def vws (m:Mes) (e:Option (Nat×Int)):List Rec->List Vw×Option (Int×Int)
 | []=>([],e.map fun p=>((p.1:Int),p.2))
 | r::l=>match vw m r.Number r.Wire with
  | .inl c=>([],some (r.From,c))
  | .inr (i,run)=>(⟨r,i,run⟩::(vws m e l).1,(vws m e l).2)
def vwR (r:List Vw×Option (Int×Int)):List Vw×Int×Int:=match r.2 with
 | none=>(r.1,0,0)
 | some (p,c)=>([],p,c)
def zaD (m:Mes) (b:List UInt8):List Vw×Int×Int:=vwR (vws m (spl 0 b).2 (spl 0 b).1)
def zn (s:List Mes) (i:Int):Mes:=s.getD i.toNat ⟨[],[]⟩
theorem zcf {s:List Mes} {i:Nat} (h:i<s.length):zn s (i:Int)=s[i]:=by
 unfold zn;rw [xA,ue,xI h];rfl
def valB (b:List UInt8) (r:Rec):List UInt8:=(b.drop r.At.toNat).take (r.To.toNat - r.At.toNat)
abbrev zjr:=Option (Int->List UInt8->Option (Int×Int))
def zfq (f:Fld) (run:Bool) (sub:zjr) (r:Rec) (v:List UInt8):Option (Int×Int):=
 if run=true then (if (zkG f.Kind v).2≠0 then some (r.From,(zkG f.Kind v).2) else none)
 else if f.Kind=15/\zgL v=false then some (r.From,7)
 else if f.Kind=17 then (match sub with
  | none=>some (r.From,8)
  | some g=>match g f.Of v with
   | some (p,c)=>some (r.At+p,c)
   | none=>none)
 else none
def zcm (m:Mes) (sub:zjr) (b:List UInt8) (r:Rec):Option (Int×Int):=match vw m r.Number r.Wire with
 | .inl c=>some (r.From,c)
 | .inr (i,run)=>if i<0 then none else zfq (zr m i) run sub r (valB b r)
def zcs (m:Mes) (sub:zjr) (b:List UInt8) (x:List Rec×Option (Nat×Int)):Option (Int×Int):=match x.1.findSome? (zcm m sub b) with
 | some p=>some p
 | none=>x.2.map fun p=>((p.1:Int),p.2)
def zF (s:List Mes):Nat->Int->List UInt8->Option (Int×Int)
 | 0,k,b=>zcs (zn s k) none b (spl 0 b)
 | d+1,k,b=>zcs (zn s k) (some (zF s d)) b (spl 0 b)
def zrm (g:Int->List UInt8->Option (Int×Int)):Prop:=∀k v p c,g k v=some (p,c)->3<=c/\c<=8/\0<=p/\p<v.length
theorem zBE (k:Int) :(zkG k b).2=0\/(zkG k b).2=2/\kNum k=false\/(zkG k b).2=3\/(zkG k b).2=4:=by
 unfold zkG
 grind [zxD]
theorem zwn (h:vw m n w= .inr (i,true)):kNum (zr m i).Kind=true/\(zr m i).Repeated=true/\w=2:=by
 unfold vw at h
 grind
theorem zyn (hr:r.At=((base+a:Nat):Int)) (ht:r.To=((base+t:Nat):Int)) (h:base+t<=b.length) (hat:a<=t):(valB b r).length=t - a:=by
 unfold valB;rw [hr,ht];simp;omega
theorem zuR {m:Mes} {sub:zjr} {b:List UInt8} (hg:∀g,sub=some g->zrm g) {n w:Int} {base a t:Nat} (h1:1<=a) (hat:a<=t) (ht:base+t<=b.length) {p c:Int}
  (h:zcm m sub b ⟨n,w,base,(base+a:Nat),(base+t:Nat)⟩=some (p,c)):3<=c/\c<=8/\0<=p/\p<b.length:=by
 unfold zcm at h;rcases zdl m n w with hv| ⟨hv,_⟩| ⟨i,run,hv,_,hi⟩
 ·grind
 ·grind
 ·simp only [hv] at h;rw [xl (by omega)] at h;unfold zfq at h;split at h
  ·grind [zwn,zBE]
  ·split at h
   ·grind
   ·split at h
    ·cases sub with
     | none=>simp only at h;cases h;(try dsimp only);omega
     | some g=>
      simp only at h;have hl:=zyn (b:=b) (r:=⟨n,w,base,(base+a:Nat),(base+t:Nat)⟩) rfl rfl ht hat;cases hgv:g (zr m i).Of (valB b ⟨n,w,base,(base+a:Nat),(base+t:Nat)⟩) with
      | none=>rw [hgv] at h;cases h
      | some q=>
       obtain ⟨q1,q2⟩:=q;rw [hgv] at h;have:=hg g rfl _ _ _ _ hgv
       grind
    ·cases h
theorem zue {m:Mes} {sub:zjr} {b:List UInt8} (hg:∀g,sub=some g->zrm g) (base:Nat) (l:List UInt8):l=b.drop base->base<=b.length->∀p c,zcs m sub b (spl base l)=some (p,c)->3<=c/\c<=8/\0<=p/\p<b.length:=by
 refine zfp (fun base l=>l=b.drop base->base<=b.length->∀p c,zcs m sub b (spl base l)=some (p,c)->3<=c/\c<=8/\0<=p/\p<b.length) ?_ ?_ ?_ base l
 ·grind [zcs,zcS]
 ·intro base l c' hl h hc hld hb p c h2;have vC:base<b.length:=by subst hld;have:=qU.2 hl;simp at this;omega
  unfold zcs at h2;rw [zeC hl h] at h2
  grind
 ·intro base l n w a t hl h _ g1 g2 g3 ih hld hb p c h2;have hbl:base+t<=b.length:=by subst hld;simp at g3;omega
  unfold zcs at h2 ih;rw [zbO hl h] at h2;simp only [List.findSome?_cons] at h2;cases hs:zcm m sub b ⟨n,w,base,(base+a:Nat),(base+t:Nat)⟩ with
  | some q=>rw [hs] at h2;cases h2;exact zuR hg g1 g2 hbl hs
  | none=>
   simp_all
theorem zik (s:List Mes):∀(d:Nat),zrm (zF s d)
 | 0=>fun k v p c h=>zue (fun g hg=>by cases hg) 0 v rfl (xB _) p c h
 | d+1=>fun k v p c h=>zue (fun g hg=>by cases hg;exact zik s d) 0 v rfl (xB _) p c h
def argS (s:List Mes) (root d:Int):Int:=if zjj s=false then 9 else if root<0\/root>=s.length\/d<0\/d>64 then 2 else 0
def zbj (s:List Mes) (root:Int) (b:List UInt8) (d:Int):Int×Int:=if argS s root d≠0 then (0,argS s root d) else (zF s d.toNat root b).getD (0,0)
theorem zma (h:argS s root d=0):zcI s/\0<=root/\root<s.length/\0<=d/\d<=64:=by
 unfold argS at h
 grind [zCo]
def is11 (s:List Mes) (root:Int) (b:List UInt8) (d:Int):Bool:=(zbj s root b d).2==0
theorem zbx :zcs m sub b x=none↔(∀r∈x.1,zcm m sub b r=none)/\x.2=none:=by
 unfold zcs;cases h:x.1.findSome? (zcm m sub b) with
 | some p=>
  grind
 | none=>
  rw [List.findSome?_eq_none_iff] at h;cases hx:x.2 with
  | none=>exact ⟨fun _=>⟨h,rfl⟩,fun _=>rfl⟩
  | some p=>exact ⟨(fun h'=>nomatch h'),fun ⟨_,h2⟩=>nomatch h2⟩
theorem zqu (z:List UInt8) (h0:0<=r.To) (h:r.To<=b.length):valB (b++z) r=valB b r:=by
 unfold valB;by_cases ha:r.At.toNat<=b.length
 ·grind
 ·have e:r.To.toNat - r.At.toNat=0:=by omega
  grind
theorem znC (a b:List UInt8) (h0:0<=r.At) (h1:r.At<=r.To):valB (a++b) (ziB a.length r)=valB b r:=by
 unfold valB ziB;simp only;have e1:(r.At+(a.length:Int)).toNat=a.length+r.At.toNat:=by omega
 have e2:(r.To+(a.length:Int)).toNat - (a.length+r.At.toNat)=r.To.toNat - r.At.toNat:=by omega
 simp_all
theorem zoH (hn:r'.Number=r.Number) (hw:r'.Wire=r.Wire) (hv:valB b' r'=valB b r):zcm m sub b' r'=none↔zcm m sub b r=none:=by
 unfold zcm;rw [hn,hw,hv];cases vw m r.Number r.Wire with
 | inl c=>simp
 | inr p=>
  simp only;by_cases hi:p.1<0
  ·simp [hi]
  ·rw [xl hi,xl hi];unfold zfq
   grind
theorem zpH (base:Nat) (l:List UInt8):∀r∈(spl base l).1,(base:Int)<=r.From/\r.From<r.At/\r.At<=r.To/\r.To<=base+l.length:=by
 refine zfp (fun base l=>∀r∈(spl base l).1,(base:Int)<=r.From/\r.From<r.At/\r.At<=r.To/\r.To<=base+l.length) ?_ ?_ ?_ base l
 ·intro base r hr;rw [zcS] at hr;cases hr
 ·intro base l c hl h _ r hr;rw [zeC hl h] at hr;cases hr
 ·intro base l n w a t hl h _ g1 g2 g3 ih r hr;rw [zbO hl h] at hr
  grind
theorem zpZ (z:List UInt8) (h:zcs m sub a (spl 0 a)=none):zcs m sub (a++z) (spl 0 (a++z))=none↔zcs m sub z (spl 0 z)=none:=by
 rw [zbx] at h;have hap:=zsY z 0 a h.2;have hsh:=zuO a.length 0 z;rw [xJ] at hap hsh;rw [hsh] at hap;rw [zbx,zbx,hap];simp only [xw,xu];constructor
 ·rintro ⟨h1,h2⟩;refine ⟨fun r hr=>?_,by cases hz:(spl 0 z).2 with| none=>rfl| some p=>rw [hz] at h2;cases h2⟩;have hb:=zpH 0 z r hr;have:=h1 (ziB a.length r) (.inr ⟨r,hr,rfl⟩);exact (zoH (r:=r) (r':=ziB a.length r) rfl rfl (znC a z (by omega) (by omega))).1 this
 ·rintro ⟨h1,h2⟩;refine ⟨fun r hr=>?_,by rw [h2];rfl⟩;rcases hr with hr| ⟨r,hr,rfl⟩
  ·have hb:=zpH 0 a r hr
   grind [zoH,zqu]
  ·have hb:=zpH 0 z r hr;exact (zoH (r:=r) (r':=ziB a.length r) rfl rfl (znC a z (by omega) (by omega))).2 (h1 r hr)
theorem zdx (s:List Mes) (d:Nat) (k:Int) (z:List UInt8) (h:zF s d k a=none):zF s d k (a++z)=none↔zF s d k z=none:=by
 cases d with
 | zero=>exact zpZ z h
 | succ d=>exact zpZ z h
theorem zrV :is11 s root b d=true↔argS s root d=0/\zF s d.toNat root b=none:=by
 unfold is11 zbj;by_cases h:argS s root d=0
 ·rw [xl (by simpa using h)];cases hf:zF s d.toNat root b with
  | none=>simp [h]
  | some p=>
   obtain ⟨p,c⟩:=p;have:=zik s d.toNat root b p c hf
   grind
 grind
abbrev Msg:=zj
abbrev Vlu:=zi
mutual
def szM:Msg->Nat
 | ⟨vs,_⟩=>1+szVs vs
def szVs:List Vlu->Nat
 | []=>0
 | v::l=>szV v+szVs l
def szV:Vlu->Nat
 | ⟨_,_,_,s⟩=>1+szMs s
def szMs:List Msg->Nat
 | []=>0
 | x::l=>szM x+szMs l
end
theorem zbs (x:Msg):szM x=1+szVs x.Values:=by cases x;rw [szM]
theorem zdP (v:Vlu):szV v=1+szMs v.Subs:=by cases v;rw [szV]
theorem zdh :∀{l:List Vlu},v∈l->szV v<=szVs l
 | [],h=>by cases h
 | u::l,h=>by
  rw [szVs];rcases xq.1 h with rfl| h
  ·omega
  ·have:=zdh h;omega
theorem zdg :∀{l:List Msg},x∈l->szM x<=szMs l
 | [],h=>by cases h
 | u::l,h=>by
  rw [szMs];rcases xq.1 h with rfl| h
  ·omega
  ·have:=zdg h;omega
mutual
/-- Within the reach of what a law is handed. -/
def bdM:Msg->Prop
 | ⟨vs,u⟩=>vs.length*80<=140737488351232/\(u.length*16<=140737488351232/\∀t∈u,t.length<=140737488351232)/\bdVs vs
def bdVs:List Vlu->Prop
 | []=>True
 | v::l=>bdV v/\bdVs l
def bdV:Vlu->Prop
 | ⟨n,w,t,s⟩=>(Lit.int .i64 n).wf=true/\(w.length*8<=140737488351232/\∀x∈w,0<=x/\x<=18446744073709551615)/\(t.length*16<=140737488351232/\∀x∈t,x.length<=140737488351232)/\s.length*48<=140737488351232/\bdMs s
def bdMs:List Msg->Prop
 | []=>True
 | x::l=>bdM x/\bdMs l
end
theorem zif (x:Msg):bdM x↔x.Values.length*80<=140737488351232/\(x.Unknown.length*16<=140737488351232/\∀t∈x.Unknown,t.length<=140737488351232)/\bdVs x.Values:=by cases x;simp only [bdM]
theorem zfQ (v:Vlu):bdV v↔(Lit.int .i64 v.Number).wf=true/\(v.Words.length*8<=140737488351232/\∀x∈v.Words,0<=x/\x<=18446744073709551615)/\(v.Texts.length*16<=140737488351232/\∀x∈v.Texts,x.length<=140737488351232)/\v.Subs.length*48<=140737488351232/\bdMs v.Subs:=by cases v;simp only [bdV]
theorem zdu:∀{l:List Vlu},bdVs l↔∀v∈l,bdV v
 | []=>by simp [bdVs]
 | v::l=>by rw [bdVs,zdu (l:=l)];simp
theorem zdJ:∀{l:List Msg},bdMs l↔∀v∈l,bdM v
 | []=>by simp [bdMs]
 | v::l=>by rw [bdMs,zdJ (l:=l)];simp
section
open Classical
end
def zaq (v:Vlu):Nat:=v.Words.length+v.Texts.length+v.Subs.length
mutual
def dM:Msg->Nat
 | ⟨vs,_⟩=>dVs vs
def dVs:List Vlu->Nat
 | []=>0
 | v::l=>max (dV v) (dVs l)
def dV:Vlu->Nat
 | ⟨_,_,_,s⟩=>dMs s
def dMs:List Msg->Nat
 | []=>0
 | x::l=>max (1+dM x) (dMs l)
end
theorem zAh (x:Msg):dM x=dVs x.Values:=by cases x;rw [dM]
theorem zwG (v:Vlu):dV v=dMs v.Subs:=by cases v;rw [dV]
theorem zqP :∀{l:List Vlu},v∈l->dV v<=dVs l
 | [],h=>by cases h
 | u::l,h=>by
  rw [dVs];rcases xq.1 h with rfl| h
  ·omega
  ·have:=zqP h;omega
theorem zvs :∀{l:List Msg},x∈l->1+dM x<=dMs l
 | [],h=>by cases h
 | u::l,h=>by
  rw [dMs];rcases xq.1 h with rfl| h
  ·omega
  ·have:=zvs h;omega
structure Th where
 fi:Int
 run:Bool
 val:List UInt8
 raw:List UInt8
def rawB (b:List UInt8) (r:Rec):List UInt8:=(b.drop r.From.toNat).take (r.To.toNat - r.From.toNat)
def thOf (b:List UInt8) (t:Vw):Th:=⟨t.Field,t.Run,valB b t.R,rawB b t.R⟩
def ths (m:Mes) (b:List UInt8):List Th:=(zaD m b).1.map (thOf b)
def wt:List Th->Nat
 | []=>0
 | t::l=>t.val.length+1+wt l
theorem zFj:∀(l:List Th),l.length<=wt l
 | []=>by simp [wt]
 | t::l=>by have:=zFj l;simp only [ya,wt];omega
theorem znG :∀{l:List Th},t∈l->t.val.length+1<=wt l
 | [],h=>by cases h
 | u::l,h=>by
  rw [wt];rcases xq.1 h with rfl| h
  ·omega
  ·have:=znG h;omega
theorem zBt :∀{l:List Rec} {t:Vw},t∈(vws m e l).1->t.R∈l
 | [],t,h=>by simp [vws] at h
 | r::l,t,h=>by
  rw [vws] at h;cases hv:vw m r.Number r.Wire with
  | inl c=>rw [hv] at h;simp at h
  | inr p=>
   rw [hv] at h;rcases xq.1 h with rfl| h
   ·grind
   ·exact xo _ (zBt h)
theorem zBz (h:t∈(zaD m b).1):t.R∈(spl 0 b).1:=by
 unfold zaD vwR at h;split at h
 ·exact zBt h
 ·simp at h
theorem zCQ (h:t∈(zaD m b).1):0<=t.R.From/\t.R.From<t.R.At/\t.R.At<=t.R.To/\t.R.To<=b.length:=by
 have:=zpH 0 b _ (zBz h);simpa using this
theorem zIA (b:List UInt8):∀(base:Nat) (l:List UInt8),l=b.drop base->base<=b.length->wt ((vws m e (spl base l).1).1.map (thOf b))<=l.length:=by
 intro base l;refine zfp (fun base l=>l=b.drop base->base<=b.length->wt ((vws m e (spl base l).1).1.map (thOf b))<=l.length) ?_ ?_ ?_ base l
 ·intro base _ _;rw [zcS];simp [vws,wt]
 ·intro base l c hl h _ _ _;rw [zeC hl h];simp [vws,wt]
 ·intro base l n w a t hl h _ g1 g2 g3 ih hld hbase;have vF:l.length=b.length - base:=by rw [hld];simp
  have ih':=ih (by rw [hld,ym]) (by omega);rw [zbO hl h,vws];cases hv:vw m n w with
  | inl c=>simp [wt]
  | inr p=>
   simp only [xG,wt,thOf,xT] at ih'|-;rw [zyn (b:=b) (base:=base) (a:=a) (t:=t) rfl rfl (by omega) g2];omega
theorem zlQ (m:Mes) (b:List UInt8):wt (ths m b)<=b.length:=by
 unfold ths zaD vwR;split
 ·exact zIA b 0 b rfl (xB _)
 ·simp [wt]
abbrev zbm:=List UInt8×Bool×List Int×List Str×List Msg
def stp (g:Int->List UInt8->Msg) (f:Fld) (a:zbm) (t:Th):zbm:=
 if t.run=true then (a.1,true,(if f.Repeated=true then a.2.2.1 else [])++(zZ f.Kind t.val).1,(if f.Repeated=true then a.2.2.2.1 else []),a.2.2.2.2)
 else if kNum f.Kind=true then (a.1,true,(if f.Repeated=true then a.2.2.1 else [])++[(zjQ f.Kind t.val).1],(if f.Repeated=true then a.2.2.2.1 else []),a.2.2.2.2)
 else if f.Kind=17/\f.Repeated=true then (a.1,true,(if f.Repeated=true then a.2.2.1 else []),(if f.Repeated=true then a.2.2.2.1 else []),a.2.2.2.2++[g f.Of t.val])
 else if f.Kind=17 then (a.1++t.val,true,(if f.Repeated=true then a.2.2.1 else []),(if f.Repeated=true then a.2.2.2.1 else []),a.2.2.2.2)
 else (a.1,true,(if f.Repeated=true then a.2.2.1 else []),(if f.Repeated=true then a.2.2.2.1 else [])++[t.val],a.2.2.2.2)
def accF (g:Int->List UInt8->Msg) (f:Fld) (i:Int):zbm->List Th->zbm
 | a,[]=>a
 | a,t::l=>accF g f i (if t.fi=i then stp g f a t else a) l
theorem ziK (g:Int->List UInt8->Msg) (f:Fld) (i:Int):∀(a:zbm) (l m:List Th),accF g f i a (l++m)=accF g f i (accF g f i a l) m
 | a,[],m=>rfl
 | a,t::l,m=>by simp only [yc,accF];exact ziK g f i _ l m
def wA (a:zbm):Nat:=a.1.length+a.2.2.1.length+a.2.2.2.1.length+a.2.2.2.2.length
def wJ (a:zbm):Nat:=a.1.length+(if a.2.1=true then 1 else 0)
theorem zuX (k:Int) (v:List UInt8):(zZ k v).1.length<=v.length:=by
 unfold zZ;have:=zvS k v
 grind
theorem zIm (g:Int->List UInt8->Msg) (f:Fld) (a:zbm) (t:Th):wA (stp g f a t)<=wA a+t.val.length+1/\wJ (stp g f a t)<=wJ a+t.val.length+1:=by
 have h1:(if f.Repeated=true then a.2.2.1 else []).length<=a.2.2.1.length:=by split<;>simp
 have h2:(if f.Repeated=true then a.2.2.2.1 else []).length<=a.2.2.2.1.length:=by split<;>simp
 have h3:=zuX f.Kind t.val;unfold stp wA wJ
 grind
theorem zne (g:Int->List UInt8->Msg) (f:Fld) (i:Int):∀(a:zbm) (l:List Th),wA (accF g f i a l)<=wA a+wt l/\wJ (accF g f i a l)<=wJ a+wt l
 | a,[]=>by simp [accF,wt]
 | a,t::l=>by
  have h:=zne g f i (if t.fi=i then stp g f a t else a) l;have h2:=zIm g f a t;rw [accF,wt];split at h
  ·rename_i ht;rw [xm ht];omega
  ·rename_i ht;rw [xl ht];omega
def acc0:zbm:=([],false,[],[],[])
def valO (g:Int->List UInt8->Msg) (f:Fld) (q:zbm):Vlu:=⟨f.Number,q.2.2.1,q.2.2.2.1,if q.2.1=true/\f.Kind=17/\f.Repeated=false then [g f.Of q.1] else q.2.2.2.2⟩
def zmY (g:Int->List UInt8->Msg) (m:Mes) (l:List Th) (o:List Int):List Vlu:=(o.map fun i=>valO g (zr m i) (accF g (zr m i) i acc0 l)).filter fun v=>decide (0<zaq v)
def unkO (l:List Th):List Str:=(l.filter fun t=>decide (t.fi<0)).map (·.raw)
def zbY (g:Int->List UInt8->Msg) (m:Mes) (l:List Th):Msg:=⟨zmY g m l (zdU (zeF m) m.Fields.length),unkO l⟩
def ofN (s:List Mes):Nat->Int->List UInt8->Msg
 | 0,_,_=>⟨[],[]⟩
 | n+1,k,b=>zbY (ofN s n) (zn s k) (ths (zn s k) b)
theorem zCv (a:zbm) (h:f.Kind=17->g f.Of t.val=g' f.Of t.val):stp g f a t=stp g' f a t:=by
 unfold stp
 grind
theorem zrq (i:Int):∀(a:zbm) {l:List Th},(f.Kind=17->∀v:List UInt8,v.length+1<=wt l->g f.Of v=g' f.Of v)->accF g f i a l=accF g' f i a l
 | a,[],h=>rfl
 | a,t::l,h=>by
  rw [accF,accF,zCv a (fun vD=>h vD t.val (by rw [wt];omega))];exact zrq i _ (fun vD v hv=>h vD v (by rw [wt];omega))
theorem zzQ (i:Int) (h:f.Kind=17->∀v:List UInt8,v.length+1<=wt l->g f.Of v=g' f.Of v):valO g f (accF g f i acc0 l)=valO g' f (accF g' f i acc0 l):=by
 rw [zrq i acc0 h];have hw:=(zne g' f i acc0 l).2;unfold valO;by_cases hc:(accF g' f i acc0 l).2.1=true/\f.Kind=17/\f.Repeated=false
 ·rw [xm hc,xm hc,h hc.2.1 _ (by
   have h0:wJ acc0=0:=rfl;rw [h0,wJ,xm hc.1] at hw;omega)]
 grind
theorem zqf (h:∀k:Int,∀v:List UInt8,v.length+1<=wt l->g k v=g' k v):zbY g m l=zbY g' m l:=by
 unfold zbY zmY;congr 2;exact yT fun i _=>zzQ i (fun _ v hv=>h _ v hv)
theorem zst (s:List Mes):∀(n n':Nat) (k:Int) (b:List UInt8),b.length<n->b.length<n'->ofN s n k b=ofN s n' k b
 | 0,n',k,b,h,_=>by omega
 | n+1,0,k,b,_,h=>by omega
 | n+1,n'+1,k,b,h,h'=>by
  rw [ofN,ofN];have hw:=zlQ (zn s k) b;exact zqf fun k v hv=>zst s n n' k v (by omega) (by omega)
def ofM (s:List Mes) (k:Int) (b:List UInt8):Msg:=ofN s (b.length+1) k b
theorem zgH (s:List Mes) (k:Int) (b:List UInt8):ofM s k b=zbY (ofM s) (zn s k) (ths (zn s k) b):=by
 have hw:=zlQ (zn s k) b;unfold ofM;rw [ofN];exact zqf fun k v hv=>zst s _ _ _ _ (by omega) (Nat.lt_succ_self _)
mutual
/-- How much a meaning is, all together. -/
def wgM:Msg->Nat
 | ⟨vs,u⟩=>1+(u.map fun t=>1+t.length).sum+wgVs vs
def wgVs:List Vlu->Nat
 | []=>0
 | v::l=>wgV v+wgVs l
def wgV:Vlu->Nat
 | ⟨_,w,t,s⟩=>1+w.length+(t.map fun t=>1+t.length).sum+wgMs s
def wgMs:List Msg->Nat
 | []=>0
 | x::l=>wgM x+wgMs l
end
theorem ziH (x:Msg):wgM x=1+(x.Unknown.map fun t=>1+t.length).sum+wgVs x.Values:=by cases x;rw [wgM]
theorem zgS (v:Vlu):wgV v=1+v.Words.length+(v.Texts.map fun t=>1+t.length).sum+wgMs v.Subs:=by cases v;rw [wgV]
theorem zoU :∀{l:List Vlu},v∈l->wgV v<=wgVs l
 | [],h=>by cases h
 | u::l,h=>by
  rw [wgVs];rcases xq.1 h with rfl| h
  ·omega
  ·have:=zoU h;omega
theorem ziI :∀{l:List Msg},x∈l->wgM x<=wgMs l
 | [],h=>by cases h
 | u::l,h=>by
  rw [wgMs];rcases xq.1 h with rfl| h
  ·omega
  ·have:=ziI h;omega
theorem zoI :∀{l:List Str},t∈l->1+t.length<=(l.map fun t=>1+t.length).sum
 | [],h=>by cases h
 | u::l,h=>by
  rw [xG,qq];rcases xq.1 h with rfl| h
  ·omega
  ·have:=zoI h;omega
theorem zwe:∀{l:List Str},l.length<=(l.map fun t=>1+t.length).sum
 | []=>by simp
 | u::l=>by
  rw [xG,qq,ya];have:=zwe (l:=l);omega
theorem zyt:∀(l:List Vlu),l.length<=wgVs l
 | []=>by simp [wgVs]
 | u::l=>by rw [wgVs,ya,zgS];have:=zyt l;omega
theorem zys:∀(l:List Msg),l.length<=wgMs l
 | []=>by simp [wgMs]
 | u::l=>by rw [wgMs,ya,ziH];have:=zys l;omega
def unkR (m:Mes) (u:Str):Bool:=(zcg u 0).2==0&&(zcg u 0).1.To==(u.length:Int)&&decide (fldI m (zcg u 0).1.Number<0)
def zgo (f:Fld) (w:Int):Bool:=kNum f.Kind&&zaM f.Kind w==w
def zhI (f:Fld) (t:Str):Bool:=f.Kind==16|| (f.Kind==15&&zgL t)
def zmR (f:Fld) (v:Vlu):Bool:=decide (0<zaq v)&&(decide (zaq v<=1)|| f.Repeated)&&zaQ f.Kind
mutual
def zap (s:List Mes):Msg->Int->Bool
 | ⟨vs,u⟩,k=>decide (0<=k/\k<s.length)&&zdB s vs (zn s k) none&&u.all (unkR (zn s k))
def zdB (s:List Mes):List Vlu->Mes->Option Int->Bool
 | [],_,_=>true
 | v::l,m,p=>decide (0<=fldI m v.Number)&&p.all (fun n=>decide (n<v.Number))&&zhf s v (zr m (fldI m v.Number))&&zdB s l m (some v.Number)
def zhf (s:List Mes):Vlu->Fld->Bool
 | ⟨n,w,t,sub⟩,f=>zmR f ⟨n,w,t,sub⟩&&w.all (zgo f)&&t.all (zhI f)&&zms s sub f
def zms (s:List Mes):List Msg->Fld->Bool
 | [],_=>true
 | x::l,f=>(f.Kind==17&&zap s x f.Of)&&zms s l f
end
theorem zhW (s:List Mes) (x:Msg) (k:Int):zap s x k=(decide (0<=k/\k<s.length)&&zdB s x.Values (zn s k) none&&x.Unknown.all (unkR (zn s k))):=by cases x;rw [zap]
theorem znU (s:List Mes) (v:Vlu) (f:Fld):zhf s v f=(zmR f v&&v.Words.all (zgo f)&&v.Texts.all (zhI f)&&zms s v.Subs f):=by cases v;rw [zhf]
theorem zix (s:List Mes) (f:Fld):∀(l:List Msg),zms s l f=l.all fun x=>f.Kind==17&&zap s x f.Of
 | []=>by rw [zms];rfl
 | x::l=>by rw [zms,zix s f l];rfl
mutual
/-- No list is long. -/
def smM:Msg->Prop
 | ⟨vs,u⟩=>vs.length<=1048576/\(u.length<=1048576/\∀t∈u,t.length<=1048576)/\smVs vs
def smVs:List Vlu->Prop
 | []=>True
 | v::l=>smV v/\smVs l
def smV:Vlu->Prop
 | ⟨n,w,t,s⟩=>w.length<=1048576/\(t.length<=1048576/\∀x∈t,x.length<=1048576)/\s.length<=1048576/\smMs s
def smMs:List Msg->Prop
 | []=>True
 | x::l=>smM x/\smMs l
end
theorem zsW (x:Msg):smM x↔x.Values.length<=1048576/\(x.Unknown.length<=1048576/\∀t∈x.Unknown,t.length<=1048576)/\smVs x.Values:=by cases x;simp only [smM]
theorem zsX (v:Vlu):smV v↔v.Words.length<=1048576/\(v.Texts.length<=1048576/\∀x∈v.Texts,x.length<=1048576)/\v.Subs.length<=1048576/\smMs v.Subs:=by cases v;simp only [smV]
theorem zjU:∀{l:List Vlu},smVs l↔∀v∈l,smV v
 | []=>by simp [smVs]
 | v::l=>by rw [smVs,zjU (l:=l)];simp
theorem zjT:∀{l:List Msg},smMs l↔∀v∈l,smM v
 | []=>by simp [smMs]
 | v::l=>by rw [smMs,zjT (l:=l)];simp
def zxZ (s:List Mes):Nat->zjr
 | 0=>none
 | e+1=>some (zF s e)
theorem zdD (s:List Mes) (d:Nat) (k:Int) (b:List UInt8):zF s d k b=zcs (zn s k) (zxZ s d) b (spl 0 b):=by cases d<;>rfl
theorem zlc (s:List Mes) (d:Nat) (k:Int):zF s d k []=none:=by rw [zdD,zcS];rfl
def vwG (m:Mes) (r:Rec):Int×Bool:=match vw m r.Number r.Wire with
 | .inl _=>(-1,false)
 | .inr p=>p
def thR (m:Mes) (b:List UInt8) (r:Rec):Th:=⟨(vwG m r).1,(vwG m r).2,valB b r,rawB b r⟩
theorem zzT :∀{l:List Rec},(∀r∈l,∃p,vw m r.Number r.Wire= .inr p)->vws m none l=(l.map fun r=>⟨r,(vwG m r).1,(vwG m r).2⟩,none)
 | [],_=>rfl
 | r::l,h=>by
  obtain ⟨p,hp⟩:=h r xn;rw [vws,hp,zzT fun x hx=>h x (xo _ hx)];simp only [xG,vwG,hp]
theorem zwb (h:zcm m sub b r=none):∃p,vw m r.Number r.Wire= .inr p:=by
 unfold zcm at h;cases hv:vw m r.Number r.Wire with
 | inl c=>rw [hv] at h;cases h
 | inr p=>exact ⟨p,rfl⟩
theorem zjk (h:zF s d k b=none):ths (zn s k) b=(spl 0 b).1.map (thR (zn s k) b):=by
 rw [zdD,zbx] at h;unfold ths zaD;rw [h.2,zzT fun r hr=>zwb (h.1 r hr)];unfold vwR;simp only [yK];rfl
theorem zxM {b:List UInt8} (z:List UInt8) {r:Rec} (h0:0<=r.To) (h:r.To<=b.length):rawB (b++z) r=rawB b r:=by
 unfold rawB;by_cases ha:r.From.toNat<=b.length
 ·grind
 ·have e:r.To.toNat - r.From.toNat=0:=by omega
  grind
theorem zzy (a b:List UInt8) {r:Rec} (h0:0<=r.From) (h1:r.From<=r.To):rawB (a++b) (ziB a.length r)=rawB b r:=by
 unfold rawB ziB;simp only;have e1:(r.From+(a.length:Int)).toNat=a.length+r.From.toNat:=by omega
 have e2:(r.To+(a.length:Int)).toNat - (a.length+r.From.toNat)=r.To.toNat - r.From.toNat:=by omega
 simp_all
theorem ztd {s:List Mes} {d:Nat} {k:Int} {a z:List UInt8} (ha:zF s d k a=none) (hz:zF s d k z=none):ths (zn s k) (a++z)=ths (zn s k) a++ths (zn s k) z:=by
 rw [zjk ((zdx s d k z ha).2 hz),zjk ha,zjk hz];rw [zdD,zbx] at ha;have hap:=zsY z 0 a ha.2;have hsh:=zuO a.length 0 z;rw [xJ] at hap hsh;rw [hap,hsh];simp only [ql,yK];congr 1
 ·refine yT fun r hr=>?_
  have:=zpH 0 a r hr;unfold thR;rw [zqu z (by omega) (by omega),zxM z (by omega) (by omega)]
 ·refine yT fun r hr=>?_
  have:=zpH 0 z r hr;show thR _ _ (ziB a.length r)=_;unfold thR;rw [znC a z (by omega) (by omega),zzy a z (by omega) (by omega)];rfl
structure OkT (s:List Mes) (d:Nat) (m:Mes) (t:Th):Prop where
 fi:t.fi= -1\/0<=t.fi/\t.fi<m.Fields.length
 unk:t.fi<0->unkR m t.raw=true
 run:0<=t.fi->t.run=true->kNum (zr m t.fi).Kind=true/\(zr m t.fi).Repeated=true/\(zkG (zr m t.fi).Kind t.val).2=0
 one:0<=t.fi->t.run=false->zaQ (zr m t.fi).Kind=true/\zaW (zX (zr m t.fi).Kind) t.val=true/\((zr m t.fi).Kind=15->zgL t.val=true)/\((zr m t.fi).Kind=17->∃e,d=e+1/\zF s e (zr m t.fi).Of t.val=none)
theorem zye (h:zF s d k b=none):∀t∈ths (zn s k) b,OkT s d (zn s k) t:=by
 intro t ht;rw [zjk h] at ht;obtain ⟨r,hr,rfl⟩:=xu.1 ht;obtain ⟨n,w,f,a,u,hre,hrec,h1,h2,h3⟩:=zBh b 0 b rfl (xB _) r hr;rw [zdD,zbx] at h;have hs:=h.1 r hr
 generalize zn s k=m at hs|-
 have hraw:rawB b r=(b.drop f).take u:=by
  unfold rawB;rw [hre];simp only [xA]
  grind
 have hval:valB b r=((b.drop f).drop a).take (u - a):=by
  unfold valB;rw [hre];simp only [xA];rw [ym,show f+u - (f+a)=u - a by omega]
 have hfit:=(zsL hrec).1;have hn:r.Number=n:=by rw [hre]
 have hw:r.Wire=w:=by rw [hre]
 have hrl:((b.drop f).take u).length=u:=by simp;omega
 have hnx:zcg ((b.drop f).take u) 0=(⟨n,w,0,0+(a:Int),0+(u:Int)⟩,0):=by
  unfold zcg;rw [xl (by rw [hrl];omega)];simp only [Int.toNat_zero,yq,zpD hrec]
 unfold zcm at hs;rcases zdl m r.Number r.Wire with hv| ⟨hv,hf⟩| ⟨i,run,hv,hfi,hi⟩
 ·grind
 ·have e:vwG m r=(-1,false):=by unfold vwG;rw [hv]
  refine ⟨.inl (by simp only [thR,e]),fun _=>?_,fun hh=>by simp only [thR,e] at hh;omega,fun hh=>by simp only [thR,e] at hh;omega⟩;simp only [thR,hraw];unfold unkR
  grind
 ·have e:vwG m r=((i:Int),run):=by unfold vwG;rw [hv]
  rw [hv] at hs;simp only at hs;rw [xl (by omega)] at hs;refine ⟨.inr (by simp only [thR,e];omega),fun hh=>by simp only [thR,e] at hh;omega,fun _ hrn=>?_,fun _ hrn=>?_⟩
  ·simp only [thR,e] at hrn|-;subst hrn;obtain ⟨v1,v2,_⟩:=zwn hv;refine ⟨v1,v2,?_⟩;unfold zfq at hs
   grind
  ·simp only [thR,e] at hrn|-;subst hrn;have hk:zaQ (zr m i).Kind=true/\zX (zr m i).Kind=r.Wire:=by
    unfold vw at hv
    grind
   refine ⟨hk.1,by rw [hk.2,hw,hval];exact hfit,fun h15=>?_,fun vD=>?_⟩
   ·unfold zfq at hs
    grind
   ·unfold zfq at hs;rw [xl (by simp),xl (by omega),xm vD] at hs;cases d with
    | zero=>simp only [zxZ] at hs;cases hs
    | succ e=>
     simp only [zxZ] at hs;refine ⟨e,rfl,?_⟩;cases hg:zF s e (zr m i).Of (valB b r) with
     | none=>rfl
     | some q=>rw [hg] at hs;cases hs
structure zrk (s:List Mes) (d:Nat) (f:Fld) (a:zbm):Prop where
 words:∀w∈a.2.2.1,zgo f w=true
 texts:∀t∈a.2.2.2.1,zhI f t=true
 numT:kNum f.Kind=true->a.2.2.2.1=[]
 subs:∀x∈a.2.2.2.2,f.Kind=17/\zap s x f.Of=true/\1+dM x<=d
 join:f.Kind=17->∀e,d=e+1->zF s e f.Of a.1=none
 met:a.2.1=true->f.Kind=17->∃e,d=e+1
 one:f.Repeated=false->a.2.2.1.length<=1/\a.2.2.2.1.length<=1/\a.2.2.2.2=[]
theorem zeU {k:Int} (h:kNum k=true):k≠17/\k≠15/\k≠16:=by rw [zdc] at h;omega
theorem zyy {f:Fld} (hk:kNum f.Kind=true) (v:List UInt8):∀w∈(zZ f.Kind v).1,zgo f w=true:=by
 intro w hw;unfold zZ at hw;rw [xl (by rw [hk];simp)] at hw;split at hw
 ·obtain ⟨p,_,rfl⟩:=xu.1 hw;unfold zgo zcT;rw [hk,ziL _ (zkx _)];simp
 ·cases hw
theorem zxV {f:Fld} (hk:kNum f.Kind=true) {v:List UInt8} (hf:zaW (zX f.Kind) v=true):zgo f (zjQ f.Kind v).1=true:=by
 rw [zhq hk hf];unfold zgo zcT;rw [hk,ziL _ (zkx _)];simp
theorem zvb (s:List Mes) (d:Nat) (f:Fld):zrk s d f acc0 where
 words:=fun w hw=>nomatch hw
 texts:=fun w hw=>nomatch hw
 numT:=fun _=>rfl
 subs:=fun w hw=>nomatch hw
 join:=fun _ e _=>zlc s e _
 met:=fun h=>nomatch h
 one:=fun _=>⟨xB _,xB _,rfl⟩
theorem zIl {s:List Mes} {d:Nat} {m:Mes} {f:Fld} {g:Int->List UInt8->Msg} {a:zbm} {t:Th} (ha:zrk s d f a) (ht:OkT s d m t) (hi:0<=t.fi) (hf:zr m t.fi=f)
  (hg:f.Kind=17->∀e,d=e+1->zF s e f.Of t.val=none->zap s (g f.Of t.val) f.Of=true/\dM (g f.Of t.val)<=e):zrk s d f (stp g f a t):=by
 obtain ⟨h1,h2,hnt,h3,h4,h5,h6⟩:=ha;have vL:=ht.run hi;have hone:=ht.one hi;rw [hf] at vL hone;have w0:∀w∈(if f.Repeated=true then a.2.2.1 else []),zgo f w=true:=fun w hw=>by
  grind
 have t0:∀w∈(if f.Repeated=true then a.2.2.2.1 else []),zhI f w=true:=fun w hw=>by
  grind
 have tn:kNum f.Kind=true->(if f.Repeated=true then a.2.2.2.1 else [])=[]:=fun hk=>by
  grind
 have wl:f.Repeated=false->(if f.Repeated=true then a.2.2.1 else [])=[]:=fun h=>by rw [h];rfl
 have tl:f.Repeated=false->(if f.Repeated=true then a.2.2.2.1 else [])=[]:=fun h=>by rw [h];rfl
 unfold stp;by_cases hr:t.run=true
 ·obtain ⟨r1,r2,r3⟩:=vL hr;rw [xm hr];refine ⟨fun w hw=>?_,t0,tn,h3,h4,fun _ hk=>absurd hk (zeU r1).1,fun hh=>by rw [r2] at hh;cases hh⟩;rcases xw.1 hw with hw| hw
  ·exact w0 w hw
  ·exact zyy r1 _ w hw
 ·have hr':t.run=false:=by simpa using hr
  obtain ⟨o1,o2,o3,o4⟩:=hone hr';rw [xl hr];by_cases hn:kNum f.Kind=true
  ·rw [xm hn];refine ⟨fun w hw=>?_,t0,tn,h3,h4,fun _ hk=>absurd hk (zeU hn).1,fun hh=>?_⟩
   ·rcases xw.1 hw with hw| hw
    ·exact w0 w hw
    ·rw [x9.1 hw];exact zxV hn o2
   grind
  ·rw [xl hn];by_cases hk:f.Kind=17/\f.Repeated=true
   ·rw [xm hk];obtain ⟨e,he,hv⟩:=o4 hk.1;obtain ⟨g1,g2⟩:=hg hk.1 e he hv;refine ⟨w0,t0,tn,fun x hx=>?_,h4,fun _ _=>⟨e,he⟩,fun hh=>by rw [hk.2] at hh;cases hh⟩
    grind
   ·rw [xl hk];by_cases hk2:f.Kind=17
    ·rw [xm hk2];obtain ⟨e,he,hv⟩:=o4 hk2;refine ⟨w0,t0,tn,h3,fun _ e' he'=>?_,fun _ _=>⟨e,he⟩,fun hh=>?_⟩
     ·have:e'=e:=by omega
      subst this;exact (zdx s e' f.Of t.val (h4 hk2 e' he')).2 hv
     grind
    ·rw [xl hk2];have hk15:f.Kind=15\/f.Kind=16:=by
      have:¬(1<=f.Kind/\f.Kind<=14):=fun hh=>hn (zdc.2 hh)
      have vD:1<=f.Kind/\f.Kind<=17:=by simpa [zaQ] using o1
      omega
     refine ⟨w0,fun x hx=>?_,fun hh=>absurd hh hn,h3,h4,fun _ hh=>absurd hh hk2,fun hh=>?_⟩
     ·rcases xw.1 hx with hx| hx
      ·exact t0 x hx
      ·rw [x9.1 hx];unfold zhI
       grind
     grind
theorem zqN {s:List Mes} {d:Nat} {m:Mes} {f:Fld} {g:Int->List UInt8->Msg} {i:Int} (hi:0<=i) (hf:zr m i=f):∀(a:zbm) (l:List Th),zrk s d f a->(∀t∈l,OkT s d m t)->
  (∀t∈l,f.Kind=17->∀e,d=e+1->zF s e f.Of t.val=none->zap s (g f.Of t.val) f.Of=true/\dM (g f.Of t.val)<=e)->zrk s d f (accF g f i a l)
 | a,[],ha,_,_=>ha
 | a,t::l,ha,ht,hg=>by
  rw [accF];refine zqN hi hf _ l ?_ (fun x hx=>ht x (xo _ hx)) (fun x hx=>hg x (xo _ hx));split
  ·rename_i h;exact zIl ha (ht t xn) (by omega) (by rw [h];exact hf) (hg t xn)
  ·exact ha
theorem zDc {d:Nat}:∀{l:List Msg},(∀x∈l,1+dM x<=d)->dMs l<=d
 | [],_=>by simp [dMs]
 | x::l,h=>by
  rw [dMs];have:=h x xn;have:=zDc fun y hy=>h y (xo _ hy)
  omega
theorem zDd {d:Nat}:∀{l:List Vlu},(∀x∈l,dV x<=d)->dVs l<=d
 | [],_=>by simp [dVs]
 | x::l,h=>by
  rw [dVs];have:=h x xn;have:=zDd fun y hy=>h y (xo _ hy)
  omega
theorem zGE {s:List Mes} {d:Nat} {f:Fld} {g:Int->List UInt8->Msg} {q:zbm} (hq:zrk s d f q) (hkr:zaQ f.Kind=true)
  (hg:f.Kind=17->q.2.1=true->∀e,d=e+1->zF s e f.Of q.1=none->zap s (g f.Of q.1) f.Of=true/\dM (g f.Of q.1)<=e) (hm:0<zaq (valO g f q)):
  zhf s (valO g f q) f=true/\dV (valO g f q)<=d:=by
 obtain ⟨h1,h2,hnt,h3,h4,h5,h6⟩:=hq;have hsubs:∀x∈(valO g f q).Subs,f.Kind=17/\zap s x f.Of=true/\1+dM x<=d:=by
  unfold valO;simp only;intro x hx;split at hx
  ·rename_i hc;obtain ⟨e,he⟩:=h5 hc.1 hc.2.1;obtain ⟨g1,g2⟩:=hg hc.2.1 hc.1 e he (h4 hc.2.1 e he)
   grind
  ·exact h3 x hx
 constructor
 ·rw [znU,zix];have hmany:zmR f (valO g f q)=true:=by
   unfold zmR;rw [xK hm,hkr,xW,qE];cases hr:f.Repeated with
   | true=>simp
   | false=>
    rw [qV];refine xK ?_;obtain ⟨o1,o2,o3⟩:=h6 hr;unfold zaq valO;simp only;by_cases hk:f.Kind=17
    ·have e1:q.2.2.1=[]:=by
      cases hw:q.2.2.1 with
      | nil=>rfl
      | cons w l=>
       have:=h1 w (by rw [hw];exact xn);unfold zgo at this;simp only [xp] at this;exact absurd hk (zeU this.1).1
     have e2:q.2.2.2.1=[]:=by
      cases hw:q.2.2.2.1 with
      | nil=>rfl
      | cons w l=>
       have:=h2 w (by rw [hw];exact xn);unfold zhI at this
       grind
     grind
    ·rw [xl (fun hh=>hk hh.2.1),o3];by_cases hn:kNum f.Kind=true
     ·grind
     ·have e1:q.2.2.1=[]:=by
       cases hw:q.2.2.1 with
       | nil=>rfl
       | cons w l=>
        have:=h1 w (by rw [hw];exact xn);unfold zgo at this
        grind
      grind
  rw [hmany,xW,xp,xp];refine ⟨⟨xy.2 h1,xy.2 h2⟩,xy.2 fun x hx=>?_⟩
  grind
 ·rw [zwG];exact zDc fun x hx=>(hsubs x hx).2.2
theorem zlj (m:Mes) (i:Int):zeF m i=(zr m i).Number:=rfl
theorem zEd (hs:zcI s) (hm:m∈s) (hi:i<m.Fields.length) (hj:j<m.Fields.length) (h:m.Fields[i].Number=m.Fields[j].Number):i=j:=by
 rcases Nat.lt_trichotomy i j with vC| h'| vC
 ·exact absurd h (hs.nums m hm i j _ _ vC (xI hi) (xI hj)).1
 ·exact h'
 ·exact absurd h.symm (hs.nums m hm j i _ _ vC (xI hj) (xI hi)).1
theorem znV {s:List Mes} (hs:zcI s) {m:Mes} (hm:m∈s) {i:Int} (h0:0<=i) (hi:i<m.Fields.length):fldI m (zr m i).Number=i:=by
 obtain ⟨n,rfl⟩:∃n:Nat,i=n:=⟨i.toNat,by omega⟩;have hn:n<m.Fields.length:=by omega
 rw [zbw hn];rcases zcK m m.Fields[n].Number with ⟨_,h⟩| ⟨j,hj,h,hjn,_⟩
 ·grind
 ·rw [h,zEd hs hm hj hn hjn]
theorem zoG {s:List Mes} (hs:zcI s) {m:Mes} (hm:m∈s):(zdU (zeF m) m.Fields.length).Pairwise fun a b=>zeF m a<zeF m b:=by
 refine (zkB (zeF m) m.Fields.length).imp_of_mem fun {a b} ha hb h=>?_
 rcases h with h| ⟨h,vC⟩
 ·exact h
 ·exfalso;obtain ⟨a0,a1⟩:=zcX.1 ha;obtain ⟨b0,b1⟩:=zcX.1 hb;rw [zlj,zlj] at h;have:=znV hs hm a0 a1;rw [h,znV hs hm b0 b1] at this;omega
theorem zoy {s:List Mes} (hs:zcI s) {m:Mes} (hm:m∈s) (v:Int->Vlu) (hn:∀i,(v i).Number=zeF m i):∀(o:List Int) (p:Option Int),(∀i∈o,0<=i/\i<m.Fields.length)->(o.Pairwise fun a b=>zeF m a<zeF m b)->
  (∀i∈o,p.all (fun n=>decide (n<zeF m i))=true)->(∀i∈o,0<zaq (v i)->zhf s (v i) (zr m i)=true)->zdB s ((o.map v).filter fun x=>decide (0<zaq x)) m p=true
 | [],p,_,_,_,_=>by rw [yA,List.filter_nil,zdB]
 | i::o,p,h1,h2,h3,h4=>by
  obtain ⟨h2a,h2b⟩:=xQ.1 h2;have ih:=fun p hp=>zoy hs hm v hn o p (fun j hj=>h1 j (xo _ hj)) h2b hp (fun j hj=>h4 j (xo _ hj))
  rw [xG,yF];by_cases hp:0<zaq (v i)
  ·rw [xm (by simpa using hp),zdB,ih _ (fun j hj=>by rw [hn];simpa using h2a j hj)];obtain ⟨i0,i1⟩:=h1 i xn;have hfi:=znV hs hm i0 i1;rw [hn,zlj,hfi,h4 i xn hp,<-zlj,h3 i xn,xK i0];rfl
  ·rw [xl (by simpa using hp)];exact ih p fun j hj=>h3 j (xo _ hj)
theorem zeV {s:List Mes} (hs:zcI s):∀(N:Nat) (b:List UInt8) (d k:Nat),b.length=N->k<s.length->zF s d k b=none->zap s (ofM s k b) k=true/\dM (ofM s k b)<=d:=by
 intro N
 induction N using Nat.strongRecOn with
 | _ N IH=>
  intro b d k hN hk hv;have hmm:zn s (k:Int)∈s:=by rw [zcf hk];exact xD hk
  have hth:=zye hv;have hwt:=zlQ (zn s (k:Int)) b;rw [zgH]
  generalize hl:ths (zn s (k:Int)) b=l at hth hwt
  generalize hm:zn s (k:Int)=m at hmm hth hwt
  have hsub:∀f∈m.Fields,f.Kind=17->∀v:List UInt8,v.length+1<=b.length->∀e,zF s e f.Of v=none->zap s (ofM s f.Of v) f.Of=true/\dM (ofM s f.Of v)<=e:=fun f hf vD v hvl e he=>by
   have hof:=(hs.fld _ hmm f hf).sub vD;obtain ⟨q,hq⟩:∃q:Nat,f.Of=q:=⟨f.Of.toNat,by omega⟩
   grind
  have hval:∀i∈zdU (zeF m) m.Fields.length,0<zaq (valO (ofM s) (zr m i) (accF (ofM s) (zr m i) i acc0 l))->
    zhf s (valO (ofM s) (zr m i) (accF (ofM s) (zr m i) i acc0 l)) (zr m i)=true/\dV (valO (ofM s) (zr m i) (accF (ofM s) (zr m i) i acc0 l))<=d:=fun i hi hp=>by
   obtain ⟨i0,i1⟩:=zcX.1 hi;obtain ⟨n,hn⟩:∃n:Nat,i=n:=⟨i.toNat,by omega⟩;have hnl:n<m.Fields.length:=by omega
   have hfm:zr m i∈m.Fields:=by rw [hn,zbw hnl];exact xD _
   have hacc:=zqN (g:=ofM s) i0 rfl acc0 l (zvb s d (zr m i)) hth (fun t ht vD e he hv=>hsub _ hfm vD _ (by have:=znG ht;omega) e hv);have hw:=(zne (ofM s) (zr m i) i acc0 l).2;refine zGE hacc (hs.fld _ hmm _ hfm).kind (fun vD hmet e he hv=>hsub _ hfm vD _ ?_ e hv) hp;have h0:wJ acc0=0:=rfl;rw [h0,wJ,xm hmet] at hw;omega
  constructor
  ·rw [zhW,hm,xK (by omega),xW,xp];constructor
   ·unfold zbY zmY;exact zoy hs hmm (fun i=>valO (ofM s) (zr m i) (accF (ofM s) (zr m i) i acc0 l)) (fun i=>rfl) _ none (fun i hi=>zcX.1 hi) (zoG hs hmm) (fun _ _=>rfl) (fun i hi hp=>(hval i hi hp).1)
   ·unfold zbY unkO;refine xy.2 fun u hu=>?_
    obtain ⟨t,ht,rfl⟩:=xu.1 hu;obtain ⟨ht1,ht2⟩:=xU.1 ht;exact (hth t ht1).unk (by simpa using ht2)
  ·rw [zAh];unfold zbY zmY;refine zDd fun x hx=>?_
   grind
theorem zDq (h: -9223372036854775808<=n/\n<=9223372036854775807):(Lit.int .i64 n).wf=true:=by
 simpa [Lit.wf,IntKind.min,IntKind.max,IntKind.bits,IntKind.signed] using h
structure zwr (a:zbm):Prop where
 words:∀w∈a.2.2.1,0<=w/\w<=18446744073709551615
 texts:∀t∈a.2.2.2.1,t.length<=1048576
 subs:∀x∈a.2.2.2.2,bdM x/\smM x
theorem zFo:zwr acc0:=⟨fun w h=>(nomatch h),fun w h=>(nomatch h),fun w h=>(nomatch h)⟩
theorem zyw (k:Int) (v:List UInt8):∀w∈(zZ k v).1,0<=w/\w<=18446744073709551615:=by
 intro w hw;unfold zZ at hw;split at hw
 ·cases hw
 ·split at hw
  ·obtain ⟨p,_,rfl⟩:=xu.1 hw;exact zeE k (zkx k)
  ·cases hw
theorem zEC (k:Int) (v:List UInt8):0<=(zjQ k v).1/\(zjQ k v).1<=18446744073709551615:=by
 unfold zjQ;split
 ·simp
 ·split
  ·simp
  ·exact zeE k (zkx k)
theorem zIk {g:Int->List UInt8->Msg} {f:Fld} {a:zbm} {t:Th} (ha:zwr a) (ht:t.val.length<=1048576) (hg:f.Kind=17->bdM (g f.Of t.val)/\smM (g f.Of t.val)):zwr (stp g f a t):=by
 obtain ⟨h1,h2,h3⟩:=ha;have w0:∀w∈(if f.Repeated=true then a.2.2.1 else []),0<=w/\w<=18446744073709551615:=fun w hw=>by
  grind
 have t0:∀w∈(if f.Repeated=true then a.2.2.2.1 else []),w.length<=1048576:=fun w hw=>by
  grind
 unfold stp;split
 ·refine ⟨fun w hw=>?_,t0,h3⟩;rcases xw.1 hw with hw| hw
  ·exact w0 w hw
  ·exact zyw _ _ w hw
 ·split
  ·refine ⟨fun w hw=>?_,t0,h3⟩;rcases xw.1 hw with hw| hw
   ·exact w0 w hw
   ·rw [x9.1 hw];exact zEC _ _
  ·split
   ·rename_i hk;refine ⟨w0,t0,fun x hx=>?_⟩
    grind
   ·split
    ·exact ⟨w0,t0,h3⟩
    ·refine ⟨w0,fun x hx=>?_,h3⟩
     grind
theorem zzY {g:Int->List UInt8->Msg} {f:Fld} {i:Int}:∀{l:List Th} {a:zbm},zwr a->(∀t∈l,t.val.length<=1048576)->(f.Kind=17->∀t∈l,bdM (g f.Of t.val)/\smM (g f.Of t.val))->zwr (accF g f i a l)
 | [],a,ha,_,_=>ha
 | t::l,a,ha,ht,hg=>by
  rw [accF];refine zzY ?_ (fun x hx=>ht x (xo _ hx)) fun vD x hx=>hg vD x (xo _ hx)
  split
  ·exact zIk ha (ht t xn) fun vD=>hg vD t xn
  ·exact ha
theorem zHW {s:List Mes} (hs:zcI s):∀(N:Nat) (b:List UInt8) (k:Nat),b.length=N->N<=1048576->k<s.length->bdM (ofM s k b)/\smM (ofM s k b):=by
 intro N
 induction N using Nat.strongRecOn with
 | _ N IH=>
  intro b k hN hb hk;have hmm:zn s (k:Int)∈s:=by rw [zcf hk];exact xD hk
  have hwt:=zlQ (zn s (k:Int)) b;have hraw:∀t∈ths (zn s (k:Int)) b,t.raw.length<=b.length:=fun t ht=>by
   unfold ths at ht;obtain ⟨r,_,rfl⟩:=xu.1 ht;show (rawB b r.R).length<=_;unfold rawB;simp;omega
  have hfew:=hs.few _ hmm;rw [zgH]
  generalize ths (zn s (k:Int)) b=l at hwt hraw
  generalize zn s (k:Int)=m at hmm hfew|-
  have hsub:∀f∈m.Fields,f.Kind=17->∀v:List UInt8,v.length+1<=b.length->bdM (ofM s f.Of v)/\smM (ofM s f.Of v):=fun f hf vD v hvl=>by
   have hof:=(hs.fld _ hmm f hf).sub vD;obtain ⟨q,hq⟩:∃q:Nat,f.Of=q:=⟨f.Of.toNat,by omega⟩
   grind
  have hval:∀i∈zdU (zeF m) m.Fields.length,bdV (valO (ofM s) (zr m i) (accF (ofM s) (zr m i) i acc0 l))/\smV (valO (ofM s) (zr m i) (accF (ofM s) (zr m i) i acc0 l)):=fun i hi=>by
   obtain ⟨i0,i1⟩:=zcX.1 hi;obtain ⟨n,hn⟩:∃n:Nat,i=n:=⟨i.toNat,by omega⟩;have hnl:n<m.Fields.length:=by omega
   have hfm:zr m i∈m.Fields:=by rw [hn,zbw hnl];exact xD _
   have hfo:=hs.fld _ hmm _ hfm;have hacc:=zzY (g:=ofM s) (f:=zr m i) (i:=i) (l:=l) zFo (fun t ht=>by have:=znG ht;omega) (fun vD t ht=>hsub _ hfm vD _ (by have:=znG ht;omega));have hw:=zne (ofM s) (zr m i) i acc0 l;have w0:wA acc0=0:=rfl;have j0:wJ acc0=0:=rfl;rw [w0,j0] at hw
   generalize zr m i=f at hfm hfo hacc hw|-
   generalize accF (ofM s) f i acc0 l=q at hacc hw|-
   obtain ⟨a1,a2,a3⟩:=hacc;have hsubs:(valO (ofM s) f q).Subs.length<=1048576/\∀x∈(valO (ofM s) f q).Subs,bdM x/\smM x:=by
    unfold valO;simp only;split
    ·rename_i hc;refine ⟨by simp,fun x hx=>?_⟩;rw [x9.1 hx];have h2:=hw.2;rw [wJ,xm hc.1] at h2
     grind
    ·exact ⟨by have:=hw.1;unfold wA at this;omega,a3⟩
   have h1:=hw.1;unfold wA at h1;have e1:(valO (ofM s) f q).Words=q.2.2.1:=rfl;have e2:(valO (ofM s) f q).Texts=q.2.2.2.1:=rfl;have e3:(valO (ofM s) f q).Number=f.Number:=rfl
   refine ⟨(zfQ _).2 ⟨by rw [e3];exact zDq (by have:=hfo.lo;have:=hfo.hi;omega),⟨by rw [e1];omega,by rw [e1];exact a1⟩,⟨by rw [e2];omega,fun x hx=>by rw [e2] at hx;have:=a2 x hx;omega⟩,by have:=hsubs.1;omega,zdJ.2 fun x hx=>(hsubs.2 x hx).1⟩,
    (zsX _).2 ⟨by rw [e1];omega,⟨by rw [e2];omega,by rw [e2];exact a2⟩,hsubs.1,zjT.2 fun x hx=>(hsubs.2 x hx).2⟩⟩
  have hvl:(zbY (ofM s) m l).Values.length<=200:=by
   unfold zbY zmY;simp only;refine yb (pT _ _) ?_;rw [pU,zuN];exact hfew
  have hul:(zbY (ofM s) m l).Unknown.length<=1048576:=by
   unfold zbY unkO;simp only;rw [pU];refine yb (pT _ _) ?_;have:=zFj l;omega
  have hum:∀t∈(zbY (ofM s) m l).Unknown,t.length<=1048576:=fun u hu=>by
   unfold zbY unkO at hu
   grind
  have hvm:∀v∈(zbY (ofM s) m l).Values,bdV v/\smV v:=fun v hv=>by
   unfold zbY zmY at hv
   grind
  refine ⟨(zif _).2 ⟨by omega,⟨by omega,fun t ht=>by have:=hum t ht;omega⟩,zdu.2 fun v hv=>(hvm v hv).1⟩,(zsW _).2 ⟨by omega,⟨hul,hum⟩,zjU.2 fun v hv=>(hvm v hv).2⟩⟩
abbrev zW:=List Int
def begB (way w:zW):Bool:=w.isPrefixOf way
theorem zCR :begB way w=true↔w<+:way:=List.isPrefixOf_iff_prefix
def zbX:zW->zW->Bool
 | [],b=> !b.isEmpty
 | _::_,[]=>false
 | x::a,y::b=>if x=y then zbX a b else decide (x<y)
theorem zko:∀(a:zW),zbX a a=false
 | []=>rfl
 | x::a=>by rw [zbX,xm rfl,zko a]
theorem zlm:∀(a b c:zW),zbX a b=true->zbX b c=true->zbX a c=true
 | [],b,c,h1,h2=>by
  cases c with
  | nil=>cases b<;>simp [zbX] at h2
  | cons=>rfl
 | _::_,[],_,h1,_=>by simp [zbX] at h1
 | _::_,_::_,[],_,h2=>by simp [zbX] at h2
 | x::a,y::b,z::c,h1,h2=>by
  rw [zbX] at h1 h2|-;by_cases hxy:x=y
  ·rw [xm hxy] at h1;by_cases hyz:y=z
   ·rw [xm hyz] at h2;rw [xm (hxy.trans hyz)];exact zlm a b c h1 h2
   grind
  grind
theorem zqc:∀(a b:zW),a≠b->zbX a b=true\/zbX b a=true
 | [],[],h=>absurd rfl h
 | [],_::_,_=> .inl rfl
 | _::_,[],_=> .inr rfl
 | x::a,y::b,h=>by
  rw [zbX,zbX];by_cases hxy:x=y
  ·rw [xm hxy,xm hxy.symm];exact zqc a b (fun e=>h (by rw [hxy,e]))
  grind
theorem zxq (h:zbX a b=true):zbX b a=false:=by
 cases hb:zbX b a with
 | false=>rfl
 | true=>have:=zlm a b a h hb;rw [zko] at this;cases this
theorem zqq:∀(l k:List zW),l.Pairwise (fun a b=>zbX a b=true)->k.Pairwise (fun a b=>zbX a b=true)->(∀w,w∈l↔w∈k)->l=k
 | [],[],_,_,_=>rfl
 | [],y::k,_,_,h=>absurd ((h y).2 xn) (by simp)
 | x::l,[],_,_,h=>absurd ((h x).1 xn) (by simp)
 | x::l,y::k,hl,hk,h=>by
  have hl':=xQ.1 hl;have hk':=xQ.1 hk;have hxy:x=y:=by
   rcases xq.1 ((h x).1 xn) with h1| h1
   ·exact h1
   ·rcases xq.1 ((h y).2 xn) with h2| h2
    ·exact h2.symm
    grind [zxq]
  subst hxy;congr 1;refine zqq l k hl'.2 hk'.2 fun w=>?_
  grind [zko]
def zAW (vP:List zW) (i:Nat) (w:zW) (k:Nat) (v:zW):Bool:=decide (k≠i)&& !v.isEmpty&&begB w v&&(decide (v.length<w.length)|| decide (k<i))
def badW (vP:List zW) (i:Nat) (w:zW):Nat->List zW->Bool
 | _,[]=>false
 | k,v::l=>zAW vP i w k v|| badW vP i w (k+1) l
def insL (w:zW) (out:List zW):List zW:=out.takeWhile (fun x=>zbX x w)++w::out.dropWhile (fun x=>zbX x w)
def ofK (vP:List zW):Nat->List zW
 | 0=>[]
 | i+1=>match vP[i]? with
  | some w=>if !w.isEmpty&& !badW vP i w 0 vP then insL w (ofK vP i) else ofK vP i
  | none=>ofK vP i
def ofW (vP:List zW):List zW:=ofK vP vP.length
theorem zDs :x∈insL w out↔x=w\/x∈out:=by
 unfold insL;have hs:out.takeWhile (fun x=>zbX x w)++out.dropWhile (fun x=>zbX x w)=out:=pt
 grind
theorem zzK :∀{l:List zW},∀x∈l.takeWhile (fun x=>zbX x w),zbX x w=true:=by
 intro l
 induction l with
 | nil=>intro x hx;simp at hx
 | cons y l ih=>
  intro x hx;rw [List.takeWhile_cons] at hx
  grind
theorem zyW :∀{l:List zW},l.Pairwise (fun a b=>zbX a b=true)->(w∉l)->∀x∈l.dropWhile (fun x=>zbX x w),zbX w x=true:=by
 intro l
 induction l with
 | nil=>intro _ _ x hx;simp at hx
 | cons y l ih=>
  intro hp hn x hx;rw [List.dropWhile_cons] at hx;have hp':=xQ.1 hp
  grind [zqc,zlm]
theorem zwV (hs:out.Pairwise (fun a b=>zbX a b=true)) (hn:w∉out):(insL w out).Pairwise (fun a b=>zbX a b=true):=by
 unfold insL;have hsp:out.takeWhile (fun x=>zbX x w)++out.dropWhile (fun x=>zbX x w)=out:=pt;have hp:(out.takeWhile (fun x=>zbX x w)++out.dropWhile (fun x=>zbX x w)).Pairwise (fun a b=>zbX a b=true):=by rw [hsp];exact hs
 rw [List.pairwise_append] at hp|-;have ht:=zzK (w:=w) (l:=out);have hd:=zyW hs hn;simp_all
theorem zwx {vP:List zW} {i:Nat} {w:zW}:∀(l:List zW) (k:Nat),badW vP i w k l=true↔∃j v,l[j]? =some v/\zAW vP i w (k+j) v=true
 | [],k=>by simp [badW]
 | v::l,k=>by
  rw [badW,qC,zwx l (k+1)];constructor
  ·rintro (h| ⟨j,u,h1,h2⟩)
   ·exact ⟨0,v,rfl,by simpa using h⟩
   ·exact ⟨j+1,u,by simpa using h1,by rw [show k+(j+1)=k+1+j by omega];exact h2⟩
  grind
def zyD (vP:List zW) (w:zW):Prop:=w∈vP/\w≠[]/\∀v∈vP,v≠[]->v<+:w->v=w
theorem zwR {vP:List zW} {i:Nat} {w:zW} (hi:vP[i]? =some w):(!w.isEmpty&& !badW vP i w 0 vP)=true↔zyD vP w/\∀j<i,vP[j]? ≠some w:=by
 rw [xp,xM,xM,<-pC,<-pC,zwx];have hw:w∈vP:=qu hi;have vH:∀(k:Nat) (v:zW),zAW vP i w k v=true↔k≠i/\v≠[]/\v<+:w/\(v.length<w.length\/k<i):=by
  grind [zAW,zCR]
 constructor
 ·rintro ⟨h1,h2⟩;refine ⟨⟨hw,by simpa using h1,fun v hv hv0 hp=>?_⟩,fun j hj hje=>?_⟩
  ·obtain ⟨k,hk,rfl⟩:=y9 hv;rcases yk (vP[k]).length w.length with hl| hl
   ·exfalso;refine h2 ⟨k,vP[k],xI hk,(vH _ _).2 ⟨fun e=>?_,hv0,hp,.inl hl⟩⟩
    grind
   ·exact hp.eq_of_length (by have:=hp.length_le;omega)
  grind
 ·rintro ⟨⟨_,h1,h2⟩,h3⟩
  grind
theorem zvO {vP:List zW}:∀(i:Nat),i<=vP.length->∀w,w∈ofK vP i↔zyD vP w/\∃j<i,vP[j]? =some w
 | 0,_,w=>by simp [ofK]
 | i+1,hi,w=>by
  have hil:i<vP.length:=hi;have ih:=zvO (vP:=vP) i (Nat.le_of_lt hil) w;obtain ⟨u,hg⟩:∃u,vP[i]? =some u:=⟨vP[i],xI hil⟩;rw [ofK,hg]
  grind [zDs,zwR]
theorem zAT {vP:List zW} {w:zW}:w∈ofW vP↔zyD vP w:=by
 unfold ofW;rw [zvO _ (xr _)];refine ⟨fun h=>h.1,fun h=>⟨h,?_⟩⟩;obtain ⟨j,hj,rfl⟩:=y9 h.1;exact ⟨j,hj,xI hj⟩
theorem zss {vP:List zW}:∀(i:Nat),i<=vP.length->(ofK vP i).Pairwise (fun a b=>zbX a b=true)
 | 0,_=> .nil
 | i+1,hi=>by
  have hil:i<vP.length:=hi;have ih:=zss (vP:=vP) i (Nat.le_of_lt hil);obtain ⟨u,hg⟩:∃u,vP[i]? =some u:=⟨vP[i],xI hil⟩;rw [ofK,hg]
  grind [zwR,zwV,zvO]
theorem zzr (vP:List zW):(ofW vP).Pairwise (fun a b=>zbX a b=true):=zss _ (xr _)
theorem zAS {vP:List zW}:∀(i:Nat),(ofK vP i).length<=i
 | 0=>xr _
 | i+1=>by
  have ih:=zAS (vP:=vP) i;rw [ofK];split
  ·split
   ·unfold insL;have hs:∀(p:zW->Bool),((ofK vP i).takeWhile p).length+((ofK vP i).dropWhile p).length=(ofK vP i).length:=fun p=>by rw [<-xt,pt]
    grind
   ·omega
  ·omega
theorem zGi (vP:List zW):(ofW vP).length<=vP.length:=zAS _
def hasB (vP:List zW) (way:zW):Bool:=vP.any fun v=> !v.isEmpty&&begB way v
def zkF (m:List zW) (n:Int):Bool:=m.any fun v=>v==[n]
def zIb (n:Int):zW->Option zW
 | x::y::v=>if x=n then some (y::v) else none
 | _=>none
def zjo (m:List zW) (n:Int):List zW:=m.filterMap (zIb n)
def zck (l:List Vlu):Prop:=l.Pairwise fun a b=>a.Number<b.Number
def look (l:List Vlu) (n:Int):Option Vlu:=l.find? fun v=>v.Number==n
theorem zby (v:Vlu) (l:List Vlu) (n:Int):look (v::l) n=if v.Number=n then some v else look l n:=by
 unfold look
 grind
theorem zcV (h:look l n=some v):v.Number=n/\v∈l:=by
 unfold look at h
 grind
theorem zmi (h:∀v∈l,n<v.Number):look l n=none:=by
 unfold look
 grind
theorem zsk (hr:zck l) (h:v∈l):look l v.Number=some v:=by
 induction l with
 | nil=>cases h
 | cons u l ih=>
  obtain ⟨h1,h2⟩:=xQ.1 hr;rw [zby];rcases xq.1 h with rfl| h
  ·rw [xm rfl]
  ·have:=h1 v h;rw [xl (by omega),ih h2 h]
theorem zsj:∀{l k:List Vlu},zck l->zck k->(∀n,look l n=look k n)->l=k
 | [],[],_,_,_=>rfl
 | [],u::k,_,_,h=>by
  have:=h u.Number;rw [zby,xm rfl] at this;cases this
 | v::l,[],_,_,h=>by
  have:=h v.Number;rw [zby,xm rfl] at this;cases this
 | v::l,u::k,hl,hk,h=>by
  obtain ⟨l1,l2⟩:=xQ.1 hl;obtain ⟨k1,k2⟩:=xQ.1 hk;have e:v=u:=by
   have hv:=h v.Number;have hu:=h u.Number
   grind [zby,zmi]
  subst e;rw [zsj l2 k2 fun n=>by
   by_cases hn:v.Number<n
   ·have:=h n
    grind [zby]
   ·rw [zmi fun x hx=>by have:=l1 x hx;omega,zmi fun x hx=>by have:=k1 x hx;omega]]
def putL (v:Vlu):Bool->List Vlu->List Vlu
 | done,[]=>if done=true then [] else [v]
 | done,u::l=>(if done=false/\v.Number<=u.Number then [v] else [])++((if u.Number=v.Number then [] else [u])++putL v (done|| decide (v.Number<=u.Number)) l)
theorem zxI (v:Vlu):∀(d:Bool) (l:List Vlu),(putL v d l).length<=l.length+(if d=true then 0 else 1)
 | d,[]=>by rw [putL];cases d<;>simp
 | d,u::l=>by
  have:=zxI v (d|| decide (v.Number<=u.Number)) l;rw [putL]
  grind
theorem zxJ :∀{d:Bool} {l:List Vlu} {x:Vlu},x∈putL v d l->x=v/\d=false\/x∈l/\x.Number≠v.Number
 | d,[],x,h=>by
  rw [putL] at h
  grind
 | d,u::l,x,h=>by
  rw [putL] at h;rcases xw.1 h with h| h
  ·grind
  ·rcases xw.1 h with h| h
   ·grind
   ·rcases zxJ h with ⟨h1,h2⟩| ⟨h1,h2⟩
    ·grind
    grind
theorem ziS :∀{d:Bool} {l:List Vlu},zck l->zck (putL v d l)
 | d,[],_=>by rw [putL];cases d<;>simp [zck]
 | d,u::l,h=>by
  obtain ⟨h1,h2⟩:=xQ.1 h;have ih:=ziS (v:=v) (d:=d|| decide (v.Number<=u.Number)) h2;have hrest:∀x∈putL v (d|| decide (v.Number<=u.Number)) l,u.Number<x.Number:=fun x hx=>by
   grind [zxJ]
  rw [putL];have htail:zck ((if u.Number=v.Number then [] else [u])++putL v (d|| decide (v.Number<=u.Number)) l):=by
   split
   ·exact ih
   ·exact xQ.2 ⟨hrest,ih⟩
  split
  ·rename_i hc;rw [List.singleton_append];refine xQ.2 ⟨fun x hx=>?_,htail⟩
   grind
  ·exact htail
theorem zlo (l k:List Vlu) (n:Int):look (l++k) n=match look l n with| some v=>some v| none=>look k n:=by
 unfold look
 grind
theorem zol :∀{d:Bool} {l:List Vlu},zck l->∀n,look (putL v d l) n=if n=v.Number then (if d=true then none else some v) else look l n
 | d,[],_,n=>by
  rw [putL];cases d
  ·grind [zby]
  ·rw [xm rfl,xm rfl];split<;>rfl
 | d,u::l,h,n=>by
  obtain ⟨h1,h2⟩:=xQ.1 h;have ih:=zol (v:=v) (d:=d|| decide (v.Number<=u.Number)) h2 n;rw [putL,zlo,zlo,ih,zby u l n];by_cases hn:n=v.Number
  ·rw [xm hn,xm hn];have hu:look (if u.Number=v.Number then [] else [u]) n=none:=by
    split
    ·rfl
    ·rw [zby,xl (by omega)];rfl
   grind [zby]
  ·rw [xl hn,xl hn];have hv:look (if d=false/\v.Number<=u.Number then [v] else []) n=none:=by
    split
    ·rw [zby,xl (fun hh=>hn hh.symm)];rfl
    ·rfl
   grind [zby]
def putM (x:Msg) (v:Vlu):Msg:=⟨putL v (decide (zaq v=0)) x.Values,x.Unknown⟩
theorem ziT :∀{l:List Vlu} {p:Option Int},zdB s l m p=true->∀v∈l,0<=fldI m v.Number/\zhf s v (zr m (fldI m v.Number))=true/\p.all (fun n=>decide (n<v.Number))=true
 | [],p,_,v,hv=>by cases hv
 | u::l,p,h,v,hv=>by
  rw [zdB] at h;simp only [xp,xP] at h;obtain ⟨⟨⟨h1,h2⟩,h3⟩,h4⟩:=h;rcases xq.1 hv with rfl| hv
  ·grind
  ·obtain ⟨g1,g2,g3⟩:=ziT h4 v hv;refine ⟨g1,g2,?_⟩;cases p with
   | none=>rfl
   | some n=>
    grind
theorem zlK :∀{l:List Vlu} {p:Option Int},zdB s l m p=true->zck l
 | [],p,_=> .nil
 | u::l,p,h=>by
  rw [zdB] at h;simp only [xp,xP] at h;refine xQ.2 ⟨fun v hv=>?_,zlK h.2⟩;have:=(ziT h.2 v hv).2.2;simpa using this
theorem zsP :∀{l:List Vlu} {p:Option Int},zck l->(∀v∈l,0<=fldI m v.Number/\zhf s v (zr m (fldI m v.Number))=true/\p.all (fun n=>decide (n<v.Number))=true)->zdB s l m p=true
 | [],p,_,_=>by rw [zdB]
 | u::l,p,hr,h=>by
  obtain ⟨h1,h2⟩:=xQ.1 hr;obtain ⟨a1,a2,a3⟩:=h u xn;rw [zdB,zsP h2 fun v hv=>⟨(h v (xo _ hv)).1,(h v (xo _ hv)).2.1,by simpa using h1 v hv⟩,a2,a3,xK a1];rfl
theorem zaE (h:zap s x k=true):0<=k/\k<s.length/\zck x.Values/\(∀v∈x.Values,0<=fldI (zn s k) v.Number/\zhf s v (zr (zn s k) (fldI (zn s k) v.Number))=true)/\∀u∈x.Unknown,unkR (zn s k) u=true:=by
 rw [zhW] at h;simp only [xp,xP] at h;exact ⟨h.1.1.1,h.1.1.2,zlK h.1.2,fun v hv=>⟨(ziT h.1.2 v hv).1,(ziT h.1.2 v hv).2.1⟩,xy.1 h.2⟩
theorem zuJ (h1:0<=k) (h2:k<s.length) (h3:zck x.Values) (h4:∀v∈x.Values,0<=fldI (zn s k) v.Number/\zhf s v (zr (zn s k) (fldI (zn s k) v.Number))=true) (h5:∀u∈x.Unknown,unkR (zn s k) u=true):zap s x k=true:=by
 grind [zhW,zsP]
structure zeD (s:List Mes) (v:Vlu) (f:Fld):Prop where
 many:0<zaq v
 one:f.Repeated=false->zaq v=1
 kind:zaQ f.Kind=true
 words:∀w∈v.Words,zgo f w=true
 texts:∀t∈v.Texts,zhI f t=true
 subs:∀x∈v.Subs,f.Kind=17/\zap s x f.Of=true
theorem zci (h:zhf s v f=true):zeD s v f:=by
 rw [znU,zix] at h;unfold zmR at h;simp only [xp,qC,xP,xy,qW] at h;obtain ⟨⟨⟨⟨⟨h1,h2⟩,h3⟩,h4⟩,h5⟩,h6⟩:=h;refine ⟨h1,fun hr=>?_,h3,h4,h5,fun x hx=>?_⟩
 ·grind
 ·exact h6 x hx
theorem zAn (h:zeD s v f):zhf s v f=true:=by
 obtain ⟨h1,h2,h3,h4,h5,h6⟩:=h;rw [znU,zix];unfold zmR;simp only [xp,qC,xP,xy,qW];refine ⟨⟨⟨⟨⟨h1,?_⟩,h3⟩,h4⟩,h5⟩,fun x hx=>h6 x hx⟩;cases hr:f.Repeated with
 | true=>exact .inr rfl
 | false=>exact .inl (by have:=h2 hr;omega)
theorem zeD.noWords (h:zeD s v f) (hk:kNum f.Kind=false):v.Words=[]:=by
 cases hw:v.Words with
 | nil=>rfl
 | cons w l=>
  have:=h.words w (by rw [hw];exact xn);unfold zgo at this
  grind
theorem zeD.noTexts (h:zeD s v f) (hk:f.Kind≠15/\f.Kind≠16):v.Texts=[]:=by
 cases hw:v.Texts with
 | nil=>rfl
 | cons w l=>
  have:=h.texts w (by rw [hw];exact xn);unfold zhI at this
  grind
theorem zeD.noSubs {s:List Mes} {v:Vlu} {f:Fld} (h:zeD s v f) (hk:f.Kind≠17):v.Subs=[]:=by
 cases hw:v.Subs with
 | nil=>rfl
 | cons w l=>exact absurd (h.subs w (by rw [hw];exact xn)).1 hk
theorem zeD.msg (h:zeD s v f) (hk:f.Kind=17) (hr:f.Repeated=false):∃x,v=⟨v.Number,[],[],[x]⟩/\zap s x f.Of=true:=by
 have h1:=h.noWords (by rw [hk];rfl);have h2:=h.noTexts (by omega);have h3:=h.one hr;have h4:=h.subs;obtain ⟨n,w,t,sub⟩:=v;simp only at h1 h2 h4;subst h1 h2;unfold zaq at h3;simp at h3;obtain ⟨x,rfl⟩:∃x,sub=[x]:=by
  cases sub with
  | nil=>simp at h3
  | cons x l=>cases l with
   | nil=>exact ⟨x,rfl⟩
   | cons _ _=>simp at h3
 grind
mutual
/-- b zev a. -/
def zhi (s:List Mes):Msg->Msg->Int->Msg
 | ⟨vs,u⟩,a,k=>⟨zfa s vs a (zn s k) a.Values,a.Unknown++u⟩
def zfa (s:List Mes):List Vlu->Msg->Mes->List Vlu->List Vlu
 | [],_,_,acc=>acc
 | v::l,a,m,acc=>zfa s l a m (putM ⟨acc,[]⟩ (zej s v (look a.Values v.Number) (zr m (fldI m v.Number)))).Values
def zej (s:List Mes):Vlu->Option Vlu->Fld->Vlu
 | ⟨n,w,t,sub⟩,none,f=>⟨n,w,t,sub⟩
 | ⟨n,w,t,sub⟩,some u,f=>if f.Repeated=true then ⟨n,u.Words++w,u.Texts++t,u.Subs++sub⟩ else if f.Kind=17 then ⟨n,[],[],zhB s sub u.Subs f.Of⟩ else ⟨n,w,t,sub⟩
def zhB (s:List Mes):List Msg->List Msg->Int->List Msg
 | [],_,_=>[]
 | x::_,ys,k=>match ys with
  | []=>[]
  | y::_=>[zhi s x y k]
end
theorem zim (s:List Mes) (b a:Msg) (k:Int):zhi s b a k=⟨zfa s b.Values a (zn s k) a.Values,a.Unknown++b.Unknown⟩:=by cases b;rw [zhi]
theorem zfe (s:List Mes) (v:Vlu) (o:Option Vlu) (f:Fld):zej s v o f=match o with
  | none=>v
  | some u=>if f.Repeated=true then ⟨v.Number,u.Words++v.Words,u.Texts++v.Texts,u.Subs++v.Subs⟩ else if f.Kind=17 then ⟨v.Number,[],[],zhB s v.Subs u.Subs f.Of⟩ else v:=by
 cases v;cases o<;>rw [zej]
theorem zpn (s:List Mes) (v:Vlu) (o:Option Vlu) (f:Fld):(zej s v o f).Number=v.Number:=by
 rw [zfe];cases o with
 | none=>rfl
 | some u=>simp only;split;rfl;split<;>rfl
theorem zEn (acc:List Vlu) (u:List Str) (v:Vlu):(putM ⟨acc,u⟩ v).Values.length<=acc.length+1:=by
 grind [putM,zxI]
theorem zqe :∀{l acc:List Vlu},zck acc->zck l->(∀v∈l,0<zaq (zej s v (look a.Values v.Number) (zr m (fldI m v.Number))))->
  zck (zfa s l a m acc)/\∀n,look (zfa s l a m acc) n=match look l n with
   | some v=>some (zej s v (look a.Values n) (zr m (fldI m n)))
   | none=>look acc n
 | [],acc,h1,_,_=>by rw [zfa];exact ⟨h1,fun n=>rfl⟩
 | v::l,acc,h1,h2,h3=>by
  obtain ⟨l1,l2⟩:=xQ.1 h2;have hv:=h3 v xn;have hnum:=zpn s v (look a.Values v.Number) (zr m (fldI m v.Number));rw [zfa];have hacc:zck (putM ⟨acc,[]⟩ (zej s v (look a.Values v.Number) (zr m (fldI m v.Number)))).Values:=ziS h1;obtain ⟨r1,r2⟩:=zqe (s:=s) (a:=a) (m:=m) hacc l2 fun u hu=>h3 u (xo _ hu)
  grind [putM,zby,zol,zmi]
theorem znp (hv:zeD s v f) (ho:∀u,o=some u->zeD s u f):0<zaq (zej s v o f):=by
 rw [zfe];cases o with
 | none=>exact hv.many
 | some u=>
  have:=hv.many;simp only;by_cases hr:f.Repeated=true
  ·grind [zaq]
  ·rw [xl hr];by_cases vD:f.Kind=17
   ·rw [xm vD];obtain ⟨x,hvx,_⟩:=hv.msg vD (by simpa using hr);obtain ⟨y,huy,_⟩:=(ho u rfl).msg vD (by simpa using hr);rw [hvx,huy,zhB];simp [zaq]
   grind
theorem zpt (ha:zap s a k=true) (hb:zap s b k=true):zck (zhi s b a k).Values/\∀n,look (zhi s b a k).Values n=match look b.Values n with
   | some v=>some (zej s v (look a.Values n) (zr (zn s k) (fldI (zn s k) n)))
   | none=>look a.Values n:=by
 obtain ⟨_,_,ra,ha',_⟩:=zaE ha;obtain ⟨_,_,rb,hb',_⟩:=zaE hb;rw [zim];exact zqe ra rb fun v hv=>znp (zci (hb' v hv).2) fun u hu=>by
  obtain ⟨e,hm⟩:=zcV hu;have:=zci (ha' u hm).2
  grind
def ztf (g:Int->List UInt8->Msg) (m:Mes) (l:List Th) (i:Int):Vlu:=valO g (zr m i) (accF g (zr m i) i acc0 l)
theorem zmj {s:List Mes} (hs:zcI s) {m:Mes} (hm:m∈s) {g:Int->List UInt8->Msg} {l:List Th} (hr:zck (zbY g m l).Values) (n:Int):
  look (zbY g m l).Values n=if 0<=fldI m n/\0<zaq (ztf g m l (fldI m n)) then some (ztf g m l (fldI m n)) else none:=by
 have hmem:∀v,v∈(zbY g m l).Values↔∃i:Int,(0<=i/\i<m.Fields.length)/\ztf g m l i=v/\0<zaq v:=fun v=>by
  unfold zbY zmY;simp only [xU,xu,zcX,xP];constructor
  ·rintro ⟨⟨i,hi,rfl⟩,h2⟩;exact ⟨i,hi,rfl,h2⟩
  ·rintro ⟨i,hi,rfl,h2⟩;exact ⟨⟨i,hi,rfl⟩,h2⟩
 have hnum:∀i,(ztf g m l i).Number=(zr m i).Number:=fun i=>rfl
 by_cases hc:0<=fldI m n/\0<zaq (ztf g m l (fldI m n))
 ·grind [zcK,zsk,zbw]
 ·rw [xl hc];cases hlk:look (zbY g m l).Values n with
  | none=>rfl
  | some v=>
   exfalso;obtain ⟨hn,hv⟩:=zcV hlk
   grind [znV]
def comb (f:Fld) (a q:zbm):zbm:=(a.1++q.1,a.2.1|| q.2.1,(if f.Repeated=true then a.2.2.1++q.2.2.1 else if q.2.1=true then q.2.2.1 else a.2.2.1),(if f.Repeated=true then a.2.2.2.1++q.2.2.2.1 else if q.2.1=true then q.2.2.2.1 else a.2.2.2.1),a.2.2.2.2++q.2.2.2.2)
theorem zGP (f:Fld) (a:zbm):comb f a acc0=a:=by
 unfold comb acc0
 grind
theorem zEO (g:Int->List UInt8->Msg) (f:Fld) (a q:zbm) (t:Th):stp g f (comb f a q) t=comb f a (stp g f q t):=by
 unfold stp comb
 grind
theorem zoY (g:Int->List UInt8->Msg) (f:Fld) (i:Int) (a:zbm):∀(l:List Th) (q:zbm),accF g f i (comb f a q) l=comb f a (accF g f i q l)
 | [],q=>rfl
 | t::l,q=>by
  rw [accF,accF];split
  ·rw [zEO,zoY g f i a l]
  ·rw [zoY g f i a l]
theorem zBj (g:Int->List UInt8->Msg) (f:Fld) (a:zbm) (t:Th):(stp g f a t).2.1=true:=by
 unfold stp;split;rfl;split;rfl;split;rfl;split<;>rfl
theorem ztN (g:Int->List UInt8->Msg) (f:Fld) (i:Int):∀(l:List Th) (a:zbm),a.2.1=true->(accF g f i a l).2.1=true
 | [],a,h=>h
 | t::l,a,h=>by
  rw [accF];refine ztN g f i l _ ?_;split
  ·exact zBj g f a t
  ·exact h
theorem zkY (g:Int->List UInt8->Msg) (f:Fld) (i:Int):∀(l:List Th) (a:zbm),(accF g f i a l).2.1=false->accF g f i a l=a
 | [],a,h=>rfl
 | t::l,a,h=>by
  rw [accF] at h|-;split at h
  ·grind [ztN,zBj]
  ·rename_i ht;rw [xl ht];exact zkY g f i l a h
theorem zEP {s:List Mes} {d:Nat} {m:Mes} {f:Fld} {g:Int->List UInt8->Msg} {a:zbm} {t:Th} (ht:OkT s d m t) (hi:0<=t.fi) (hf:zr m t.fi=f) (hr:f.Repeated=false) (vD:f.Kind≠17):
  0<(stp g f a t).2.2.1.length+(stp g f a t).2.2.2.1.length:=by
 have vL:=ht.run hi;rw [hf] at vL;unfold stp;by_cases h1:t.run=true
 ·grind
 ·grind
theorem ztL {s:List Mes} {d:Nat} {m:Mes} {f:Fld} {g:Int->List UInt8->Msg} {i:Int} (hi:0<=i) (hf:zr m i=f) (hr:f.Repeated=false) (vD:f.Kind≠17):∀(l:List Th) (a:zbm),(∀t∈l,OkT s d m t)->
  (a.2.1=true->0<a.2.2.1.length+a.2.2.2.1.length)->(accF g f i a l).2.1=true->0<(accF g f i a l).2.2.1.length+(accF g f i a l).2.2.2.1.length
 | [],a,_,h,hm=>h hm
 | t::l,a,ht,h,hm=>by
  rw [accF] at hm|-;refine ztL hi hf hr vD l _ (fun x hx=>ht x (xo _ hx)) ?_ hm;split
  ·rename_i hti;exact fun _=>zEP (ht t xn) (by omega) (by rw [hti];exact hf) hr vD
  ·exact h
theorem znq {s:List Mes} (hs:zcI s):∀(N:Nat) (a z:List UInt8) (d k:Nat),a.length+z.length=N->k<s.length->zF s d k a=none->zF s d k z=none->ofM s k (a++z)=zhi s (ofM s k z) (ofM s k a) k:=by
 intro N
 induction N using Nat.strongRecOn with
 | _ N IH=>
  intro a z d k hN hk hva hvz;have hmm:zn s (k:Int)∈s:=by rw [zcf hk];exact xD hk
  have hvaz:=(zdx s d k z hva).2 hvz;have hra:=(zeV hs _ a d k rfl hk hva).1;have hrz:=(zeV hs _ z d k rfl hk hvz).1;have hraz:=(zeV hs _ (a++z) d k rfl hk hvaz).1;obtain ⟨j1,j2⟩:=zpt hra hrz;obtain ⟨_,_,ra,_,_⟩:=zaE hra;obtain ⟨_,_,rz,_,_⟩:=zaE hrz;obtain ⟨_,_,raz,_,_⟩:=zaE hraz;have hta:=zye hva;have htz:=zye hvz;have hwa:=zlQ (zn s (k:Int)) a;have hwz:=zlQ (zn s (k:Int)) z;have haz:=ztd hva hvz;have hvals:(ofM s k (a++z)).Values=(zhi s (ofM s k z) (ofM s k a) k).Values:=by
   refine zsj raz j1 fun n=>?_
   rw [j2 n];rw [zgH] at raz ra rz;rw [zgH s k (a++z),zgH s k z,zgH s k a,zmj hs hmm raz,zmj hs hmm rz,zmj hs hmm ra,haz]
   generalize zn s (k:Int)=m at hmm hta htz hwa hwz
   rcases zcK m n with ⟨hf,_⟩| ⟨j,hj,hf,hjn,_⟩
   ·grind
   ·rw [hf];have hj0:(0:Int)<=(j:Int):=by omega
    simp only [hj0,y6];have hfm:zr m (j:Int)∈m.Fields:=by rw [zbw hj];exact xD hj
    unfold ztf
    generalize hff:zr m (j:Int)=f at hfm
    have hsub:f.Kind=17->∀v:List UInt8,v.length+1<=N->∀e,zF s e f.Of v=none->zap s (ofM s f.Of v) f.Of=true/\dM (ofM s f.Of v)<=e:=fun vD v _ e he=>by
     have hof:=(hs.fld _ hmm f hfm).sub vD;obtain ⟨q,hq⟩:∃q:Nat,f.Of=q:=⟨f.Of.toNat,by omega⟩;rw [hq] at he|-;exact zeV hs v.length v e q rfl (by omega) he
    have ha1:=zqN (g:=ofM s) hj0 hff acc0 (ths m a) (zvb s d f) hta (fun t ht vD e he hv=>hsub vD _ (by have:=znG ht;omega) e hv);have hz1:=zqN (g:=ofM s) hj0 hff acc0 (ths m z) (zvb s d f) htz (fun t ht vD e he hv=>hsub vD _ (by have:=znG ht;omega) e hv);have hca:=zoY (ofM s) f j (accF (ofM s) f j acc0 (ths m a)) (ths m z) acc0;rw [zGP] at hca;rw [ziK,hca];have hma:=zkY (ofM s) f j (ths m a) acc0;have hmz:=zkY (ofM s) f j (ths m z) acc0;have hnz:=fun hr vD=>ztL (g:=ofM s) hj0 hff hr vD (ths m z) acc0 htz (fun hh=>nomatch hh)
    have hja:=(zne (ofM s) f j acc0 (ths m a)).2;have hjz:=(zne (ofM s) f j acc0 (ths m z)).2;have j0:wJ acc0=0:=rfl;rw [j0] at hja hjz
    generalize accF (ofM s) f j acc0 (ths m a)=q1 at ha1 hma hja
    generalize accF (ofM s) f j acc0 (ths m z)=q2 at hz1 hmz hnz hjz
    have e0:zaq (valO (ofM s) f acc0)=0:=by unfold zaq valO acc0;simp
    cases hm2:q2.2.1 with
    | false=>
     rw [hmz hm2,zGP,e0,xl (show ¬(0<0) by omega)]
    | true=>
     cases hr:f.Repeated with
     | true=>
      have v1:valO (ofM s) f q1=⟨f.Number,q1.2.2.1,q1.2.2.2.1,q1.2.2.2.2⟩:=by unfold valO;rw [xl (fun hh=>by rw [hr] at hh;cases hh.2.2)]
      have v2:valO (ofM s) f q2=⟨f.Number,q2.2.2.1,q2.2.2.2.1,q2.2.2.2.2⟩:=by unfold valO;rw [xl (fun hh=>by rw [hr] at hh;cases hh.2.2)]
      have v12:valO (ofM s) f (comb f q1 q2)=⟨f.Number,q1.2.2.1++q2.2.2.1,q1.2.2.2.1++q2.2.2.2.1,q1.2.2.2.2++q2.2.2.2.2⟩:=by
       unfold valO;rw [xl (fun hh=>by rw [hr] at hh;cases hh.2.2)];unfold comb;simp [hr]
      rw [v1,v2,v12];have nil2:∀(x y w:Nat),x+y+w=0->x=0/\y=0/\w=0:=by omega
      grind [zaq,zfe]
     | false=>
      have s1:=(ha1.one hr).2.2;have s2:=(hz1.one hr).2.2;by_cases vD:f.Kind=17
      ·have nw:∀q:zbm,zrk s d f q->q.2.2.1=[]/\q.2.2.2.1=[]:=fun q hq=>by
        constructor
        ·cases hw:q.2.2.1 with
         | nil=>rfl
         | cons w l=>
          have:=hq.words w (by rw [hw];exact xn);unfold zgo at this;rw [vD] at this;simp [kNum] at this
        ·cases hw:q.2.2.2.1 with
         | nil=>rfl
         | cons w l=>
          have:=hq.texts w (by rw [hw];exact xn);unfold zhI at this
          grind
       obtain ⟨a1,a2⟩:=nw q1 ha1;obtain ⟨z1,z2⟩:=nw q2 hz1;have v2:valO (ofM s) f q2=⟨f.Number,[],[],[ofM s f.Of q2.1]⟩:=by unfold valO;rw [xm ⟨hm2,vD,hr⟩,z1,z2]
       have m2:0<zaq (⟨f.Number,[],[],[ofM s f.Of q2.1]⟩:Vlu):=by simp [zaq]
       rw [v2,xm m2];simp only;cases hm1:q1.2.1 with
       | false=>
        grind [valO,comb,acc0,zfe]
       | true=>
        have v1:valO (ofM s) f q1=⟨f.Number,[],[],[ofM s f.Of q1.1]⟩:=by unfold valO;rw [xm ⟨hm1,vD,hr⟩,a1,a2]
        have v12:valO (ofM s) f (comb f q1 q2)=⟨f.Number,[],[],[ofM s f.Of (q1.1++q2.1)]⟩:=by
         unfold valO comb;simp [hm1,hm2,vD,hr,z1,z2]
        obtain ⟨e,he⟩:=hz1.met hm2 vD;have jv1:=ha1.join vD e he;have jv2:=hz1.join vD e he;rw [wJ,xm hm1] at hja;rw [wJ,xm hm2] at hjz;have hof:=(hs.fld _ hmm f hfm).sub vD;obtain ⟨q,hq⟩:∃q:Nat,f.Of=q:=⟨f.Of.toNat,by omega⟩;have hih:ofM s f.Of (q1.1++q2.1)=zhi s (ofM s f.Of q2.1) (ofM s f.Of q1.1) f.Of:=by
         grind
        rw [v1,v12,xm (by simp [zaq]),xm (by simp [zaq]),zfe];simp only;rw [xl (by rw [hr];simp),xm vD,zhB,hih]
      grind [valO,comb,zaq,zfe]
  grind [zbY,unkO,zim,zgH]
mutual
/-- Kept or left by ways. -/
def zor (s:List Mes):Msg->Int->List zW->Bool->Msg
 | ⟨vs,u⟩,k,w,keep=>⟨zgb s vs (zn s k) w keep,if keep=true then [] else u⟩
def zgb (s:List Mes):List Vlu->Mes->List zW->Bool->List Vlu
 | [],_,_,_=>[]
 | v::l,m,w,keep=>zsF s v (zr m (fldI m v.Number)) w keep++zgb s l m w keep
def zsF (s:List Mes):Vlu->Fld->List zW->Bool->List Vlu
 | ⟨n,a,t,sub⟩,f,w,keep=>if zkF w n=false/\zjo w n≠[]/\f.Kind=17/\f.Repeated=false then [⟨n,[],[],zlB s sub f.Of (zjo w n) keep⟩]
  else if zkF w n=keep then [⟨n,a,t,sub⟩] else []
def zlB (s:List Mes):List Msg->Int->List zW->Bool->List Msg
 | [],_,_,_=>[]
 | x::_,k,w,keep=>[zor s x k w keep]
end
theorem zsD (s:List Mes) (x:Msg) (k:Int) (w:List zW) (keep:Bool):zor s x k w keep=⟨zgb s x.Values (zn s k) w keep,if keep=true then [] else x.Unknown⟩:=by cases x;rw [zor]
theorem zos (s:List Mes) (v:Vlu) (f:Fld) (w:List zW) (keep:Bool):zsF s v f w keep=if zkF w v.Number=false/\zjo w v.Number≠[]/\f.Kind=17/\f.Repeated=false then [⟨v.Number,[],[],zlB s v.Subs f.Of (zjo w v.Number) keep⟩]
  else if zkF w v.Number=keep then [v] else []:=by cases v;rw [zsF]
theorem zCg (s:List Mes) (v:Vlu) (f:Fld) (w:List zW) (keep:Bool):(zsF s v f w keep).length<=1:=by
 rw [zos];split;simp;split<;>simp
theorem zzc (hv:zeD s v f) (ho:∀u,o=some u->zeD s u f)
  (ih:∀x∈v.Subs,∀y:Msg,zap s x f.Of=true->zap s y f.Of=true->zap s (zhi s x y f.Of) f.Of=true):zeD s (zej s v o f) f:=by
 have hm:=znp hv ho;rw [zfe] at hm|-;cases o with
 | none=>exact hv
 | some u=>
  have hu:=ho u rfl;simp only at hm|-;by_cases hr:f.Repeated=true
  ·rw [xm hr] at hm|-;refine ⟨hm,(fun h=>by rw [hr] at h;cases h),hv.kind,fun w hw=>?_,fun w hw=>?_,fun w hw=>?_⟩
   ·rcases xw.1 hw with hw| hw
    ·exact hu.words w hw
    ·exact hv.words w hw
   ·rcases xw.1 hw with hw| hw
    ·exact hu.texts w hw
    ·exact hv.texts w hw
   ·rcases xw.1 hw with hw| hw
    ·exact hu.subs w hw
    ·exact hv.subs w hw
  ·rw [xl hr] at hm|-;by_cases vD:f.Kind=17
   ·rw [xm vD] at hm|-;obtain ⟨x,hvx,hx⟩:=hv.msg vD (by simpa using hr);obtain ⟨y,huy,hy⟩:=hu.msg vD (by simpa using hr);have hvs:v.Subs=[x]:=by rw [hvx]
    have hus:u.Subs=[y]:=by rw [huy]
    rw [hvs,hus,zhB];refine ⟨by simp [zaq],(fun _=>by simp [zaq]),hv.kind,(fun w hw=>nomatch hw),(fun w hw=>nomatch hw),fun w hw=>?_⟩
    grind
   grind
theorem zqa :∀(N:Nat) (b a:Msg) (k:Int),szM b<=N->zap s a k=true->zap s b k=true->zap s (zhi s b a k) k=true
 | 0,b,a,k,h,_,_=>by rw [zbs] at h;omega
 | N+1,b,a,k,vO,ha,hb=>by
  obtain ⟨k0,k1,ra,ha',ua⟩:=zaE ha;obtain ⟨_,_,rb,hb',ub⟩:=zaE hb;obtain ⟨j1,j2⟩:=zpt ha hb;rw [zbs] at vO;refine zuJ k0 k1 j1 (fun v hv=>?_) fun u hu=>?_
  ·have hl:=zsk j1 hv;rw [j2] at hl;cases hbl:look b.Values v.Number with
   | none=>
    grind [zcV]
   | some w=>
    rw [hbl] at hl;simp only at hl;obtain ⟨wn,wm⟩:=zcV hbl;obtain ⟨w0,wf⟩:=hb' w wm;rw [wn] at w0 wf;have hfw:=zci wf;have s1:=zdh wm;rw [zdP] at s1;refine ⟨w0,zAn ?_⟩;have hvj:zej s w (look a.Values v.Number) (zr (zn s k) (fldI (zn s k) v.Number))=v:=qm hl;have:=zzc (o:=look a.Values v.Number) hfw (fun u hu=>by
     obtain ⟨un,um⟩:=zcV hu;have:=zci (ha' u um).2;rw [un] at this;exact this) fun x hx y hxr hyr=>by
      have:=zdg hx;exact zqa N x y _ (by omega) hyr hxr
    grind
  grind [zim]
mutual
def encM (s:List Mes):Msg->Int->List UInt8
 | ⟨vs,u⟩,k=>zbv s vs (zn s k)++u.flatten
def zbv (s:List Mes):List Vlu->Mes->List UInt8
 | [],_=>[]
 | v::l,m=>encV s v (zr m (fldI m v.Number))++zbv s l m
def encV (s:List Mes):Vlu->Fld->List UInt8
 | ⟨n,w,t,sub⟩,f=>if kNum f.Kind=true then (if f.Repeated=true then put5 f.Number 2 (w.flatMap (sPut f.Kind)) else put5 f.Number (zX f.Kind) (sPut f.Kind (w.headD 0))) else t.flatMap (put5 f.Number 2)++zeZ s sub f
def zeZ (s:List Mes):List Msg->Fld->List UInt8
 | [],_=>[]
 | x::l,f=>put5 f.Number 2 (encM s x f.Of)++zeZ s l f
end
theorem ziN (s:List Mes) (x:Msg) (k:Int):encM s x k=zbv s x.Values (zn s k)++x.Unknown.flatten:=by cases x;rw [encM]
theorem zfS (s:List Mes) (v:Vlu) (f:Fld):encV s v f=if kNum f.Kind=true then (if f.Repeated=true then put5 f.Number 2 (v.Words.flatMap (sPut f.Kind)) else put5 f.Number (zX f.Kind) (sPut f.Kind (v.Words.headD 0))) else v.Texts.flatMap (put5 f.Number 2)++zeZ s v.Subs f:=by cases v;rw [encV]
theorem zkh (s:List Mes) (m:Mes):∀(l k:List Vlu),zbv s (l++k) m=zbv s l m++zbv s k m
 | [],k=>by rw [xz,zbv,xz]
 | v::l,k=>by rw [yc,zbv,zbv,zkh s m l k,yj]
theorem znP (s:List Mes) (f:Fld):∀(l k:List Msg),zeZ s (l++k) f=zeZ s l f++zeZ s k f
 | [],k=>by rw [xz,zeZ,xz]
 | v::l,k=>by rw [yc,zeZ,zeZ,znP s f l k,yj]
theorem zvU {n w:Int} (h1:1<=n) (h2:n<=536870911) (hw:0<=w/\w<=7) {v:List UInt8} (hv:v.length<=1048576):(put5 n w v).length<=15+v.length:=by
 grind [tW,zfm,zFQ,zhz,zfg]
theorem zxf (k:Int):0<=zX k/\zX k<=7:=by unfold zX;split;omega;split;omega;split<;>omega
theorem zqb {k:Int} (hk:zaQ k=true) {n:Int} (h1:1<=n) (h2:n<=536870911):zba n (zX k)=true:=by
 grind [zX,zdi]
theorem zrN {k:Int}:∀{l:List Int},(∀w∈l,0<=w/\w<=18446744073709551615)->(l.flatMap (sPut k)).length<=10*l.length
 | [],_=>by simp
 | w::l,h=>by
  have h1:=zhp (k:=k) (h w xn);have h2:=zrN (k:=k) fun x hx=>h x (xo _ hx)
  grind
theorem zrP {n:Int} (h1:1<=n) (h2:n<=536870911):∀{l:List Str},(∀t∈l,t.length<=1048576)->(l.flatMap (put5 n 2)).length<=15*(l.map fun t=>1+t.length).sum
 | [],_=>by simp
 | t::l,h=>by
  have h3:=zvU h1 h2 (w:=2) (by omega) (h t xn);have h4:=zrP h1 h2 fun x hx=>h x (xo _ hx)
  grind
theorem zpX:∀(l:List Str),l.flatten.length<=(l.map fun t=>1+t.length).sum
 | []=>by simp
 | t::l=>by
  have:=zpX l
  grind
theorem zyY {l:List Int} (h:∀x∈l,0<=x/\x<=18446744073709551615):0<=l.headD 0/\l.headD 0<=18446744073709551615:=by
 cases l with
 | nil=>simp
 | cons x l=>exact h x xn
theorem ztU {s:List Mes} (hs:zcI s):∀(N:Nat),(∀(x:Msg) (k:Int),szM x<=N->bdM x->wgM x<=30000->zap s x k=true->(encM s x k).length+16<=32*wgM x)/\
  ∀(v:Vlu) (f:Fld),szV v<=N->bdV v->wgV v<=30000->1<=f.Number->f.Number<=536870911->zhf s v f=true->(encV s v f).length<=32*wgV v
 | 0=>⟨fun x k h=>by rw [zbs] at h;omega,fun v f h=>by rw [zdP] at h;omega⟩
 | N+1=>by
  obtain ⟨ih1,ih2⟩:=ztU hs N;refine ⟨fun x k vO hb hw hr=>?_,fun v f vO hb hw n1 n2 hf=>?_⟩
  ·obtain ⟨_,_,b4⟩:=(zif x).1 hb;rw [zbs] at vO;rw [ziH] at hw|-;obtain ⟨k0,k1,_,hv,_⟩:=zaE hr;rw [ziN];have hmm:zn s k∈s:=by
    obtain ⟨n,rfl⟩:∃n:Nat,k=n:=⟨k.toNat,by omega⟩;rw [zcf (by omega)];exact xD _
   generalize zn s k=m at hv hmm|-
   have hall:∀l:List Vlu,(∀v∈l,v∈x.Values)->(zbv s l m).length<=32*wgVs l:=by
    intro l
    induction l with
    | nil=>intro _;simp [zbv,wgVs]
    | cons v l ih=>
     intro hl;have hvm:=hl v xn;have i1:=ih fun w hw=>hl w (xo _ hw)
     have s1:=zdh hvm;have w1:=zoU hvm;obtain ⟨f0,hfit⟩:=hv v hvm;rcases zcK m v.Number with ⟨hf,_⟩| ⟨j,hj,hf,_⟩
     ·omega
     have hfm:zr m (fldI m v.Number)∈m.Fields:=by rw [hf,zbw hj];exact xD hj
     have hfo:=hs.fld _ hmm _ hfm;have:=ih2 v (zr m (fldI m v.Number)) (by omega) (zdu.1 b4 v hvm) (by omega) hfo.lo hfo.hi hfit;rw [zbv,wgVs,xt];omega
   grind [zpX]
  ·obtain ⟨_,⟨_,bw⟩,_,_,b5⟩:=(zfQ v).1 hb;rw [zdP] at vO;rw [zgS] at hw|-;have hfs:=zci hf;rw [zfS];by_cases hn:kNum f.Kind=true
   ·grind [zrN,zvU,zhp,zyY,zxf]
   ·rw [xl hn,xt];have hts:∀t∈v.Texts,t.length<=1048576:=fun t ht=>by have:=zoI ht;omega
    have h1:=zrP n1 n2 hts;have hall:∀l:List Msg,(∀x∈l,x∈v.Subs)->(zeZ s l f).length<=32*wgMs l:=by
     intro l
     induction l with
     | nil=>intro _;simp [zeZ,wgMs]
     | cons x l ih=>
      intro hl;have hxm:=hl x xn;have i1:=ih fun w hw=>hl w (xo _ hw)
      have s1:=zdg hxm;have w1:=ziI hxm;have h3:=ih1 x f.Of (by omega) (zdJ.1 b5 x hxm) (by omega) (hfs.subs x hxm).2;have h4:=zvU n1 n2 (w:=2) (by omega) (v:=encM s x f.Of) (by omega);rw [zeZ,wgMs,xt];omega
    grind
theorem znk (s:List Mes) (m:Mes):∀(l:List Vlu),zbv s l m=l.flatMap fun v=>encV s v (zr m (fldI m v.Number))
 | []=>by rw [zbv];rfl
 | v::l=>by rw [zbv,znk s m l,xC]
theorem znj (s:List Mes) (f:Fld):∀(l:List Msg),zeZ s l f=l.flatMap fun x=>put5 f.Number 2 (encM s x f.Of)
 | []=>by rw [zeZ];rfl
 | v::l=>by rw [zeZ,znj s f l,xC]
structure zpP (s:List Mes) (d:Nat) (k:Int) (p:List UInt8) (t:Th):Prop where
 ok:zF s d k p=none
 th:ths (zn s k) p=[t]
theorem pieces {s:List Mes} {d:Nat} {k:Int}:∀{ps:List (List UInt8×Th)},(∀p∈ps,zpP s d k p.1 p.2)->zF s d k (ps.flatMap (·.1))=none/\ths (zn s k) (ps.flatMap (·.1))=ps.map (·.2)
 | [],_=>by
  grind [zlc,zjk,zcS]
 | p::ps,h=>by
  obtain ⟨h1,h2⟩:=pieces fun q hq=>h q (xo _ hq)
  have hp:=h p xn;rw [xC];refine ⟨(zdx s d k _ hp.ok).2 h1,?_⟩;rw [ztd hp.ok h1,hp.th,h2];rfl
theorem zmo {s:List Mes} {d:Nat} {k:Int} {n w:Int} {v:List UInt8} (hr:zba n w=true) (hf:zaW w v=true) (hv:v.length<=1048576) {i:Int} {run:Bool} (hvw:vw (zn s k) n w= .inr (i,run)) (hi:0<=i)
  (hl:∀r:Rec,r.At=((put5 n w v).length - v.length:Nat)->r.From=0->zfq (zr (zn s k) i) run (zxZ s d) r v=none):zpP s d k (put5 n w v) ⟨i,run,v,put5 n w v⟩:=by
 have hsp:=zGx hr hf hv;have vF:v.length<=(put5 n w v).length:=by rw [zfg];omega
 have hval:valB (put5 n w v) ⟨n,w,0,(((put5 n w v).length - v.length:Nat):Int),((put5 n w v).length:Int)⟩=v:=by
  unfold valB;simp only [xA];rw [show (put5 n w v).length - ((put5 n w v).length - v.length)=v.length by omega];have e:(put5 n w v).drop ((put5 n w v).length - v.length)=v:=by
   have:put5 n w v=(enc (tW n w)++(if w=2 then enc v.length else []))++v:=rfl;have e2:(put5 n w v).length - v.length=(enc (tW n w)++(if w=2 then enc v.length else [])).length:=by rw [this,xt];omega
   grind
  grind
 have hraw:rawB (put5 n w v) ⟨n,w,0,(((put5 n w v).length - v.length:Nat):Int),((put5 n w v).length:Int)⟩=put5 n w v:=by
  unfold rawB;simp
 have vH:zF s d k (put5 n w v)=none:=by
  grind [zcm,zdD,zbx]
 refine ⟨vH,?_⟩;rw [zjk vH,hsp,qF];unfold thR;have e:vwG (zn s k) ⟨n,w,0,(((put5 n w v).length - v.length:Nat):Int),((put5 n w v).length:Int)⟩=(i,run):=by unfold vwG;simp only [hvw]
 rw [e,hval,hraw]
theorem zCi {s:List Mes} {d:Nat} {k:Int} {u:List UInt8} (h:unkR (zn s k) u=true):∃t,zpP s d k u t/\t.fi<0/\t.raw=u:=by
 unfold unkR at h;simp only [xp,qW,xP] at h;obtain ⟨⟨h1,h2⟩,h3⟩:=h;unfold zcg at h1 h2 h3;by_cases hu:(0:Int)<0\/(0:Int)>=u.length
 ·grind
 ·rw [xl hu] at h1 h2 h3;simp only [Int.toNat_zero,yq] at h1 h2 h3;rcases zfr u with ⟨c,hc,hcc⟩| ⟨n,w,kk,a,t,hc,_,hr,_,g1,g2,g3,g4,g5,_⟩
  ·grind
  ·rw [hc] at h2 h3;simp only at h2 h3;have ht:t=u.length:=by omega
   have vR:u≠[]:=fun e=>by subst e;simp at hu
   have hsp:spl 0 u=([⟨n,w,((0:Nat):Int),((0+a:Nat):Int),((0+t:Nat):Int)⟩],none):=by
    rw [zbO vR hc,ht,qY,zcS]
   have hvw:vw (zn s k) n w= .inr (-1,false):=by
    unfold vw;rw [xm h3]
   have vH:zF s d k u=none:=by
    grind [zcm,zdD,zbx]
   refine ⟨thR (zn s k) u ⟨n,w,((0:Nat):Int),((0+a:Nat):Int),((0+t:Nat):Int)⟩,⟨vH,by rw [zjk vH,hsp,qF]⟩,?_,?_⟩
   ·unfold thR vwG;simp only [hvw];omega
   ·unfold thR rawB;simp only [ht];simp
def pcsV (s:List Mes) (f:Fld) (i:Int) (v:Vlu):List (List UInt8×Th):=
 if kNum f.Kind=true then (if f.Repeated=true then [(put5 f.Number 2 (v.Words.flatMap (sPut f.Kind)),⟨i,true,v.Words.flatMap (sPut f.Kind),put5 f.Number 2 (v.Words.flatMap (sPut f.Kind))⟩)]
  else [(put5 f.Number (zX f.Kind) (sPut f.Kind (v.Words.headD 0)),⟨i,false,sPut f.Kind (v.Words.headD 0),put5 f.Number (zX f.Kind) (sPut f.Kind (v.Words.headD 0))⟩)])
 else v.Texts.map (fun t=>(put5 f.Number 2 t,⟨i,false,t,put5 f.Number 2 t⟩))++v.Subs.map (fun x=>(put5 f.Number 2 (encM s x f.Of),⟨i,false,encM s x f.Of,put5 f.Number 2 (encM s x f.Of)⟩))
theorem zEk (s:List Mes) (f:Fld) (i:Int) (v:Vlu):(pcsV s f i v).flatMap (·.1)=encV s v f:=by
 unfold pcsV;rw [zfS];split
 ·split<;>simp
 ·rw [yw,znj,qG,qG]
theorem zvR (s:List Mes) (f:Fld) (i:Int) (v:Vlu):∀p∈pcsV s f i v,p.2.fi=i:=by
 grind [pcsV]
theorem zpC {f:Fld} {w:Int} (h:zgo f w=true) (hr:0<=w/\w<=18446744073709551615):kNum f.Kind=true/\zcT f.Kind (sPut f.Kind w)=w/\(zjQ f.Kind (sPut f.Kind w)).1=w/\zaW (zX f.Kind) (sPut f.Kind w)=true:=by
 unfold zgo at h;simp only [xp,qW] at h;obtain ⟨h1,h2⟩:=h;have hc:=zeE f.Kind hr;have hfit:zaW (zX f.Kind) (sPut f.Kind w)=true:=zqo h1 (by omega)
 grind [zzD,zhq]
theorem zzV {f:Fld} (hk:kNum f.Kind=true) {l:List Int} (h:∀w∈l,zgo f w=true) (hr:∀w∈l,0<=w/\w<=18446744073709551615):zZ f.Kind (l.flatMap (sPut f.Kind))=(l,0):=by
 unfold zZ;rw [xl (by rw [hk];simp),zot hk l hr,xm rfl,yK];have e:l.map (zcT f.Kind∘sPut f.Kind)=l:=by
  have:l.map (zcT f.Kind∘sPut f.Kind)=l.map id:=yT fun w hw=>(zpC (h w hw) (hr w hw)).2.1
  simp_all
 rw [e]
theorem zrL (v:List UInt8):zaW 2 v=true:=by unfold zaW;rw [xl (by omega)];simp
theorem zGm {s:List Mes} {d:Nat} {k:Int} {f:Fld} {i:Int} {v:Vlu} (hi:0<=i) (hf:zr (zn s k) i=f) (hn:fldI (zn s k) f.Number=i) (n1:1<=f.Number) (n2:f.Number<=536870911) (hfs:zeD s v f)
  (hw:∀w∈v.Words,0<=w/\w<=18446744073709551615) (hwl:v.Words.length<=30000) (ht:∀t∈v.Texts,t.length<=1048576)
  (hx:∀x∈v.Subs,(encM s x f.Of).length<=1048576/\∃e,d=e+1/\zF s e f.Of (encM s x f.Of)=none):∀p∈pcsV s f i v,zpP s d k p.1 p.2:=by
 intro p hp;have t2:zba f.Number 2=true:=zdi.2 ⟨n1,n2,.inr (.inr (.inl rfl))⟩;unfold pcsV at hp;by_cases hk:kNum f.Kind=true
 ·rw [xm hk] at hp;by_cases hr:f.Repeated=true
  ·rw [xm hr] at hp;rw [x9.1 hp];have hvw:vw (zn s k) f.Number 2= .inr (i,true):=by
    unfold vw
    grind
   have h1:=zrN (k:=f.Kind) hw;refine zmo t2 (zrL _) (by omega) hvw hi fun r _ _=>?_
   unfold zfq
   grind [zkG,zot]
  ·rw [xl hr] at hp;rw [x9.1 hp];have hone:=hfs.one (by simpa using hr);have hnt:=hfs.noTexts (by have:=zeU hk;omega);have hns:=hfs.noSubs (zeU hk).1;unfold zaq at hone;rw [hnt,hns] at hone;simp only [yn,yr] at hone;obtain ⟨w,hwd⟩:∃w,v.Words=[w]:=pu.1 hone;have hwr:=hw w (by rw [hwd];exact xn);have hc:=zpC (hfs.words w (by rw [hwd];exact xn)) hwr;rw [hwd];show zpP s d k (put5 f.Number (zX f.Kind) (sPut f.Kind w)) ⟨i,false,sPut f.Kind w,put5 f.Number (zX f.Kind) (sPut f.Kind w)⟩;have hvw:vw (zn s k) f.Number (zX f.Kind)= .inr (i,false):=by
    unfold vw;rw [hn,xl (by omega),hf,xl (fun hh=>hr hh.1),xl (fun hh=>by rw [hfs.kind] at hh;rcases hh with hh| hh;cases hh;exact hh rfl)]
   have h1:=zhp (k:=f.Kind) hwr;refine zmo (zqb hfs.kind n1 n2) hc.2.2.2 (by omega) hvw hi fun r _ _=>?_
   unfold zfq
   grind [zeU]
 ·rw [xl hk] at hp;have hkk:zX f.Kind=2:=by
   have h1:¬(1<=f.Kind/\f.Kind<=14):=fun hh=>hk (zdc.2 hh)
   have h2:1<=f.Kind/\f.Kind<=17:=by simpa [zaQ] using hfs.kind
   unfold zX;rw [xm (by omega)]
  have hvw:vw (zn s k) f.Number 2= .inr (i,false):=by
   unfold vw;rw [hn,xl (by omega),hf,xl (fun hh=>hk hh.2.1),xl (fun hh=>by rw [hfs.kind,hkk] at hh;rcases hh with hh| hh;cases hh;exact hh rfl)]
  rcases xw.1 hp with hp| hp
  ·obtain ⟨t,htm,rfl⟩:=xu.1 hp;refine zmo t2 (zrL _) (ht t htm) hvw hi fun r _ _=>?_
   have htr:=hfs.texts t htm;unfold zhI at htr;unfold zfq
   grind
  ·obtain ⟨x,hxm,rfl⟩:=xu.1 hp;obtain ⟨x1,e,he,hv⟩:=hx x hxm;have vD:=(hfs.subs x hxm).1;refine zmo t2 (zrL _) x1 hvw hi fun r _ _=>?_
   unfold zfq;rw [xl (by simp),hf,xl (fun hh=>by rw [vD] at hh;cases hh.1),xm vD,he];simp only [zxZ,hv]
theorem zlZ {g:Int->List UInt8->Msg} {f:Fld} {i:Int}:∀{l:List Th} {a:zbm},(∀t∈l,t.fi≠i)->accF g f i a l=a
 | [],a,_=>rfl
 | t::l,a,h=>by
  rw [accF,xl (h t xn),zlZ fun x hx=>h x (xo _ hx)]
theorem zrr {g:Int->List UInt8->Msg} {f:Fld} {i:Int} (hr:f.Repeated=true) (hk:kNum f.Kind=false) (vD:f.Kind≠17) {raw:Str->List UInt8}:∀(ts:List Str) (a:zbm),∃b,accF g f i a (ts.map fun t=>⟨i,false,t,raw t⟩)=(a.1,b,a.2.2.1,a.2.2.2.1++ts,a.2.2.2.2)
 | [],a=>⟨a.2.1,by simp [accF]⟩
 | t::ts,a=>by
  obtain ⟨b,hb⟩:=zrr (raw:=raw) hr hk vD ts (stp g f a ⟨i,false,t,raw t⟩);refine ⟨b,?_⟩;rw [xG,accF,xm rfl,hb];unfold stp
  grind
theorem ztM {g:Int->List UInt8->Msg} {f:Fld} {i:Int} (hr:f.Repeated=true) (vD:f.Kind=17) {e:Msg->List UInt8} {raw:Msg->List UInt8}:∀(xs:List Msg) (a:zbm),(∀x∈xs,g f.Of (e x)=x)->∃b,accF g f i a (xs.map fun x=>⟨i,false,e x,raw x⟩)=(a.1,b,a.2.2.1,a.2.2.2.1,a.2.2.2.2++xs)
 | [],a,_=>⟨a.2.1,by simp [accF]⟩
 | x::xs,a,h=>by
  obtain ⟨b,hb⟩:=ztM (raw:=raw) hr vD xs (stp g f a ⟨i,false,e x,raw x⟩) fun y hy=>h y (xo _ hy)
  refine ⟨b,?_⟩;have hk:kNum 17=false:=rfl;rw [xG,accF,xm rfl,hb];unfold stp
  grind
theorem zCL {s:List Mes} {g:Int->List UInt8->Msg} {f:Fld} {i:Int} {v:Vlu} (hfs:zeD s v f) (hn:v.Number=f.Number) (hw:∀w∈v.Words,0<=w/\w<=18446744073709551615) (hg:∀x∈v.Subs,g f.Of (encM s x f.Of)=x):
  valO g f (accF g f i acc0 ((pcsV s f i v).map (·.2)))=v:=by
 unfold pcsV;by_cases hk:kNum f.Kind=true
 ·rw [xm hk];have hnt:=hfs.noTexts (by have:=zeU hk;omega);have hns:=hfs.noSubs (zeU hk).1;have vD:=(zeU hk).1;by_cases hr:f.Repeated=true
  ·rw [xm hr,qF,accF,accF,xm rfl];unfold stp;simp only [yf,hr];rw [zzV hk hfs.words hw];unfold valO acc0;simp only [xz];rw [xl (fun hh=>vD hh.2.1),<-hn];obtain ⟨n,w,t,sub⟩:=v
   grind
  ·rw [xl hr,qF,accF,accF,xm rfl];have hone:=hfs.one (by simpa using hr);unfold zaq at hone;rw [hnt,hns] at hone;simp only [yn,yr] at hone;obtain ⟨w,hwd⟩:∃w,v.Words=[w]:=pu.1 hone;have hc:=zpC (hfs.words w (by rw [hwd];exact xn)) (hw w (by rw [hwd];exact xn));unfold stp;rw [xl (by simp),xm hk,xl hr,xl hr,hwd];unfold valO acc0;simp only [xz,qQ];rw [xl (fun hh=>vD hh.2.1),hc.2.2.1,<-hn];obtain ⟨n,w',t,sub⟩:=v
   grind
 ·have hk':kNum f.Kind=false:=by simpa using hk
  rw [xl hk];have hnw:=hfs.noWords hk';by_cases vD:f.Kind=17
  ·have hnt:=hfs.noTexts (by omega);rw [hnt,yA,xz,yK];by_cases hr:f.Repeated=true
   ·obtain ⟨b,hb⟩:=ztM (g:=g) (i:=i) (e:=fun x=>encM s x f.Of) (raw:=fun x=>put5 f.Number 2 (encM s x f.Of)) hr vD v.Subs acc0 hg;have hb':accF g f i acc0 (List.map ((fun x:List UInt8×Th=>x.2)∘fun x=>(put5 f.Number 2 (encM s x f.Of),(⟨i,false,encM s x f.Of,put5 f.Number 2 (encM s x f.Of)⟩:Th))) v.Subs)=_:=hb;rw [hb'];unfold valO acc0;simp only [xz];rw [xl (fun hh=>by rw [hr] at hh;cases hh.2.2),<-hn];obtain ⟨n,w,t,sub⟩:=v
    grind
   ·have hr':f.Repeated=false:=by simpa using hr
    obtain ⟨x,hv,hx⟩:=hfs.msg vD hr';have hsub:v.Subs=[x]:=by rw [hv]
    have hgx:=hg x (by rw [hsub];exact xn);have e17:kNum 17=false:=rfl;rw [hsub,qF];show valO g f (accF g f i acc0 [⟨i,false,encM s x f.Of,put5 f.Number 2 (encM s x f.Of)⟩])=v;rw [accF,accF,xm rfl];unfold stp valO acc0
    grind
  ·have hns:=hfs.noSubs vD;rw [hns,yA,xS,yK];by_cases hr:f.Repeated=true
   ·obtain ⟨b,hb⟩:=zrr (g:=g) (i:=i) (raw:=fun t=>put5 f.Number 2 t) hr hk' vD v.Texts acc0;have hb':accF g f i acc0 (List.map ((fun x:List UInt8×Th=>x.2)∘fun t=>(put5 f.Number 2 t,(⟨i,false,t,put5 f.Number 2 t⟩:Th))) v.Texts)=_:=hb;rw [hb'];unfold valO acc0;simp only [xz];rw [xl (fun hh=>vD hh.2.1),<-hn];obtain ⟨n,w,t,sub⟩:=v
    grind
   ·have hr':f.Repeated=false:=by simpa using hr
    have hone:=hfs.one hr';unfold zaq at hone;rw [hnw,hns] at hone;simp only [yn,yr,xJ] at hone;obtain ⟨t,htd⟩:∃t,v.Texts=[t]:=pu.1 hone;rw [htd,qF];show valO g f (accF g f i acc0 [⟨i,false,t,put5 f.Number 2 t⟩])=v;rw [accF,accF,xm rfl];unfold stp valO acc0;simp [vD,hk',hr'];obtain ⟨n,w,t',sub⟩:=v
    grind
theorem zte {s:List Mes} {d:Nat} {k:Int}:∀{us:List Str},(∀u∈us,unkR (zn s k) u=true)->∃ps:List (List UInt8×Th),(∀p∈ps,zpP s d k p.1 p.2/\p.2.fi<0/\p.2.raw=p.1)/\ps.map (·.1)=us
 | [],_=>⟨[],(fun p hp=>nomatch hp),rfl⟩
 | u::us,h=>by
  obtain ⟨t,h1,h2,h3⟩:=zCi (d:=d) (h u xn);obtain ⟨ps,h4,h5⟩:=zte (d:=d) fun x hx=>h x (xo _ hx)
  refine ⟨(u,t)::ps,fun p hp=>?_,by rw [xG,h5]⟩
  grind
theorem zwN {m:Mes} {a b:Int} (ha:0<=fldI m a) (h:fldI m a=fldI m b):a=b:=by
 grind [zcK]
theorem ztO {s:List Mes} {g:Int->List UInt8->Msg} {m:Mes} {n:Int} (hj:0<=fldI m n):∀{l:List Vlu},zck l->(∀v∈l,0<=fldI m v.Number)->
  accF g (zr m (fldI m n)) (fldI m n) acc0 ((l.flatMap fun v=>pcsV s (zr m (fldI m v.Number)) (fldI m v.Number) v).map (·.2))=match look l n with
   | some v=>accF g (zr m (fldI m n)) (fldI m n) acc0 ((pcsV s (zr m (fldI m n)) (fldI m n) v).map (·.2))
   | none=>acc0
 | [],_,_=>rfl
 | v::l,hr,hp=>by
  obtain ⟨r1,r2⟩:=xQ.1 hr;rw [xC,ql,ziK,zby];by_cases hv:v.Number=n
  ·rw [xm hv,hv];refine zlZ fun t ht=>?_
   obtain ⟨p,hp',rfl⟩:=xu.1 ht
   grind [zvR,zwN]
  ·rw [xl hv];have:accF g (zr m (fldI m n)) (fldI m n) acc0 ((pcsV s (zr m (fldI m v.Number)) (fldI m v.Number) v).map (·.2))=acc0:=by
    refine zlZ fun t ht=>?_
    obtain ⟨p,hp',rfl⟩:=xu.1 ht
    grind [zvR,zwN]
   rw [this];exact ztO hj r2 fun u hu=>hp u (xo _ hu)
theorem zpU {s:List Mes} (hs:zcI s):∀(N:Nat) (x:Msg) (k:Int) (d:Nat),szM x<=N->bdM x->wgM x<=30000->zap s x k=true->dM x<=d->zF s d k (encM s x k)=none/\ofM s k (encM s x k)=x
 | 0,x,k,d,h,_,_,_,_=>by rw [zbs] at h;omega
 | N+1,x,k,d,vO,hb,hw,hr,hd=>by
  obtain ⟨b1,⟨b2,_⟩,b4⟩:=(zif x).1 hb;have hsz':=vO;rw [zbs] at hsz';have hw':=hw;rw [ziH] at hw';rw [zAh] at hd;obtain ⟨k0,k1,hrise,hv,hu⟩:=zaE hr;obtain ⟨n0,rfl⟩:∃n:Nat,k=n:=⟨k.toNat,by omega⟩;have hn0:n0<s.length:=by omega
  have hmm:zn s (n0:Int)∈s:=by rw [zcf hn0];exact xD hn0
  obtain ⟨ups,hup,hue⟩:=zte (d:=d) hu
  -- what is vS of each value
  have hval:∀v∈x.Values,(∀p∈pcsV s (zr (zn s (n0:Int)) (fldI (zn s (n0:Int)) v.Number)) (fldI (zn s (n0:Int)) v.Number) v,zpP s d n0 p.1 p.2)/\
    (∀y∈v.Subs,ofM s (zr (zn s (n0:Int)) (fldI (zn s (n0:Int)) v.Number)).Of (encM s y (zr (zn s (n0:Int)) (fldI (zn s (n0:Int)) v.Number)).Of)=y):=fun v hvm=>by
   obtain ⟨f0,hfit⟩:=hv v hvm;have hfs:=zci hfit;have hbv:=zdu.1 b4 v hvm;obtain ⟨_,⟨_,bw⟩,_,_,b5⟩:=(zfQ v).1 hbv;have s1:=zdh hvm;have w1:=zoU hvm;have d1:=zqP hvm;rw [zdP] at s1;rw [zgS] at w1;rw [zwG] at d1;rcases zcK (zn s (n0:Int)) v.Number with ⟨hf,_⟩| ⟨j,hj,hf,hjn,_⟩
   ·omega
   have hfm:zr (zn s (n0:Int)) (fldI (zn s (n0:Int)) v.Number)∈(zn s (n0:Int)).Fields:=by rw [hf,zbw hj];exact xD hj
   have hfo:=hs.fld _ hmm _ hfm;have hnum:(zr (zn s (n0:Int)) (fldI (zn s (n0:Int)) v.Number)).Number=v.Number:=by rw [hf,zbw hj];exact hjn
   have hsub:∀y∈v.Subs,(encM s y (zr (zn s (n0:Int)) (fldI (zn s (n0:Int)) v.Number)).Of).length<=1048576/\(∃e,d=e+1/\zF s e (zr (zn s (n0:Int)) (fldI (zn s (n0:Int)) v.Number)).Of (encM s y (zr (zn s (n0:Int)) (fldI (zn s (n0:Int)) v.Number)).Of)=none)/\
     ofM s (zr (zn s (n0:Int)) (fldI (zn s (n0:Int)) v.Number)).Of (encM s y (zr (zn s (n0:Int)) (fldI (zn s (n0:Int)) v.Number)).Of)=y:=fun y hy=>by
    have s2:=zdg hy;have w2:=ziI hy;have d2:=zvs hy;have hyr:=(hfs.subs y hy).2;have hby:=zdJ.1 b5 y hy;have hle:=(ztU hs (szM y)).1 y _ (xr _) hby (by omega) hyr;obtain ⟨c1,c2⟩:=zpU hs N y _ (d - 1) (by omega) hby (by omega) hyr (by omega);exact ⟨by omega,⟨d - 1,by omega,c1⟩,c2⟩
   refine ⟨zGm f0 rfl (by rw [hnum]) hfo.lo hfo.hi hfs bw (by omega) (fun t ht=>by have:=zoI ht;omega) (fun y hy=>⟨(hsub y hy).1,(hsub y hy).2.1⟩),fun y hy=>(hsub y hy).2.2⟩
  have hall:∀p∈(x.Values.flatMap fun v=>pcsV s (zr (zn s (n0:Int)) (fldI (zn s (n0:Int)) v.Number)) (fldI (zn s (n0:Int)) v.Number) v)++ups,zpP s d n0 p.1 p.2:=fun p hp=>by
   grind
  obtain ⟨p1,p2⟩:=pieces hall;have henc:((x.Values.flatMap fun v=>pcsV s (zr (zn s (n0:Int)) (fldI (zn s (n0:Int)) v.Number)) (fldI (zn s (n0:Int)) v.Number) v)++ups).flatMap (·.1)=encM s x n0:=by
   rw [ziN,znk,yw,List.flatMap_assoc]
   grind [zEk]
  rw [henc] at p1 p2;refine ⟨p1,?_⟩;have hmr:=(zeV hs _ (encM s x n0) d n0 rfl hn0 p1).1;obtain ⟨_,_,hrise2,_,_⟩:=zaE hmr;have hvals:(ofM s n0 (encM s x n0)).Values=x.Values:=by
   refine zsj hrise2 hrise fun n=>?_
   rw [zgH] at hrise2|-;rw [zmj hs hmm hrise2,p2];by_cases hj:0<=fldI (zn s (n0:Int)) n
   ·have ha:=ztO (s:=s) (g:=ofM s) hj hrise fun v hvm=>(hv v hvm).1
    have hskip:accF (ofM s) (zr (zn s (n0:Int)) (fldI (zn s (n0:Int)) n)) (fldI (zn s (n0:Int)) n) acc0 (((x.Values.flatMap fun v=>pcsV s (zr (zn s (n0:Int)) (fldI (zn s (n0:Int)) v.Number)) (fldI (zn s (n0:Int)) v.Number) v)++ups).map (·.2))=accF (ofM s) (zr (zn s (n0:Int)) (fldI (zn s (n0:Int)) n)) (fldI (zn s (n0:Int)) n) acc0 ((x.Values.flatMap fun v=>pcsV s (zr (zn s (n0:Int)) (fldI (zn s (n0:Int)) v.Number)) (fldI (zn s (n0:Int)) v.Number) v).map (·.2)):=by
     grind [ziK,zlZ]
    unfold ztf;rw [hskip,ha];cases hlk:look x.Values n with
    | none=>
     grind [zaq,valO,acc0]
    | some v=>
     obtain ⟨hvn,hvm⟩:=zcV hlk;have hfit:=zci (hv v hvm).2;have hsub:=(hval v hvm).2;rw [hvn] at hfit hsub;have hbv:=zdu.1 b4 v hvm;obtain ⟨_,⟨_,bw⟩,_,_,_⟩:=(zfQ v).1 hbv;have hnum:v.Number=(zr (zn s (n0:Int)) (fldI (zn s (n0:Int)) n)).Number:=by
      grind [zcK,zbw]
     simp only;rw [zCL hfit hnum bw hsub,xm ⟨hj,hfit.many⟩]
   ·rw [xl (fun hh=>hj hh.1)];cases hlk:look x.Values n with
    | none=>rfl
    | some v=>
     obtain ⟨hvn,hvm⟩:=zcV hlk
     grind
  have hunk:(ofM s n0 (encM s x n0)).Unknown=x.Unknown:=by
   rw [zgH,p2];unfold zbY unkO;simp only;rw [ql,List.filter_append,ql];have e1:((x.Values.flatMap fun v=>pcsV s (zr (zn s (n0:Int)) (fldI (zn s (n0:Int)) v.Number)) (fldI (zn s (n0:Int)) v.Number) v).map (·.2)).filter (fun t=>decide (t.fi<0))=[]:=by
    rw [List.filter_eq_nil_iff];intro t ht;obtain ⟨p,hp,rfl⟩:=xu.1 ht
    grind [zvR]
   have e2:(ups.map (·.2)).filter (fun t=>decide (t.fi<0))=ups.map (·.2):=by
    rw [List.filter_eq_self]
    grind
   rw [e1,e2,yA,xz,yK,<-hue];exact yT fun p hp=>(hup p hp).2.2
  generalize ofM s n0 (encM s x n0)=y at hvals hunk
  cases x;cases y
  grind
theorem zIz {m:Mes} {e:Option (Nat×Int)} (b:List UInt8):∀(base:Nat) (l:List UInt8),l=b.drop base->base<=b.length->(((vws m e (spl base l).1).1.map (thOf b)).map fun t=>t.raw.length).sum<=l.length:=by
 intro base l;refine zfp (fun base l=>l=b.drop base->base<=b.length->(((vws m e (spl base l).1).1.map (thOf b)).map fun t=>t.raw.length).sum<=l.length) ?_ ?_ ?_ base l
 ·intro base _ _;rw [zcS];simp [vws]
 ·intro base l c hl h _ _ _;rw [zeC hl h];simp [vws]
 ·intro base l n w a t hl h _ g1 g2 g3 ih hld hbase;have vF:l.length=b.length - base:=by rw [hld];simp
  have ih':=ih (by rw [hld,ym]) (by omega);rw [zbO hl h,vws];cases hv:vw m n w with
  | inl c=>simp
  | inr p=>
   simp only [xG,qq,thOf,xT] at ih'|-
   grind [rawB]
theorem zIv (m:Mes) (b:List UInt8):((ths m b).map fun t=>t.raw.length).sum<=b.length:=by
 grind [ths,zaD,vwR,sb,wrap_i64,zIz]
theorem zGA (m:Mes) (b:List UInt8):∀t∈ths m b,t.val.length+1<=t.raw.length:=by
 intro t ht;unfold ths at ht;obtain ⟨r,hr,rfl⟩:=xu.1 ht;obtain ⟨h1,h2,h3,h4⟩:=zCQ hr;show (valB b r.R).length+1<=(rawB b r.R).length;unfold valB rawB;simp;omega
def ri (i:Int):List Th->Nat
 | []=>0
 | t::l=>(if t.fi=i then 2*t.raw.length else 0)+ri i l
def ru:List Th->Nat
 | []=>0
 | t::l=>(if t.fi<0 then 2*t.raw.length else 0)+ru l
theorem zBm (x:Int) (y:Nat):∀(o:List Int),o.Nodup->(o.map fun i=>if x=i then y else 0).sum<=y/\(x∉o->(o.map fun i=>if x=i then y else 0).sum=0)
 | [],_=>by simp
 | i::o,h=>by
  obtain ⟨h1,h2⟩:=pn.1 h;obtain ⟨i1,i2⟩:=zBm x y o h2
  grind
theorem zBl (f g:Int->Nat):∀(o:List Int),(o.map fun i=>f i+g i).sum=(o.map f).sum+(o.map g).sum
 | []=>rfl
 | i::o=>by simp only [xG,qq,zBl f g o];omega
theorem zEu {o:List Int} (hd:o.Nodup) (h0:∀i∈o,0<=i):∀(l:List Th),(o.map fun i=>ri i l).sum+ru l<=2*(l.map fun t=>t.raw.length).sum
 | []=>by
  have:(o.map fun _=>(0:Nat)).sum=0:=by
   clear hd h0
   induction o with
   | nil=>rfl
   | cons i o ih=>rw [xG,qq,ih]
  have e:(o.map fun i=>ri i [])=o.map fun _=>(0:Nat):=yT fun i _=>rfl
  rw [e,this];simp [ru]
 | t::l=>by
  have ih:=zEu hd h0 l;have e:(o.map fun i=>ri i (t::l))=o.map fun i=>(if t.fi=i then 2*t.raw.length else 0)+ri i l:=rfl
  obtain ⟨s1,s2⟩:=zBm t.fi (2*t.raw.length) o hd;rw [e,zBl,ru,xG,qq]
  grind
theorem zqv:∀(a b:List Msg),wgMs (a++b)=wgMs a+wgMs b
 | [],b=>by simp [wgMs]
 | x::a,b=>by rw [yc,wgMs,wgMs,zqv a b];omega
def wv (a:zbm):Nat:=a.2.2.1.length+(a.2.2.2.1.map fun t=>1+t.length).sum+wgMs a.2.2.2.2+2*a.1.length
theorem zIn {g:Int->List UInt8->Msg} {f:Fld} {t:Th} (hg:f.Kind=17->wgM (g f.Of t.val)<=2*t.val.length+1) {c:Nat} (hc:c<=1\/c=2/\f.Kind=17/\f.Repeated=false) (a:zbm):wv (stp g f a t)+c<=wv a+(2*t.val.length+2):=by
 have h1:(if f.Repeated=true then a.2.2.1 else []).length<=a.2.2.1.length:=by split<;>simp
 have h2:((if f.Repeated=true then a.2.2.2.1 else []).map fun t=>1+t.length).sum<=(a.2.2.2.1.map fun t=>1+t.length).sum:=by split<;>simp
 have h3:=zuX f.Kind t.val;have h4:kNum f.Kind=false->(zZ f.Kind t.val).1=[]:=fun h=>by unfold zZ;rw [xm h]
 unfold stp wv;by_cases c1:t.run=true
 ·grind
 ·rw [xl c1];by_cases c2:kNum f.Kind=true
  ·grind [zeU]
  ·rw [xl c2];by_cases c3:f.Kind=17/\f.Repeated=true
   ·rw [xm c3];have:=hg c3.1;rcases hc with hc| ⟨_,_,hr⟩
    ·simp only [zqv,wgMs];omega
    grind
   grind
theorem zvc {g:Int->List UInt8->Msg} {f:Fld} {i:Int} {c:Nat} (hc:c<=1\/c=2/\f.Kind=17/\f.Repeated=false):∀(l:List Th) (a:zbm),(∀t∈l,t.val.length+1<=t.raw.length)->(f.Kind=17->∀t∈l,wgM (g f.Of t.val)<=2*t.val.length+1)->
  wv (accF g f i a l)+(if (accF g f i a l).2.1=true then c else 0)<=wv a+(if a.2.1=true then c else 0)+ri i l
 | [],a,_,_=>by simp only [accF,ri,yr];exact xr _
 | t::l,a,h1,h2=>by
  rw [accF,ri];have ih:=zvc (g:=g) (i:=i) hc l (if t.fi=i then stp g f a t else a) (fun x hx=>h1 x (xo _ hx)) fun h x hx=>h2 h x (xo _ hx)
  have ht:=h1 t xn;by_cases hi:t.fi=i
  ·rw [xm hi] at ih|-;rw [xm hi];have hs:=zIn (g:=g) (f:=f) (t:=t) (fun h=>h2 h t xn) hc a
   grind
  grind
theorem zGF {g:Int->List UInt8->Msg} {f:Fld} {i:Int} {l:List Th} (h1:∀t∈l,t.val.length+1<=t.raw.length) (h2:f.Kind=17->∀t∈l,wgM (g f.Of t.val)<=2*t.val.length+1)
  (hj:f.Kind=17->wgM (g f.Of (accF g f i acc0 l).1)<=2*(accF g f i acc0 l).1.length+1) (hm:0<zaq (valO g f (accF g f i acc0 l))):wgV (valO g f (accF g f i acc0 l))<=ri i l:=by
 have hmet:(accF g f i acc0 l).2.1=true:=by
  cases h:(accF g f i acc0 l).2.1 with
  | true=>rfl
  | false=>
   grind [zaq,valO,acc0,zkY]
 have w0:wv acc0=0:=rfl;have m0:acc0.2.1=false:=rfl;have k1:=zvc (g:=g) (f:=f) (i:=i) (c:=1) (.inl (xr _)) l acc0 h1 h2;rw [w0,m0,hmet] at k1;simp only [yf,yS,yu] at k1;rw [zgS];by_cases hc:f.Kind=17/\f.Repeated=false
 ·have k2:=zvc (g:=g) (f:=f) (i:=i) (c:=2) (.inr ⟨rfl,hc⟩) l acc0 h1 h2;rw [w0,m0,hmet] at k2;simp only [yf,yS,yu] at k2;have hjj:=hj hc.1
  generalize accF g f i acc0 l=q at hmet k2 hjj
  unfold valO;rw [xm ⟨hmet,hc⟩];unfold wv at k2;simp only [wgMs];omega
 ·grind [valO,wv]
theorem zEy:∀(l:List Th),(∀t∈l,t.val.length+1<=t.raw.length)->((unkO l).map fun t=>1+t.length).sum<=ru l
 | [],_=>by simp [unkO,ru]
 | t::l,h=>by
  have ih:=zEy l fun x hx=>h x (xo _ hx)
  have ht:=h t xn;unfold unkO at ih|-;rw [yF,ru]
  grind
theorem zHX (s:List Mes):∀(N:Nat) (b:List UInt8) (k:Int),b.length=N->wgM (ofM s k b)<=2*b.length+1:=by
 intro N
 induction N using Nat.strongRecOn with
 | _ N IH=>
  intro b k hN;have hwt:=zlQ (zn s k) b;have hwr:=zIv (zn s k) b;have hraw:=zGA (zn s k) b;rw [zgH]
  generalize ths (zn s k) b=l at hwt hwr hraw
  generalize zn s k=m
  have hg:∀(f:Fld) (v:List UInt8),v.length+1<=b.length->wgM (ofM s f.Of v)<=2*v.length+1:=fun f v hv=>IH v.length (by omega) v f.Of rfl
  have hval:∀i,0<zaq (valO (ofM s) (zr m i) (accF (ofM s) (zr m i) i acc0 l))->wgV (valO (ofM s) (zr m i) (accF (ofM s) (zr m i) i acc0 l))<=ri i l:=fun i hp=>by
   refine zGF hraw (fun _ t ht=>hg _ _ (by have:=znG ht;omega)) (fun _=>?_) hp;have hw:=(zne (ofM s) (zr m i) i acc0 l).2;have j0:wJ acc0=0:=rfl;rw [j0] at hw;cases hm:(accF (ofM s) (zr m i) i acc0 l).2.1 with
   | true=>
    rw [wJ,xm hm] at hw
    grind
   | false=>
    grind [zaq,valO,acc0,zkY]
  have hsum:∀o:List Int,wgVs ((o.map fun i=>valO (ofM s) (zr m i) (accF (ofM s) (zr m i) i acc0 l)).filter fun v=>decide (0<zaq v))<=(o.map fun i=>ri i l).sum:=by
   intro o
   induction o with
   | nil=>simp [wgVs]
   | cons i o ih=>
    rw [xG,yF,xG,qq];by_cases hp:0<zaq (valO (ofM s) (zr m i) (accF (ofM s) (zr m i) i acc0 l))
    ·rw [xm (by simpa using hp),wgVs]
     grind
    grind
  have h1:=hsum (zdU (zeF m) m.Fields.length);have hnd:(zdU (zeF m) m.Fields.length).Nodup:=(zkB (zeF m) m.Fields.length).imp fun {a b} h e=>by
   rw [e] at h;exact zvh h h
  have h2:=zEu hnd (fun i hi=>(zcX.1 hi).1) l
  grind [zbY,zmY,zEy,ziH]
theorem zgD:∀(y x:Nat),x<=y->lenN x<=lenN y:=by
 intro y
 induction y using Nat.strongRecOn with
 | _ y ih=>
  intro x h;by_cases hy:y<128
  ·grind [zcd]
  ·rw [zbL hy];by_cases hx:x<128
   ·rw [zcd hx];have:=zjE (y/128);omega
   ·rw [zbL hx];have:=ih (y/128) (by omega) (x/128) (by omega);omega
theorem zpq:∀(x:Nat),lenN (x+1)<=lenN x+1:=by
 intro x
 induction x using Nat.strongRecOn with
 | _ x ih=>
  by_cases h:x+1<128
  ·rw [zcd h];omega
  ·rw [zbL h];by_cases hx:x<128
   ·rw [zcd hx,zcd (by omega)];omega
   ·rw [zbL hx];have h1:=zgD (x/128+1) ((x+1)/128) (by omega)
    grind
theorem zDN:∀(n x y:Nat),x+y=n->lenN (x+y)<=lenN x+lenN y:=by
 intro n
 induction n using Nat.strongRecOn with
 | _ n ih=>
  intro x y hn;have px:=zjE x;have py:=zjE y;by_cases h:x+y<128
  ·rw [zcd h];omega
  ·rw [zbL h];by_cases hx:x<128
   ·by_cases hy:y<128
    ·rw [zcd (n:=(x+y)/128) (by omega)];omega
    ·rw [zbL hy];have h1:=zgD (y/128+1) ((x+y)/128) (by omega);have h2:=zpq (y/128);omega
   ·rw [zbL hx];by_cases hy:y<128
    ·have h1:=zgD (x/128+1) ((x+y)/128) (by omega);have h2:=zpq (x/128);omega
    ·rw [zbL hy];have h1:=zgD (x/128+y/128+1) ((x+y)/128) (by omega)
     grind [zpq]
theorem zov (n:Int) (v:List UInt8):(put5 n 2 v).length=lenN (tW n 2)+lenN v.length+v.length:=by
 rw [zfg,xm rfl,zfm,zfm]
theorem zpA (n:Int) {z x y:List UInt8} (h:z.length<=x.length+y.length):(put5 n 2 z).length<=(put5 n 2 x).length+(put5 n 2 y).length:=by
 rw [zov,zov,zov];have h1:=zgD _ _ h;have h2:=zDN _ x.length y.length rfl;omega
def lenF (s:List Mes) (f:Fld) (o:Option Vlu):Nat:=match o with
 | some u=>(encV s u f).length
 | none=>0
theorem zBD {s:List Mes} {v:Vlu} {o:Option Vlu} {f:Fld} (hv:zeD s v f) (ho:∀u,o=some u->zeD s u f)
  (ih:∀x∈v.Subs,∀y:Msg,zap s x f.Of=true->zap s y f.Of=true->(encM s (zhi s x y f.Of) f.Of).length<=(encM s x f.Of).length+(encM s y f.Of).length):
  (encV s (zej s v o f) f).length<=(encV s v f).length+lenF s f o:=by
 rw [zfe];cases o with
 | none=>exact Nat.le_add_right _ _
 | some u=>
  have hu:=ho u rfl;simp only [lenF];by_cases hr:f.Repeated=true
  ·rw [xm hr,zfS,zfS,zfS];by_cases hk:kNum f.Kind=true
   ·simp only [xm hk,xm hr,yw];have:=zpA f.Number (z:=u.Words.flatMap (sPut f.Kind)++v.Words.flatMap (sPut f.Kind)) (x:=u.Words.flatMap (sPut f.Kind)) (y:=v.Words.flatMap (sPut f.Kind)) (by rw [xt];exact xr _);omega
   grind [znP]
  ·rw [xl hr];by_cases vD:f.Kind=17
   ·rw [xm vD];obtain ⟨x,hvx,hx⟩:=hv.msg vD (by simpa using hr);obtain ⟨y,huy,hy⟩:=hu.msg vD (by simpa using hr);have hvs:v.Subs=[x]:=by rw [hvx]
    have hus:u.Subs=[y]:=by rw [huy]
    have hnk:¬kNum f.Kind=true:=fun h=>(zeU h).1 vD
    have hvt:v.Texts=[]:=by rw [hvx]
    have hut:u.Texts=[]:=by rw [huy]
    rw [zfS,zfS,zfS,xl hnk,xl hnk,xl hnk,hvs,hus,hvt,hut,zhB];simp only [zeZ,yY,xz,xS];have h1:=ih x (by rw [hvs];exact xn) y hx hy;have:=zpA f.Number h1;omega
   grind
def zpr (s:List Mes) (m:Mes) (o:Option Vlu):Nat:=match o with
 | some u=>(encV s u (zr m (fldI m u.Number))).length
 | none=>0
theorem zxH {s:List Mes} {m:Mes} {v:Vlu}:∀{d:Bool} {l:List Vlu},zck l->(zbv s (putL v d l) m).length+zpr s m (look l v.Number)<=(zbv s l m).length+(if d=true then 0 else (encV s v (zr m (fldI m v.Number))).length)
 | d,[],_=>by
  rw [putL];cases d
  ·simp [zbv,look,zpr]
  ·simp [zbv,look,zpr]
 | d,u::l,h=>by
  obtain ⟨h1,h2⟩:=xQ.1 h;have ih:=zxH (s:=s) (m:=m) (v:=v) (d:=d|| decide (v.Number<=u.Number)) h2;rw [putL,zkh,zkh,zby,zbv,xt,xt,xt];by_cases hn:u.Number=v.Number
  ·rw [xm hn,xm hn];rw [zmi fun x hx=>by have:=h1 x hx;omega] at ih;have hle:v.Number<=u.Number:=by omega
   simp only [hle,decide_true,qP,yf,zpr] at ih|-;cases d
   ·rw [xm ⟨rfl,trivial⟩];simp only [zbv,xt,yn,yS,yu];omega
   ·rw [xl (fun hh=>by cases hh.1)];simp only [zbv,yn,yf];omega
  ·rw [xl hn,xl hn];have e2:(zbv s [u] m).length=(encV s u (zr m (fldI m u.Number))).length:=by rw [zbv,zbv,xS]
   have e3:(zbv s [v] m).length=(encV s v (zr m (fldI m v.Number))).length:=by rw [zbv,zbv,xS]
   rw [e2];cases d
   ·by_cases hle:v.Number<=u.Number
    ·grind
    ·have eb:(false|| decide (v.Number<=u.Number))=false:=by simp [hle]
     rw [eb] at ih|-;rw [xl (by simp)] at ih;rw [xl (fun hh=>hle hh.2),xl (by simp)];simp only [zbv,yn];omega
   ·rw [Bool.true_or] at ih|-;rw [xm rfl] at ih;rw [xl (fun hh=>by cases hh.1),xm rfl];simp only [zbv,yn];omega
theorem zrZ {s:List Mes} {a:Msg} {m:Mes}:∀{l acc:List Vlu},zck acc->zck l->(∀v∈l,0<zaq (zej s v (look a.Values v.Number) (zr m (fldI m v.Number))))->
  (∀v∈l,look acc v.Number=look a.Values v.Number)->(∀v∈l,(encV s (zej s v (look a.Values v.Number) (zr m (fldI m v.Number))) (zr m (fldI m v.Number))).length<=(encV s v (zr m (fldI m v.Number))).length+zpr s m (look a.Values v.Number))->
  (zbv s (zfa s l a m acc) m).length<=(zbv s acc m).length+(zbv s l m).length
 | [],acc,_,_,_,_,_=>by rw [zfa];simp [zbv]
 | v::l,acc,h1,h2,h3,h4,h5=>by
  obtain ⟨l1,l2⟩:=xQ.1 h2;have hm:=h3 v xn;have hnum:=zpn s v (look a.Values v.Number) (zr m (fldI m v.Number));have hl:=h5 v xn;have hla:=h4 v xn;rw [zfa,zbv,xt];have hput:putM ⟨acc,[]⟩ (zej s v (look a.Values v.Number) (zr m (fldI m v.Number)))=⟨putL (zej s v (look a.Values v.Number) (zr m (fldI m v.Number))) false acc,[]⟩:=by
   unfold putM;have:decide (zaq (zej s v (look a.Values v.Number) (zr m (fldI m v.Number)))=0)=false:=xR (by omega);rw [this]
  rw [hput];have hpe:=zxH (s:=s) (m:=m) (v:=zej s v (look a.Values v.Number) (zr m (fldI m v.Number))) (d:=false) h1;rw [hnum,hla] at hpe;simp only [yS,yu] at hpe
  have ih:=zrZ (s:=s) (a:=a) (m:=m) (l:=l) (acc:=putL (zej s v (look a.Values v.Number) (zr m (fldI m v.Number))) false acc) (ziS h1) l2 (fun u hu=>h3 u (xo _ hu))
   (fun u hu=>by
    have:=l1 u hu;rw [zol h1,hnum,xl (by omega)];exact h4 u (xo _ hu)) fun u hu=>h5 u (xo _ hu)
  simp only;omega
theorem zsb {s:List Mes}:∀(N:Nat) (b a:Msg) (k:Int),szM b<=N->zap s a k=true->zap s b k=true->(encM s (zhi s b a k) k).length<=(encM s b k).length+(encM s a k).length
 | 0,b,a,k,h,_,_=>by rw [zbs] at h;omega
 | N+1,b,a,k,vO,ha,hb=>by
  obtain ⟨k0,k1,ra,ha',ua⟩:=zaE ha;obtain ⟨_,_,rb,hb',ub⟩:=zaE hb;rw [zbs] at vO;have fit:∀n u,look a.Values n=some u->zeD s u (zr (zn s k) (fldI (zn s k) n)):=fun n u hu=>by
   obtain ⟨e,hm⟩:=zcV hu;have:=zci (ha' u hm).2
   grind
  rw [zim,ziN,ziN,ziN];have:=zrZ (s:=s) (a:=a) (m:=zn s k) ra rb (fun v hv=>znp (zci (hb' v hv).2) fun u hu=>fit _ u hu) (fun _ _=>rfl) (fun v hv=>by
   have h:=zBD (zci (hb' v hv).2) (o:=look a.Values v.Number) (fun u hu=>fit _ u hu) fun x hx y hxr hyr=>by
    have s1:=zdh hv;rw [zdP] at s1;have s2:=zdg hx;exact zsb N x y _ (by omega) hyr hxr
   refine yb h (Nat.add_le_add_left ?_ _);cases hl:look a.Values v.Number with
   | none=>exact xB _
   | some u=>
    have e:=(zcV hl).1;unfold zpr lenF;simp only [e];exact xr _)
  grind
def zaG (s:List Mes) (k:Int) (b:List UInt8):List UInt8:=encM s (ofM s k b) k
theorem zxN (b:List UInt8) (r:Rec):(rawB b r).length<=b.length:=by unfold rawB;simp;omega
theorem zCX {k w:Int} (h:0<=w/\w<=18446744073709551615):zaM k w<=w\/2147483648<=w:=by
 unfold zaM;split
 ·unfold zmZ sgnS;split
  ·rw [xm (by omega)];omega
  ·rw [xl (by omega)];omega
 ·split
  ·omega
  ·split
   ·split<;>omega
   ·omega
theorem zuC {k:Int} (hk:kNum k=true) {p:List UInt8} (hf:zaW (zX k) p=true):(sPut k (zcT k p)).length<=2*p.length:=by
 have hr:=zkx k (b:=p);have h1:=zdc.1 hk;unfold zcT;rw [zzC hr];have hc:=zeE k hr;unfold sPut zhD;by_cases h12:12<=k
 ·rw [xm h12,zar];have:zX k=1:=by unfold zX;rw [xl (by omega),xm h12]
  rw [this] at hf;unfold zaW at hf;rw [xl (by omega)] at hf;have:=yh hf;omega
 ·rw [xl h12];by_cases h9:9<=k
  ·rw [xm h9,zar];have:zX k=5:=by unfold zX;rw [xl (by omega),xl h12,xm h9]
   rw [this] at hf;unfold zaW at hf;rw [xl (by omega)] at hf;have:=yh hf;omega
  ·rw [xl h9,zfm];have h0:zX k=0:=by unfold zX;rw [xl (by omega),xl h12,xl h9]
   rw [h0] at hf;unfold zaW at hf;rw [xm rfl] at hf;obtain ⟨f1,f2⟩:=yh hf;have hraw:rawW k p=(rd p).1:=by unfold rawW;rw [xm h0]
   rw [hraw] at hr hc|-;have hm:=zvx (l:=p) (k:=p.length) (by rw [<-f1,<-f2]);rw [zfm] at hm;rcases zCX (k:=k) hr with hle| hge
   ·have:=zgD (rd p).1.toNat (zaM k (rd p).1).toNat (by omega);omega
   ·have h5:=zgD (rd p).1.toNat 2147483648 (by omega);have e5:lenN 2147483648=5:=by
     rw [zbL (by omega),zbL (by omega),zbL (by omega),zbL (by omega),zcd (by omega)]
    have h10:=zoh (n:=(zaM k (rd p).1).toNat) (by omega);omega
theorem zou {k:Int} (hk:kNum k=true):∀{ps:List (List UInt8)},(∀p∈ps,zaW (zX k) p=true)->((ps.map (zcT k)).flatMap (sPut k)).length<=2*ps.flatten.length
 | [],_=>by simp
 | p::ps,h=>by
  have h1:=zuC hk (h p xn);have h2:=zou hk fun q hq=>h q (xo _ hq)
  rw [xG,xC,xt,qh,xt];omega
theorem zqw {k:Int} (hk:kNum k=true) (v:List UInt8):((zZ k v).1.flatMap (sPut k)).length<=2*v.length:=by
 unfold zZ;rw [xl (by rw [hk];simp)];by_cases h:(pcs k v).2=0
 ·rw [xm h];have h1:=zou hk (ps:=(pcs k v).1) fun p hp=>(zsG hk v p hp).1
  rw [zxE k v h] at h1;exact h1
 ·rw [xl h];simp
theorem zDO {n w:Int} (h:1<=n) (h0:0<=w/\w<=7):lenN (tW n 2)=lenN (tW n w):=by
 have key:∀(q a b:Nat),a<8->b<8->lenN (8*q+a)=lenN (8*q+b):=by
  intro q a b ha hb;by_cases hq:8*q+8<=128
  ·rw [zcd (by omega),zcd (by omega)]
  ·rw [zbL (n:=8*q+a) (by omega),zbL (n:=8*q+b) (by omega)];have:(8*q+a)/128=(8*q+b)/128:=by omega
   rw [this]
 have:=key n.toNat 2 w.toNat (by omega) (by omega);have e1:tW n 2=8*n.toNat+2:=by unfold tW;omega
 have e2:tW n w=8*n.toNat+w.toNat:=by unfold tW;omega
 rw [e1,e2];exact this
theorem zsI (n:Int) {z v:List UInt8} (h:z.length<=2*v.length):(put5 n 2 z).length<=2*(put5 n 2 v).length:=by
 have:=zpA n (z:=z) (x:=v) (y:=v) (by omega);omega
theorem zDe {s:List Mes} {d:Nat} {m:Mes} {t:Th} {g:Int->List UInt8->Msg} {f:Fld} (ht:OkT s d m t) (h0:0<=t.fi) (hf:zr m t.fi=f) (hn:1<=f.Number) {R:Nat}
  (hR1:t.run=true->(put5 f.Number 2 t.val).length<=R) (hR2:t.run=false->(put5 f.Number (zX f.Kind) t.val).length<=R) (hg:f.Kind=17->(encM s (g f.Of t.val) f.Of).length<=2*t.val.length):
  (encV s (valO g f (stp g f acc0 t)) f).length<=2*R:=by
 have vL:=ht.run h0;have hone:=ht.one h0;rw [hf] at vL hone;have hz1:(if f.Repeated=true then acc0.2.2.1 else [])=[]:=by split<;>rfl
 have hz2:(if f.Repeated=true then acc0.2.2.2.1 else [])=[]:=by split<;>rfl
 by_cases hr:t.run=true
 ·obtain ⟨hk,hrep,_⟩:=vL hr;have vD:=(zeU hk).1;have hw:=zqw hk t.val;have:=zsI f.Number hw;have:=hR1 hr;rw [zfS,xm hk,xm hrep];unfold stp valO;rw [xm hr,hz1];simp only [xz];omega
 ·have hr':t.run=false:=by simpa using hr
  obtain ⟨hkr,hfit,_,_⟩:=hone hr';have hR:=hR2 hr';by_cases hk:kNum f.Kind=true
  ·have hp:=zhq hk hfit;have hpt:=zuC hk hfit;have vD:=(zeU hk).1;rw [zfS,xm hk];have e:(valO g f (stp g f acc0 t)).Words=[zcT f.Kind t.val]:=by
    unfold stp valO;rw [xl hr,xm hk,hz1,hp];rfl
   rw [e];have htg:=zDO (n:=f.Number) (w:=zX f.Kind) hn (zxf _);have htp:=zjE (tW f.Number (zX f.Kind));have hkw:zX f.Kind≠2:=by
    have:=zdc.1 hk;unfold zX;rw [xl (by omega)];split;omega;split<;>omega
   rw [zfg,xl hkw,zfm] at hR;have hsl:=zhp (k:=f.Kind) (w:=zcT f.Kind t.val) (zeE _ (zkx _));by_cases hrep:f.Repeated=true
   ·rw [xm hrep,zov,htg];have e2:[zcT f.Kind t.val].flatMap (sPut f.Kind)=sPut f.Kind (zcT f.Kind t.val):=by simp
    rw [e2];have:lenN (sPut f.Kind (zcT f.Kind t.val)).length=1:=zcd (by omega);omega
   ·rw [xl hrep];show (put5 f.Number (zX f.Kind) (sPut f.Kind (zcT f.Kind t.val))).length<=_;rw [zfg,xl hkw,zfm];omega
  ·have hkk:zX f.Kind=2:=by
    have h1:¬(1<=f.Kind/\f.Kind<=14):=fun hh=>hk (zdc.2 hh)
    have h2:1<=f.Kind/\f.Kind<=17:=by simpa [zaQ] using hkr
    unfold zX;rw [xm (by omega)]
   rw [hkk] at hR;rw [zfS,xl hk];by_cases vD:f.Kind=17
   ·have:=zsI f.Number (hg vD);have e1:(valO g f (stp g f acc0 t)).Texts=[]:=by
     unfold stp valO;rw [xl hr,xl hk];by_cases hrep:f.Repeated=true
     ·rw [xm ⟨vD,hrep⟩,hz2]
     ·rw [xl (fun hh=>hrep hh.2),xm vD,hz2]
    have e2:(valO g f (stp g f acc0 t)).Subs=[g f.Of t.val]:=by
     unfold stp valO;rw [xl hr,xl hk];by_cases hrep:f.Repeated=true
     ·rw [xm ⟨vD,hrep⟩];simp only;rw [xl (fun hh=>by rw [hrep] at hh;cases hh.2.2)];rfl
     ·rw [xl (fun hh=>hrep hh.2),xm vD];simp only;rw [xm ⟨trivial,vD,by simpa using hrep⟩];rfl
    rw [e1,e2];simp only [yY,xz,zeZ,xS];omega
   ·have e1:(valO g f (stp g f acc0 t)).Texts=[t.val]:=by
     unfold stp valO;rw [xl hr,xl hk,xl (fun hh=>vD hh.1),xl vD,hz2];rfl
    have e2:(valO g f (stp g f acc0 t)).Subs=[]:=by
     unfold stp valO;rw [xl hr,xl hk,xl (fun hh=>vD hh.1),xl vD];simp only;rw [xl (fun hh=>vD hh.2.1)];rfl
    rw [e1,e2];simp only [pv,zeZ,xS];omega
theorem znn {s:List Mes} (hs:zcI s):∀(N:Nat) (b:List UInt8) (d k:Nat),b.length=N->k<s.length->zF s d k b=none->(zaG s k b).length<=2*b.length:=by
 intro N
 induction N using Nat.strongRecOn with
 | _ N IH=>
  intro b d k hN hk hv;have hmm:zn s (k:Int)∈s:=by rw [zcf hk];exact xD hk
  have hv':=hv;rw [zdD,zbx] at hv';by_cases vR:b=[]
  ·subst vR;unfold zaG;have e:ofM s k []=⟨[],[]⟩:=by
    rw [zgH,zjk hv,zcS];unfold zbY zmY unkO;have:∀o:List Int,(o.map fun i=>valO (ofM s) (zr (zn s (k:Int)) i) (accF (ofM s) (zr (zn s (k:Int)) i) i acc0 [])).filter (fun v=>decide (0<zaq v))=[]:=by
     intro o;rw [List.filter_eq_nil_iff];intro v hv;obtain ⟨i,_,rfl⟩:=xu.1 hv;simp [accF,zaq,valO,acc0]
    simp only [yA,List.filter_nil,this]
   rw [e,ziN];simp [zbv]
  ·rcases zfr b with ⟨c,hc,_⟩| ⟨n,w,kk,a,t,hc,_,htr,_,g1,g2,g3,g4,g5,_⟩
   ·rw [zeC vR hc] at hv';cases hv'.2
   ·have hrv:=zsL hc;have hrl:(b.take t).length=t:=by simp;omega
    have hrn:b.take t≠[]:=fun e=>by
     rw [e,yn] at hrl;omega
    have hsr:spl 0 (b.take t)=([⟨n,w,((0:Nat):Int),((0+a:Nat):Int),((0+t:Nat):Int)⟩],none):=by
     have hd:(b.take t).drop t=[]:=yE (by omega);rw [zbO hrn (zpD hc),hd,zcS]
    have hval:valB (b.take t) ⟨n,w,((0:Nat):Int),((0+a:Nat):Int),((0+t:Nat):Int)⟩=(b.drop a).take (t - a):=by
     unfold valB;simp only [xA,xJ];rw [qn,y8,Nat.min_self]
    have hstep:=hv'.1 ⟨n,w,((0:Nat):Int),((0+a:Nat):Int),((0+t:Nat):Int)⟩ (by rw [zbO vR hc];exact xn);have hr:zF s d k (b.take t)=none:=by
     rw [zdD,zbx,hsr];refine ⟨fun r hr=>?_,rfl⟩;rw [x9.1 hr];refine (zoH (b:=b) (b':=b.take t) rfl rfl ?_).2 hstep;rw [hval];unfold valB;simp only [xA,xJ]
    have hz:zF s d k (b.drop t)=none:=by
     have:=zdx s d k (b.drop t) hr;rw [y7] at this;exact this.1 hv
    have hone:(zaG s k (b.take t)).length<=2*t:=by
     have hth:=zye hr;have hmr:=(zeV hs _ (b.take t) d k rfl hk hr).1;obtain ⟨_,_,hrise,_,_⟩:=zaE hmr;have hths:ths (zn s (k:Int)) (b.take t)=[thR (zn s k) (b.take t) ⟨n,w,((0:Nat):Int),((0+a:Nat):Int),((0+t:Nat):Int)⟩]:=by rw [zjk hr,hsr];rfl
     have hraw:(thR (zn s (k:Int)) (b.take t) ⟨n,w,((0:Nat):Int),((0+a:Nat):Int),((0+t:Nat):Int)⟩).raw.length<=t:=by
      have:=zxN (b.take t) ⟨n,w,((0:Nat):Int),((0+a:Nat):Int),((0+t:Nat):Int)⟩;rw [hrl] at this;exact this
     have hput:=hrv.2.2;rw [<-hval] at hput;unfold zaG;rw [zgH] at hrise|-;rw [hths] at hrise hth|-;have hu:=hth _ xn
     have hvw:vwG (zn s (k:Int)) ⟨n,w,((0:Nat):Int),((0+a:Nat):Int),((0+t:Nat):Int)⟩=match vw (zn s (k:Int)) n w with
      | .inl _=>(-1,false)
      | .inr p=>p:=rfl
     have hfi:(thR (zn s (k:Int)) (b.take t) ⟨n,w,((0:Nat):Int),((0+a:Nat):Int),((0+t:Nat):Int)⟩).fi=(vwG (zn s (k:Int)) ⟨n,w,((0:Nat):Int),((0+a:Nat):Int),((0+t:Nat):Int)⟩).1:=rfl;have vL:(thR (zn s (k:Int)) (b.take t) ⟨n,w,((0:Nat):Int),((0+a:Nat):Int),((0+t:Nat):Int)⟩).run=(vwG (zn s (k:Int)) ⟨n,w,((0:Nat):Int),((0+a:Nat):Int),((0+t:Nat):Int)⟩).2:=rfl;have hvl:(thR (zn s (k:Int)) (b.take t) ⟨n,w,((0:Nat):Int),((0+a:Nat):Int),((0+t:Nat):Int)⟩).val=valB (b.take t) ⟨n,w,((0:Nat):Int),((0+a:Nat):Int),((0+t:Nat):Int)⟩:=rfl;have hvlen:(valB (b.take t) ⟨n,w,((0:Nat):Int),((0+a:Nat):Int),((0+t:Nat):Int)⟩).length=t - a:=by rw [hval];exact hrv.2.1
     rw [hvw] at hfi vL
     generalize thR (zn s (k:Int)) (b.take t) ⟨n,w,((0:Nat):Int),((0+a:Nat):Int),((0+t:Nat):Int)⟩=u at hraw hu hfi vL hvl hrise|-
     rw [<-hvl] at hput hvlen
     -- values: of the record's field alone
     have hmem:∀v∈(zbY (ofM s) (zn s (k:Int)) [u]).Values,0<=u.fi/\v=valO (ofM s) (zr (zn s (k:Int)) u.fi) (stp (ofM s) (zr (zn s (k:Int)) u.fi) acc0 u):=fun v hv=>by
      unfold zbY zmY at hv;obtain ⟨h1,h2⟩:=xU.1 hv;obtain ⟨i,hi,rfl⟩:=xu.1 h1;have hi0:=(zcX.1 hi).1;by_cases hui:u.fi=i
      ·rw [accF,accF,xm hui,<-hui];exact ⟨by omega,rfl⟩
      ·exfalso;rw [accF,accF,xl hui] at h2;simp [zaq,valO,acc0] at h2
     rw [ziN];rcases zdl (zn s (k:Int)) n w with hvv| ⟨hvv,_⟩| ⟨i,run,hvv,hfii,hil⟩
     ·rw [hvv] at hfi;simp only at hfi;have hnil:(zbY (ofM s) (zn s (k:Int)) [u]).Values=[]:=by
       cases hvs:(zbY (ofM s) (zn s (k:Int)) [u]).Values with
       | nil=>rfl
       | cons v l=>have:=(hmem v (by rw [hvs];exact xn)).1;omega
      rw [hnil];have:(zbY (ofM s) (zn s (k:Int)) [u]).Unknown=[u.raw]:=by
       unfold zbY unkO;simp only;rw [yF,xm (by simp;omega)];rfl
      rw [this];simp [zbv];omega
     ·rw [hvv] at hfi;simp only at hfi;have hnil:(zbY (ofM s) (zn s (k:Int)) [u]).Values=[]:=by
       cases hvs:(zbY (ofM s) (zn s (k:Int)) [u]).Values with
       | nil=>rfl
       | cons v l=>have:=(hmem v (by rw [hvs];exact xn)).1;omega
      rw [hnil];have:(zbY (ofM s) (zn s (k:Int)) [u]).Unknown=[u.raw]:=by
       unfold zbY unkO;simp only;rw [yF,xm (by simp;omega)];rfl
      rw [this];simp [zbv];omega
     ·rw [hvv] at hfi vL;simp only at hfi vL;have hunk:(zbY (ofM s) (zn s (k:Int)) [u]).Unknown=[]:=by
       unfold zbY unkO;simp only;rw [yF,xl (by simp;omega)];rfl
      rw [hunk];have hfm:zr (zn s (k:Int)) u.fi∈(zn s (k:Int)).Fields:=by rw [hfi,zbw hil];exact xD hil
      have hfo:=hs.fld _ hmm _ hfm;have hnum:(zr (zn s (k:Int)) u.fi).Number=n:=by
       rcases zcK (zn s (k:Int)) n with ⟨hf,_⟩| ⟨j,hj,hf,hjn,_⟩
       ·omega
       ·have:j=i:=by omega
        subst this;rw [hfi,zbw hj,hjn]
      have hb1:(encV s (valO (ofM s) (zr (zn s (k:Int)) u.fi) (stp (ofM s) (zr (zn s (k:Int)) u.fi) acc0 u)) (zr (zn s (k:Int)) u.fi)).length<=2*t:=by
       refine zDe hu (by omega) rfl hfo.lo (fun hr=>?_) (fun hr=>?_) fun vD=>?_
       ·rw [hr] at vL;have:=(zwn (by rw [hvv,<-vL])).2.2;rw [hnum,<-this];exact hput
       ·rw [hr] at vL;have hkw:zX (zr (zn s (k:Int)) u.fi).Kind=w:=by
         unfold vw at hvv;rw [hfii,<-hfi] at hvv;split at hvv
         ·rename_i vC;omega
         ·split at hvv
          ·have:=congrArg (fun q:Int⊕(Int×Bool)=>match q with| .inl _=>false| .inr p=>p.2) hvv;simp only at this;rw [<-vL] at this;cases this
          ·split at hvv
           ·cases hvv
           ·rename_i h4;by_cases hq:zX (zr (zn s (k:Int)) u.fi).Kind=w
            ·exact hq
            ·exact absurd (.inr hq) h4
        rw [hnum,hkw];exact hput
       ·have hrf:u.run=false:=by
         cases hrr:u.run with
         | false=>rfl
         | true=>
          have:=(hu.run (by omega) hrr).1;rw [vD] at this;cases this
        obtain ⟨e,he,hve⟩:=(hu.one (by omega) hrf).2.2.2 vD;have hof:=hfo.sub vD;obtain ⟨q,hq⟩:∃q:Nat,(zr (zn s (k:Int)) u.fi).Of=q:=⟨(zr (zn s (k:Int)) u.fi).Of.toNat,by omega⟩;rw [hq] at hve|-;exact IH u.val.length (by omega) u.val e q rfl (by omega) hve
      have hkn:0<=fldI (zn s (k:Int)) (zr (zn s (k:Int)) u.fi).Number:=by rw [hnum];omega
      have hfld:zr (zn s (k:Int)) (fldI (zn s (k:Int)) (zr (zn s (k:Int)) u.fi).Number)=zr (zn s (k:Int)) u.fi:=by rw [hnum,hfii,hfi]
      cases hvs:(zbY (ofM s) (zn s (k:Int)) [u]).Values with
      | nil=>simp [zbv]
      | cons v l=>
       rw [hvs] at hrise hmem;obtain ⟨r1,_⟩:=xQ.1 hrise;have hl:l=[]:=by
        cases l with
        | nil=>rfl
        | cons v2 l=>
         have h1:=(hmem v xn).2;have h2:=(hmem v2 (xo _ xn)).2;have:=r1 v2 xn;rw [h1,h2] at this;omega
       have hv1:=(hmem v xn).2;rw [hl,zbv,zbv,hv1];have hnn:(valO (ofM s) (zr (zn s (k:Int)) u.fi) (stp (ofM s) (zr (zn s (k:Int)) u.fi) acc0 u)).Number=(zr (zn s (k:Int)) u.fi).Number:=rfl;rw [hnn,hfld];simp only [xS,List.flatten_nil];exact hb1
    have hap:=znq hs _ (b.take t) (b.drop t) d k rfl hk hr hz;rw [y7] at hap;have hra:=(zeV hs _ (b.take t) d k rfl hk hr).1;have hrz:=(zeV hs _ (b.drop t) d k rfl hk hz).1;have hj:=zsb _ (ofM s k (b.drop t)) (ofM s k (b.take t)) k (xr _) hra hrz;have hzl:(b.drop t).length=b.length - t:=by simp
    have hih:=IH (b.drop t).length (by omega) (b.drop t) d k rfl hk hz;unfold zaG at hih hone|-;rw [hap];omega
theorem zFc:∀(N:Nat) (x:Msg),szM x<=N->szM x<=wgM x
 | 0,x,h=>by rw [zbs] at h;omega
 | N+1,x,h=>by
  rw [zbs] at h;have hv:∀v∈x.Values,szV v<=wgV v:=fun v hv=>by
   have h1:=zdh hv;have he:=zdP v;have:∀l:List Msg,(∀y∈l,y∈v.Subs)->szMs l<=wgMs l:=by
    intro l
    induction l with
    | nil=>intro _;rw [szMs];omega
    | cons y l ih=>
     intro hl;have hy:=hl y xn;have h2:=zdg hy;have:=zFc N y (by omega);have:=ih fun z hz=>hl z (xo _ hz)
     rw [szMs,wgMs];omega
   have:=this v.Subs fun y hy=>hy
   rw [he,zgS];omega
  have:∀l:List Vlu,(∀v∈l,v∈x.Values)->szVs l<=wgVs l:=by
   intro l
   induction l with
   | nil=>intro _;rw [szVs];omega
   | cons v l ih=>
    intro hl;have:=hv v (hl v xn);have:=ih fun z hz=>hl z (xo _ hz)
    rw [szVs,wgVs];omega
  have:=this x.Values fun v hv=>hv
  rw [zbs,ziH];omega
theorem zHj:∀(N:Nat) (x:Msg),szM x<=N->wgM x<=1048576->smM x
 | 0,x,h,_=>by rw [zbs] at h;omega
 | N+1,x,h,hw=>by
  rw [zbs] at h;rw [ziH] at hw;have hl:=zyt x.Values;have hu:=zwe (l:=x.Unknown);refine (zsW _).2 ⟨by omega,⟨by omega,fun t ht=>by have:=zoI ht;omega⟩,zjU.2 fun v hv=>?_⟩;have h1:=zdh hv;have h2:=zoU hv;rw [zdP] at h1;rw [zgS] at h2;have ht:=zwe (l:=v.Texts);have hs:=zys v.Subs;refine (zsX _).2 ⟨by omega,⟨by omega,fun t ht=>by have:=zoI ht;omega⟩,by omega,zjT.2 fun y hy=>?_⟩;have h3:=zdg hy;have h4:=ziI hy;exact zHj N y (by omega) (by omega)
theorem zoT:∀(l m:List Vlu),wgVs (l++m)=wgVs l+wgVs m
 | [],m=>by rw [xz,wgVs];omega
 | v::l,m=>by rw [yc,wgVs,wgVs,zoT l m];omega
theorem zyr:∀(l m:List Msg),wgMs (l++m)=wgMs l+wgMs m
 | [],m=>by rw [xz,wgMs];omega
 | v::l,m=>by rw [yc,wgMs,wgMs,zyr l m];omega
def wgO:Option Vlu->Nat
 | none=>0
 | some u=>wgV u
theorem zEp (v:Vlu):∀(d:Bool) (l:List Vlu),zck l->wgVs (putL v d l)+wgO (look l v.Number)<=wgVs l+(if d=true then 0 else wgV v)
 | d,[],_=>by
  rw [putL];cases d
  ·show wgVs [v]+0<=_;simp [wgVs]
  ·show wgVs []+0<=_;simp
 | d,u::l,h=>by
  obtain ⟨h1,h2⟩:=xQ.1 h;have ih:=zEp v (d|| decide (v.Number<=u.Number)) l h2;rw [putL,zoT,zoT,zby,wgVs];by_cases he:u.Number=v.Number
  ·rw [xm he,xm he];have hn:look l v.Number=none:=zmi fun x hx=>by have:=h1 x hx;omega
   rw [hn] at ih;have hle:decide (v.Number<=u.Number)=true:=by simp;omega
   rw [hle,qP,xm rfl] at ih;simp only [wgO,wgVs,hle,qP] at ih|-;cases d
   ·rw [xm ⟨rfl,by omega⟩,wgVs,wgVs];simp;omega
   ·rw [xl (by simp),wgVs];simp;omega
  ·rw [xl he,xl he,wgVs,wgVs];cases d
   ·by_cases hv:v.Number<=u.Number
    ·rw [xm ⟨rfl,hv⟩,wgVs,wgVs];simp only [hv,decide_true,qP,yf,yS,yu] at ih|-;omega
    ·rw [xl (fun hh=>hv hh.2),wgVs];simp only [hv,decide_false,qV,yS,yu] at ih|-;omega
   ·rw [xl (by simp),wgVs];simp only [Bool.true_or,yf] at ih|-;omega
theorem zuk :∀(l acc:List Vlu),zck l->zck acc->(∀v∈l,look acc v.Number=look a.Values v.Number)->(∀v∈l,wgV (zej s v (look a.Values v.Number) (zr m (fldI m v.Number)))<=wgV v+wgO (look a.Values v.Number))->wgVs (zfa s l a m acc)<=wgVs acc+wgVs l
 | [],acc,_,_,_,_=>by rw [zfa];omega
 | v::l,acc,hl,ha,he,hw=>by
  obtain ⟨l1,l2⟩:=xQ.1 hl;have hv:=he v xn;have hwv:=hw v xn;have hn:=zpn s v (look a.Values v.Number) (zr m (fldI m v.Number));rw [zfa]
  generalize zej s v (look a.Values v.Number) (zr m (fldI m v.Number))=v' at hn hwv|-
  have hp:=zEp v' (decide (zaq v'=0)) acc ha;have ih:=zuk (s:=s) (a:=a) (m:=m) l (putM ⟨acc,[]⟩ v').Values l2 (ziS ha) (fun u hu=>by
   show look (putL v' _ acc) u.Number=_;have:=l1 u hu;rw [zol ha,xl (by omega)];exact he u (xo _ hu)) (fun u hu=>hw u (xo _ hu))
  have hq:wgVs (putM ⟨acc,[]⟩ v').Values=wgVs (putL v' (decide (zaq v'=0)) acc):=rfl;rw [hn,hv] at hp;rw [wgVs];split at hp<;>omega
theorem zAy :∀(N:Nat) (b a:Msg) (k:Int),szM b<=N->zap s a k=true->zap s b k=true->wgM (zhi s b a k)<=wgM a+wgM b
 | 0,b,a,k,h,_,_=>by rw [zbs] at h;omega
 | N+1,b,a,k,vO,ha,hb=>by
  obtain ⟨_,_,ra,ha',_⟩:=zaE ha;obtain ⟨_,_,rb,hb',_⟩:=zaE hb;rw [zbs] at vO;have:=zuk (s:=s) (a:=a) (m:=zn s k) b.Values a.Values rb ra (fun _ _=>rfl) fun v hv=>by
   rw [zfe];cases hla:look a.Values v.Number with
   | none=>simp only [wgO];omega
   | some u=>
    obtain ⟨hun,hum⟩:=zcV hla;have hve:=zgS v;have hue:=zgS u;simp only [wgO];split
    ·rw [zgS];simp only [xt,ql,List.sum_append,zyr];omega
    ·split
     ·rename_i hrep vD;have ov:=zci (hb' v hv).2;have ou:=zci (ha' u hum).2;rw [hun] at ou;have hsv:=zdh hv;rw [zdP] at hsv;rw [zgS];simp only [yn,yA,List.sum_nil];cases hvs:v.Subs with
      | nil=>rw [zhB,wgMs];omega
      | cons y ys=>
       cases hus:u.Subs with
       | nil=>rw [zhB,wgMs];omega
       | cons z zs=>
        rw [zhB];have hy:y∈v.Subs:=by rw [hvs];exact xn
        have hz:z∈u.Subs:=by rw [hus];exact xn
        have hsy:=zdg hy;have hj:=zAy N y z _ (by omega) (ou.subs z hz).2 (ov.subs y hy).2;have w1:=ziI hy;have w2:=ziI hz;rw [wgMs,wgMs];omega
     ·omega
  rw [zim,ziH,ziH,ziH];simp only [ql,List.sum_append];omega
theorem zAY :∀(N:Nat) (x:Msg) (k:Int) (w:List zW) (keep:Bool),szM x<=N->wgM (zor s x k w keep)<=wgM x
 | 0,x,k,w,keep,h=>by rw [zbs] at h;omega
 | N+1,x,k,w,keep,vO=>by
  rw [zbs] at vO;have key:∀v∈x.Values,∀f:Fld,wgVs (zsF s v f w keep)<=wgV v:=fun v hv f=>by
   have hsv:=zdh hv;rw [zdP] at hsv;have hve:=zgS v;rw [zos];split
   ·cases hs:v.Subs with
    | nil=>
     rw [zlB,wgVs,wgVs,zgS];simp only [yn,yA,List.sum_nil];rw [wgMs];omega
    | cons y ys=>
     have hy:y∈v.Subs:=by rw [hs];exact xn
     have hsy:=zdg hy;have hwy:=ziI hy;have:=zAY (s:=s) N y f.Of (zjo w v.Number) keep (by omega);rw [zlB,wgVs,wgVs,zgS];simp only [yn,yA,List.sum_nil];rw [wgMs,wgMs];omega
   ·split
    ·rw [wgVs,wgVs];omega
    ·rw [wgVs];omega
  have all:∀l:List Vlu,(∀v∈l,v∈x.Values)->wgVs (zgb s l (zn s k) w keep)<=wgVs l:=by
   intro l
   induction l with
   | nil=>intro _;rw [zgb];exact xr _
   | cons v l ih=>
    intro h;have i2:=ih fun u hu=>h u (xo _ hu)
    have k2:=key v (h v xn) (zr (zn s k) (fldI (zn s k) v.Number));rw [zgb,zoT,wgVs];omega
  have:=all x.Values fun v hv=>hv
  rw [zsD,ziH,ziH];simp only;cases keep<;>simp<;>omega
theorem zyG (s:List Mes) (root d:Int):argS s root d=0\/argS s root d=2\/argS s root d=9:=by
 unfold argS;split
 ·omega
 ·split<;>omega
theorem zvn (s:List Mes) (root:Int) (b:List UInt8) (d:Int):0<=(zbj s root b d).2/\(zbj s root b d).2<=9:=by
 unfold zbj;by_cases h:argS s root d=0
 ·rw [xl (by simpa using h)];cases hf:zF s d.toNat root b with
  | none=>simp
  | some p=>
   have:=zik s d.toNat root b p.1 p.2 hf;simp only [qJ];omega
 ·rw [xm h];rcases zyG s root d with h| h| h<;>rw [h]<;>simp
structure V18 (s:List Mes) (d k:Nat) (b:List UInt8):Prop where
 bd:bdM (ofM s k b)
 sm:smM (ofM s k b)
 right:zap s (ofM s k b) k=true
 depth:dM (ofM s k b)<=d
 wg:wgM (ofM s k b)<=2*b.length+1
 sz:szM (ofM s k b)<=2*b.length+1
 valid:zF s d k (zaG s k b)=none
 means:ofM s k (zaG s k b)=ofM s k b
 twice:(zaG s k b).length<=2*b.length
 stays:zaG s k (zaG s k b)=zaG s k b
theorem zFa {s:List Mes} (hs:zcI s) {d k:Nat} (hk:k<s.length) {b:List UInt8} (hb:b.length<=14000) (h:zF s d k b=none):V18 s d k b:=by
 obtain ⟨p1,p2⟩:=zHW hs _ b k rfl (by omega) hk;obtain ⟨p3,p4⟩:=zeV hs _ b d k rfl hk h;have p5:=zHX s _ b k rfl;have p6:=zFc _ (ofM s k b) (xr _);obtain ⟨p7,p8⟩:=zpU hs _ (ofM s k b) k d (xr _) p1 (by omega) p3 p4;exact ⟨p1,p2,p3,p4,p5,by omega,p7,p8,znn hs _ b d k rfl hk h,by unfold zaG at*;rw [p8]⟩
def zqU (s:List Mes) (root:Int) (b:List UInt8) (d:Int):List UInt8×Int:=if (zbj s root b d).2≠0 then ([],(zbj s root b d).2) else (zaG s root b,0)
theorem zpY {s:List Mes} {root:Int} {b:List UInt8} {d:Int} (h:(zbj s root b d).2≠0):zqU s root b d=([],(zbj s root b d).2):=xm h
theorem zkl {s:List Mes} {root:Int} {b:List UInt8} {d:Int} (h:(zbj s root b d).2=0):zqU s root b d=(zaG s root b,0):=xl (fun g=>g h)
theorem zuK (hg:∀v u,g v=some u->u.Number=v.Number):∀{l:List Vlu},zck l->zck (l.filterMap g)
 | [],_=> .nil
 | v::l,h=>by
  obtain ⟨h1,h2⟩:=xQ.1 h;have ih:=zuK hg h2;cases e:g v with
  | none=>rw [List.filterMap_cons_none e];exact ih
  | some u=>
   rw [List.filterMap_cons_some e];refine xQ.2 ⟨fun w hw=>?_,ih⟩;obtain ⟨w',hw',e'⟩:=List.mem_filterMap.1 hw;rw [hg _ _ e,hg _ _ e'];exact h1 w' hw'
def goB (m:Mes) (w:List zW) (v:Vlu):Bool:= !zkF w v.Number&&decide (zjo w v.Number≠[])&&decide ((zr m (fldI m v.Number)).Kind=17)&& !(zr m (fldI m v.Number)).Repeated
theorem zvA :goB m w v=true↔zkF w v.Number=false/\zjo w v.Number≠[]/\(zr m (fldI m v.Number)).Kind=17/\(zr m (fldI m v.Number)).Repeated=false:=by
 unfold goB;simp only [xp,xM,xP,and_assoc]
def inV (s:List Mes) (m:Mes) (w:List zW) (keep:Bool) (v:Vlu):Vlu:=⟨v.Number,[],[],zlB s v.Subs (zr m (fldI m v.Number)).Of (zjo w v.Number) keep⟩
def zsE (s:List Mes) (m:Mes) (w:List zW) (keep:Bool) (v:Vlu):Option Vlu:=if goB m w v=true then some (inV s m w keep v) else if zkF w v.Number=keep then some v else none
theorem zuz (v u:Vlu) (h:zsE s m w keep v=some u):u.Number=v.Number:=by
 unfold zsE at h;split at h
 ·cases h;rfl
 ·split at h
  ·cases h;rfl
  ·cases h
theorem zuA (s:List Mes) (m:Mes) (w:List zW) (keep:Bool):∀l:List Vlu,zgb s l m w keep=l.filterMap (zsE s m w keep)
 | []=>by rw [zgb];rfl
 | v::l=>by
  rw [zgb,zuA s m w keep l,zos];by_cases hg:goB m w v=true
  ·rw [xm (zvA.1 hg),List.filterMap_cons_some (b:=inV s m w keep v) (by unfold zsE;rw [xm hg])];rfl
  ·rw [xl (fun h=>hg (zvA.2 h))];by_cases hk:zkF w v.Number=keep
   ·rw [xm hk,List.filterMap_cons_some (b:=v) (by unfold zsE;rw [xl hg,xm hk])];rfl
   ·rw [xl hk,List.filterMap_cons_none (by unfold zsE;rw [xl hg,xl hk])];rfl
theorem zFF (hg:goB m w v=true) (hf:zeD s v (zr m (fldI m v.Number))):∃y,v=⟨v.Number,[],[],[y]⟩/\zap s y (zr m (fldI m v.Number)).Of=true/\∀keep,inV s m w keep v=⟨v.Number,[],[],[zor s y (zr m (fldI m v.Number)).Of (zjo w v.Number) keep]⟩:=by
 obtain ⟨_,_,h3,h4⟩:=zvA.1 hg;obtain ⟨y,e,hy⟩:=hf.msg h3 h4;have hs:v.Subs=[y]:=by rw [e]
 refine ⟨y,e,hy,fun keep=>?_⟩;unfold inV;rw [hs,zlB]
theorem zDj (hf:zeD s ⟨n,[],[],[y]⟩ f) (hz:zap s z f.Of=true):zeD s ⟨k,[],[],[z]⟩ f:=
 ⟨by simp [zaq],(fun _=>by simp [zaq]),hf.kind,(fun w hw=>nomatch hw),(fun w hw=>nomatch hw),fun w hw=>by rw [x9.1 hw];exact ⟨(hf.subs y xn).1,hz⟩⟩
theorem zIr (hv:v∈x.Values) (e:v=⟨v.Number,[],[],[y]⟩):szM y<szM x:=by
 have s1:=zdh hv;rw [zdP] at s1;have hs:v.Subs=[y]:=by rw [e]
 have s2:szM y<=szMs v.Subs:=zdg (by rw [hs];exact xn);rw [zbs x];omega
theorem zqi :∀(N:Nat) (x:Msg) (k:Int) (w:List zW) (keep:Bool),szM x<=N->zap s x k=true->zap s (zor s x k w keep) k=true
 | 0,x,k,w,keep,h,_=>by rw [zbs] at h;omega
 | N+1,x,k,w,keep,vO,hx=>by
  obtain ⟨k0,k1,rx,hx',ux⟩:=zaE hx;rw [zsD,zuA];refine zuJ k0 k1 (zuK zuz rx) (fun v hv=>?_) fun u hu=>?_
  ·obtain ⟨v0,hv0,e⟩:=List.mem_filterMap.1 hv;obtain ⟨w0,wf⟩:=hx' v0 hv0;have hn:=zuz _ _ e;unfold zsE at e;by_cases hg:goB (zn s k) w v0=true
   ·rw [xm hg] at e;have hf:=zci wf;obtain ⟨y,e1,hy,hin⟩:=zFF hg hf;rw [hin] at e;have hsy:=zIr hv0 e1;rw [hn];refine ⟨w0,zAn ?_⟩;rw [<-qm e];rw [e1] at hf;exact zDj hf (zqi N y _ _ _ (by omega) hy)
   ·rw [xl hg] at e;by_cases hk:zkF w v0.Number=keep
    ·rw [xm hk] at e;rw [<-qm e];exact ⟨w0,wf⟩
    ·rw [xl hk] at e;cases e
  ·cases keep with
   | true=>exact absurd hu (by simp)
   | false=>exact ux u hu
theorem zsa (s:List Mes) (a:Msg) (m:Mes):∀(l acc:List Vlu),(zfa s l a m acc).length<=acc.length+l.length
 | [],acc=>by rw [zfa];simp
 | v::l,acc=>by
  rw [zfa];have h1:=zsa s a m l (putM ⟨acc,[]⟩ (zej s v (look a.Values v.Number) (zr m (fldI m v.Number)))).Values;have h2:=zEn acc [] (zej s v (look a.Values v.Number) (zr m (fldI m v.Number)));simp only [ya];omega
theorem zAx :∀(N:Nat) (b a:Msg) (k:Int),szM b<=N->zap s a k=true->zap s b k=true->bdM a->bdM b->smM a->smM b->bdM (zhi s b a k)
 | 0,b,a,k,h,_,_,_,_,_,_=>by rw [zbs] at h;omega
 | N+1,b,a,k,vO,ha,hb,ba,bb,sa,sb'=>by
  obtain ⟨_,_,ra,ha',_⟩:=zaE ha;obtain ⟨_,_,rb,hb',_⟩:=zaE hb;obtain ⟨j1,j2⟩:=zpt ha hb;obtain ⟨a1,⟨a2,a3⟩,a4⟩:=(zif a).1 ba;obtain ⟨b1,⟨b2,b3⟩,b4⟩:=(zif b).1 bb;obtain ⟨sa1,⟨sa2,sa3⟩,sa4⟩:=(zsW a).1 sa;obtain ⟨sb1,⟨sb2,sb3⟩,sb4⟩:=(zsW b).1 sb';rw [zbs] at vO;have vF:(zhi s b a k).Values.length<=a.Values.length+b.Values.length:=by rw [zim];exact zsa s a _ _ _
  have hun:(zhi s b a k).Unknown=a.Unknown++b.Unknown:=by rw [zim]
  refine (zif _).2 ⟨by omega,⟨by rw [hun];simp;omega,fun t ht=>by
   rw [hun] at ht;rcases xw.1 ht with h| h
   ·exact a3 t h
   ·exact b3 t h⟩,zdu.2 fun x hx=>?_⟩
  have hl:=zsk j1 hx;rw [j2] at hl;cases hlb:look b.Values x.Number with
  | none=>rw [hlb] at hl;exact zdu.1 a4 x (zcV hl).2
  | some v=>
   rw [hlb] at hl;have e:x=zej s v (look a.Values x.Number) (zr (zn s k) (fldI (zn s k) x.Number)):=(qm hl).symm;obtain ⟨hvn,hvm⟩:=zcV hlb;have bv:=zdu.1 b4 v hvm;have sv:=zjU.1 sb4 v hvm;rw [e,zfe];cases hla:look a.Values x.Number with
   | none=>exact bv
   | some u=>
    obtain ⟨hun',hum⟩:=zcV hla;have bu:=zdu.1 a4 u hum;have su:=zjU.1 sa4 u hum;obtain ⟨v1,⟨v2,v3⟩,⟨v4,v5⟩,v6,v7⟩:=(zfQ v).1 bv;obtain ⟨u1,⟨u2,u3⟩,⟨u4,u5⟩,u6,u7⟩:=(zfQ u).1 bu;obtain ⟨q1,⟨q2,q3⟩,q4,q5⟩:=(zsX v).1 sv;obtain ⟨r1,⟨r2,r3⟩,r4,r5⟩:=(zsX u).1 su;simp only;split
    ·refine (zfQ _).2 ⟨v1,⟨by simp;omega,fun w hw=>?_⟩,⟨by simp;omega,fun w hw=>?_⟩,by simp;omega,zdJ.2 fun w hw=>?_⟩
     ·rcases xw.1 hw with h| h
      ·exact u3 w h
      ·exact v3 w h
     ·rcases xw.1 hw with h| h
      ·exact u5 w h
      ·exact v5 w h
     ·rcases xw.1 hw with h| h
      ·exact zdJ.1 u7 w h
      ·exact zdJ.1 v7 w h
    ·split
     ·rename_i hrep vD;have fv:=hb' v hvm;have fu:=ha' u hum;rw [hvn] at fv;rw [hun'] at fu;have ov:=zci fv.2;have ou:=zci fu.2;refine (zfQ _).2 ⟨v1,⟨by simp,by simp⟩,⟨by simp,by simp⟩,?_⟩;cases hvs:v.Subs with
      | nil=>rw [zhB];exact ⟨by simp,by rw [bdMs];trivial⟩
      | cons y ys=>
       cases hus:u.Subs with
       | nil=>rw [zhB];exact ⟨by simp,by rw [bdMs];trivial⟩
       | cons z zs=>
        rw [zhB];simp only;have hy:y∈v.Subs:=by rw [hvs];exact xn
        have hz:z∈u.Subs:=by rw [hus];exact xn
        have hsv:=zdh hvm;rw [zdP] at hsv;have hsy:=zdg hy;have hj:=zAx N y z _ (by omega) (ou.subs z hz).2 (ov.subs y hy).2 (zdJ.1 u7 z hz) (zdJ.1 v7 y hy) (zjT.1 r5 z hz) (zjT.1 q5 y hy);exact ⟨by simp,by rw [bdMs,bdMs];exact ⟨hj,trivial⟩⟩
     ·exact bv
theorem zqr:∀(l m:List Vlu),szVs (l++m)=szVs l+szVs m
 | [],m=>by rw [xz,szVs];omega
 | v::l,m=>by rw [yc,szVs,szVs,zqr l m];omega
theorem zAX :∀(N:Nat) (x:Msg) (k:Int) (w:List zW) (keep:Bool),szM x<=N->bdM x->bdM (zor s x k w keep)/\szM (zor s x k w keep)<=szM x
 | 0,x,k,w,keep,h,_=>by rw [zbs] at h;omega
 | N+1,x,k,w,keep,vO,hb=>by
  obtain ⟨b1,⟨b2,b3⟩,b4⟩:=(zif x).1 hb;rw [zbs] at vO;have key:∀v∈x.Values,∀f:Fld,(∀u∈zsF s v f w keep,bdV u)/\szVs (zsF s v f w keep)<=szV v:=fun v hv f=>by
   have bv:=zdu.1 b4 v hv;obtain ⟨v1,v2,v3,v6,v7⟩:=(zfQ v).1 bv;have hsv:=zdh hv;have hve:=zdP v;rw [zos];split
   ·cases hs:v.Subs with
    | nil=>
     rw [zlB];refine ⟨fun u hu=>?_,?_⟩
     ·rw [x9.1 hu];exact (zfQ _).2 ⟨v1,⟨by simp,by simp⟩,⟨by simp,by simp⟩,by simp,by rw [bdMs];trivial⟩
     ·rw [szVs,szVs,zdP];simp only;rw [szMs];omega
    | cons y ys=>
     have hy:y∈v.Subs:=by rw [hs];exact xn
     have hsy:=zdg hy;obtain ⟨p1,p2⟩:=zAX N y f.Of (zjo w v.Number) keep (by omega) (zdJ.1 v7 y hy);rw [zlB];refine ⟨fun u hu=>?_,?_⟩
     ·rw [x9.1 hu];exact (zfQ _).2 ⟨v1,⟨by simp,by simp⟩,⟨by simp,by simp⟩,by simp,by rw [bdMs,bdMs];exact ⟨p1,trivial⟩⟩
     ·rw [szVs,szVs,zdP];simp only;rw [szMs,szMs];omega
   ·split
    ·refine ⟨(fun u hu=>by rw [x9.1 hu];exact bv),?_⟩;rw [szVs,szVs];omega
    ·exact ⟨(fun u hu=>by cases hu),(by rw [szVs];omega)⟩
  have all:∀l:List Vlu,(∀v∈l,v∈x.Values)->(∀u∈zgb s l (zn s k) w keep,bdV u)/\szVs (zgb s l (zn s k) w keep)<=szVs l/\(zgb s l (zn s k) w keep).length<=l.length:=by
   intro l
   induction l with
   | nil=>intro _;rw [zgb];exact ⟨(fun u hu=>by cases hu),xr _,xr _⟩
   | cons v l ih=>
    intro h;obtain ⟨i1,i2,i3⟩:=ih fun u hu=>h u (xo _ hu)
    obtain ⟨k1,k2⟩:=key v (h v xn) (zr (zn s k) (fldI (zn s k) v.Number));have k3:=zCg s v (zr (zn s k) (fldI (zn s k) v.Number)) w keep;rw [zgb];refine ⟨fun u hu=>?_,?_,?_⟩
    ·rcases xw.1 hu with hu| hu
     ·exact k1 u hu
     ·exact i1 u hu
    ·rw [zqr,szVs];omega
    ·rw [xt,ya];omega
  obtain ⟨a1,a2,a3⟩:=all x.Values fun v hv=>hv
  rw [zsD];refine ⟨(zif _).2 ⟨by simp only;omega,⟨?_,?_⟩,zdu.2 a1⟩,by rw [zbs,zbs];simp only;omega⟩
  ·simp only;cases keep<;>simp<;>omega
  ·simp only;cases keep with
   | true=>intro t ht;cases ht
   | false=>exact b3
structure Gd (s:List Mes) (root:Int) (n:Nat) (x:Msg):Prop where
 r:zap s x root=true
 b:bdM x
 w:wgM x<=n
theorem Gd.s {s:List Mes} {root:Int} {n:Nat} {x:Msg} (h:Gd s root n x) (hn:n<=1048576):smM x:=zHj _ x (xr _) (yb h.w hn)
theorem Gd.z {s:List Mes} {root:Int} {n fuel:Nat} {x:Msg} (h:Gd s root n x) (hn:n<fuel):szM x<fuel:=Nat.lt_of_le_of_lt (yb (zFc _ x (xr _)) h.w) hn
theorem Gd.join {s:List Mes} {root:Int} {n m:Nat} {a b:Msg} (ha:Gd s root n a) (hb:Gd s root m b) (hn:n<=1048576) (hm:m<=1048576):Gd s root (n+m) (zhi s b a root):=
 ⟨zqa _ b a root (xr _) ha.r hb.r,zAx _ b a root (xr _) ha.r hb.r ha.b hb.b (ha.s hn) (hb.s hm),yb (zAy _ b a root (xr _) ha.r hb.r) (Nat.add_le_add ha.w hb.w)⟩
theorem Gd.part {s:List Mes} {root:Int} {n:Nat} {a:Msg} (ha:Gd s root n a) (w:List zW) (keep:Bool):Gd s root n (zor s a root w keep):=
 ⟨zqi _ a root w keep (xr _) ha.r,(zAX _ a root w keep (xr _) ha.b).1,yb (zAY _ a root w keep (xr _)) ha.w⟩
theorem zvo (h:(zbj s root b d).2=0):argS s root d=0:=by
 unfold zbj at h;by_cases h0:argS s root d=0
 ·exact h0
 ·rw [xm h0] at h;exact h
theorem zws {s:List Mes} {d:Nat} {k:Int} {b:List UInt8} (h:zF s d k b=none):zaD (zn s k) b=((spl 0 b).1.map (fun r=>⟨r,(vwG (zn s k) r).1,(vwG (zn s k) r).2⟩),0,0):=by
 rw [zdD,zbx] at h;unfold zaD;rw [h.2,zzT fun r hr=>zwb (h.1 r hr)];rfl
theorem zmO {s:List Mes} {root:Int} {b:List UInt8} {d:Int} (h:(zbj s root b d).2=0):argS s root d=0/\zF s d.toNat root b=none:=zrV.1 (by unfold is11;simpa using h)
theorem zrA {s:List Mes} {root:Int} {b:List UInt8} {d:Int} (h:argS s root d=0) (hf:zF s d.toNat root b=none):(zbj s root b d).2=0:=by
 have:=(zrV (s:=s) (root:=root) (b:=b) (d:=d)).2 ⟨h,hf⟩;unfold is11 at this;simpa using this
theorem zmN (s:List Mes) (root:Int) (b:List UInt8) (d:Int):0<=(zbj s root b d).2/\(zbj s root b d).2<=255:=by
 have:=zvn s root b d;omega
theorem zGQ:∀n:Nat,(∀x:Msg,szM x<=n->dM x<szM x)/\(∀l:List Msg,szMs l<=n->dMs l<=szMs l)/\(∀v:Vlu,szV v<=n->dV v<szV v)/\∀l:List Vlu,szVs l<=n->dVs l<=szVs l
 | 0=>⟨fun x h=>by rw [zbs] at h;omega,fun l h=>by
   cases l with
   | nil=>simp [dMs]
   | cons x l=>rw [szMs,zbs] at h;omega,fun v h=>by rw [zdP] at h;omega,fun l h=>by
   cases l with
   | nil=>simp [dVs]
   | cons x l=>rw [szVs,zdP] at h;omega⟩
 | n+1=>by
  obtain ⟨i1,i2,i3,i4⟩:=zGQ n;have h2:∀l:List Msg,szMs l<=n->dMs l<=szMs l:=i2;have h4:∀l:List Vlu,szVs l<=n->dVs l<=szVs l:=i4;have k1:∀x:Msg,szM x<=n+1->dM x<szM x:=fun x h=>by rw [zbs] at h|-;rw [zAh];have:=h4 x.Values (by omega);omega
  have k3:∀v:Vlu,szV v<=n+1->dV v<szV v:=fun v h=>by rw [zdP] at h|-;rw [zwG];have:=h2 v.Subs (by omega);omega
  refine ⟨k1,fun l=>?_,k3,fun l=>?_⟩
  ·induction l with
   | nil=>intro _;simp [dMs]
   | cons x l ih=>intro h;rw [szMs] at h|-;rw [dMs];have:=ih (by omega);have:=k1 x (by omega);omega
  ·induction l with
   | nil=>intro _;simp [dVs]
   | cons x l ih=>intro h;rw [szVs] at h|-;rw [dVs];have:=ih (by omega);have:=k3 x (by omega);omega
theorem zIG (x:Msg):dM x<szM x:=(zGQ (szM x)).1 x (xr _)
theorem zBo:∀(fuel:Nat) (x:Msg) (vU:Nat),szM x<fuel->bdM x->dM x<=vU->vU<=1048576->zeh fuel x vU=some ((dM x:Nat):Int)
 | 0,x,_,h,_,_,_=>by omega
 | fuel+1,x,vU,hs,hb,hd,hm=>by
  obtain ⟨b1,_,b4⟩:=(zif x).1 hb;rw [zbs] at hs;rw [zAh] at hd|-;show zkD (zeh fuel) x vU=_;unfold zkD;have inner:∀(v:Vlu),v∈x.Values->∀(c i d:Nat),i+c=v.Subs.length->d<=vU->zeu vU (zeh fuel) v d i=some (.inl ((max d (dMs (v.Subs.drop i)):Nat):Int)):=by
   intro v hv c;have vO:=zdh hv;have hdv:=zqP hv;obtain ⟨_,_,_,c1,c2⟩:=(zfQ _).1 (zdu.1 b4 _ hv);rw [zdP] at vO;rw [zwG] at hdv
   induction c with
   | zero=>
    intro i d hi hdm;have e:v.Subs.drop i=[]:=yE (by omega);rw [e,dMs];refine zoN ?_;unfold zfk;rw [uj,Nat.max_zero]
   | succ c ih=>
    intro i d hi hdm;have hil:i<v.Subs.length:=by omega
    have hm2:=xD hil;have s2:=zdg hm2;have d2:=zvs hm2;rw [yy hil,dMs];have hr:=zBo fuel v.Subs[i] (vU - 1) (by omega) (zdJ.1 c2 _ hm2) (by omega) (by omega);have hmost:i64.wrap ((vU:Int) - 1)=((vU - 1:Nat):Int):=by rw [uk];omega
    have hw:i64.wrap (1+((dM v.Subs[i]:Nat):Int))=1+((dM v.Subs[i]:Nat):Int):=by rw [uk]
    have hmax:(if (d:Int)<1+((dM v.Subs[i]:Nat):Int) then 1+((dM v.Subs[i]:Nat):Int) else (d:Int))=((max d (1+dM v.Subs[i]):Nat):Int):=by
     split<;>omega
    refine (zoM (deep3':=((max d (1+dM v.Subs[i]):Nat):Int)) (v3':=((i+1:Nat):Int)) ?_).trans ?_
    ·unfold zfk;rw [ui,zao rfl hil,sb,uj,hmost,hr,sb,hw,hmax,uj,uk];push_cast;rfl
    ·rw [ih (i+1) (max d (1+dM v.Subs[i])) (by omega) (by omega)];congr 3;omega
  have outer:∀(c i d:Nat),i+c=x.Values.length->d<=vU->zet vU (zeh fuel) x d i=some (.inl ((max d (dVs (x.Values.drop i)):Nat):Int)):=by
   intro c
   induction c with
   | zero=>
    intro i d hi hdm;have e:x.Values.drop i=[]:=yE (by omega);rw [e,dVs];refine zoL ?_;unfold zfj;rw [uj,Nat.max_zero]
   | succ c ih=>
    intro i d hi hdm;have hil:i<x.Values.length:=by omega
    have hmem:=xD hil;have hdv:=zqP hmem;rw [yy hil,dVs];have h2:=inner x.Values[i] hmem (x.Values[i]).Subs.length 0 d (xJ _) hdm;rw [yq,<-zwG] at h2;have h2':zeu vU (zeh fuel) x.Values[i] d 0=_:=h2;refine (zoK (deep':=((max d (dV x.Values[i]):Nat):Int)) (v':=((i+1:Nat):Int)) ?_).trans ?_
    ·unfold zfj;rw [ui,zao rfl hil,sb,h2',sb,uk];push_cast;rfl
    ·rw [ih (i+1) (max d (dV x.Values[i])) (by omega) (by omega)];congr 3;omega
  have h:=outer x.Values.length 0 0 (xJ _) (xB _);have h':zet vU (zeh fuel) x 0 0=_:=h;rw [h',sb,yq,Nat.zero_max]
theorem zCy (hf:szM x<fuel) (hb:bdM x) (hd:dM x<=131072):zny fuel x=some ((dM x:Nat):Int):=by
 unfold zny;have h:=zBo fuel x 131072 hf hb hd (by omega);have h':zeh fuel x 131072=_:=h;rw [h',sb]
theorem zyc (hf:szM x<fuel) (hb:bdM x) (hd:dM x<=131072):zmw fuel x=some true:=by
 unfold zmw;rw [zCy hf hb hd,sb];congr 1;simp;omega
section
open Classical
end
theorem zyT (h:a.length*80<=140737488355328):zbf a=some a:=by
 unfold zbf;rw [zdX (by simp;omega),sb,xz]
theorem zyS (h:a.length*48<=140737488355328):zbE a=some a:=by
 unfold zbE;rw [zdX (by simp;omega),sb,xz]
theorem ztS (h:a.length*16<=140737488355328):zbk a=some a:=by
 unfold zbk;rw [zdX (by simp;omega),sb,xz]
theorem zBC (h:a.length*8<=140737488355328):zcw a=some a:=by
 unfold zcw;rw [zdX (by simp;omega),sb,xz]
theorem zsT {α:Type}:∀(l:List α) (i:Nat) (h:i<l.length),l.set i l[i]=l
 | [],i,h=>by simp at h
 | x::l,0,h=>rfl
 | x::l,i+1,h=>by simp only [List.set_cons_succ,pV];rw [zsT l i (by simpa using h)]
theorem zBn:∀(fuel:Nat),(∀x:Msg,szM x<fuel->bdM x->zfJ fuel x=some x)/\∀v:Vlu,szV v<fuel->bdV v->zdQ fuel v=some v
 | 0=>⟨fun x h=>by omega,fun v h=>by omega⟩
 | fuel+1=>by
  obtain ⟨ih1,ih2⟩:=zBn fuel;refine ⟨fun x hs hb=>?_,fun v hs hb=>?_⟩
  ·obtain ⟨b1,⟨b2,b3⟩,b4⟩:=(zif x).1 hb;rw [zbs] at hs;show zjn (zfJ fuel) (zdQ fuel) x=_;unfold zjn;have hloop:∀(c i:Nat),i+c=x.Values.length->zdR (zdQ fuel) x.Values x.Values i=some x.Values:=by
    intro c
    induction c with
    | zero=>
     intro i hi;refine znB ?_;unfold zeN;rw [uj]
    | succ c ih=>
     intro i hi;have hil:i<x.Values.length:=by omega
     have hm:=xD hil;have:=zdh hm;refine (znA (v':=x.Values) (v2':=((i+1:Nat):Int)) ?_).trans (ih (i+1) (by omega));unfold zeN;rw [ui,zao rfl hil,sb,ih2 _ (by omega) (zdu.1 b4 _ hm),sb,sb,uk,xA,zsT _ _ hil];push_cast;rfl
   have h:=hloop x.Values.length 0 (xJ _);have h':zdR (zdQ fuel) x.Values x.Values 0=_:=h;rw [zyT (by omega),sb,ztS (by omega),sb,h',sb];cases x;rfl
  ·obtain ⟨b0,⟨b1,_⟩,⟨b2,b3⟩,b4,b5⟩:=(zfQ v).1 hb;rw [zdP] at hs;show zfu (zfJ fuel) (zdQ fuel) v=_;unfold zfu;have hloop:∀(c i:Nat),i+c=v.Subs.length->zbT (zfJ fuel) v.Subs v.Subs i=some v.Subs:=by
    intro c
    induction c with
    | zero=>
     intro i hi;refine zjY ?_;unfold zcQ;rw [uj]
    | succ c ih=>
     intro i hi;have hil:i<v.Subs.length:=by omega
     have hm:=xD hil;have:=zdg hm;refine (zjX (v2':=v.Subs) (v3':=((i+1:Nat):Int)) ?_).trans (ih (i+1) (by omega));unfold zcQ;rw [ui,zao rfl hil,sb,ih1 _ (by omega) (zdJ.1 b5 _ hm),sb,sb,uk,xA,zsT _ _ hil];push_cast;rfl
   have h:=hloop v.Subs.length 0 (xJ _);have h':zbT (zfJ fuel) v.Subs v.Subs 0=_:=h;rw [zBC (by omega),sb,ztS (by omega),sb,zyS (by omega),sb,h',sb];cases v;rfl
theorem zET (hf:szM x<fuel) (hb:bdM x) (hd:dM x<=131072):zpM fuel x=some x:=by
 unfold zpM;rw [zyc hf hb hd,sb,uh,(zBn fuel).1 x hf hb,sb]
end Go.Proofs.YtaglemhabeipfaaGreat
