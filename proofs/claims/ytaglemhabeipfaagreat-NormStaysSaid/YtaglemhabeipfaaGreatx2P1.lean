/-
  What the plain functions are. No condition.
-/
import Derived.Test.YtaglemhabeipfaaGreatx2S1
import Derived.Test.YtaglemhabeipfaaGreatx2K3
set_option autoImplicit true
set_option relaxedAutoImplicit true
namespace Go.Proofs.YtaglemhabeipfaaGreat
open Go.IntKind (i64 u64)
open Go
def cont (c:UInt8):Bool:=decide (128<=c.toNat/\c.toNat<192)
def is1:List UInt8->Bool
 | a::_=>decide (a.toNat<128)
 | _=>false
def is2:List UInt8->Bool
 | a::b::_=>decide (194<=a.toNat/\a.toNat<224/\cont b=true)
 | _=>false
def is3:List UInt8->Bool
 | a::b::c::_=>decide (224<=a.toNat/\a.toNat<240/\cont b=true/\cont c=true/\(a.toNat=224->160<=b.toNat)/\(a.toNat=237->b.toNat<160))
 | _=>false
def is4:List UInt8->Bool
 | a::b::c::d::_=>decide (240<=a.toNat/\a.toNat<245/\cont b=true/\cont c=true/\cont d=true/\(a.toNat=240->144<=b.toNat)/\(a.toNat=244->b.toNat<144))
 | _=>false
def nxt (l:List UInt8):Nat:=if is1 l then 1 else if is2 l then 2 else if is3 l then 3 else if is4 l then 4 else 0
def isN (n:Nat) (l:List UInt8):Bool:=match n with
 | 1=>is1 l
 | 2=>is2 l
 | 3=>is3 l
 | 4=>is4 l
 | _=>false
theorem zmJ (h:isN n l=true):∃a t,l=a::t/\n<=l.length/\(n=1/\a.toNat<128\/n=2/\194<=a.toNat/\a.toNat<224\/n=3/\224<=a.toNat/\a.toNat<240\/n=4/\240<=a.toNat):=by
 match n,l with
 | 1,a::t=>simp only [isN,is1,yc] at h;exact ⟨a,t,rfl,by simp,.inl ⟨rfl,h⟩⟩
 | 2,a::b::t=>simp only [isN,is2,yc] at h;exact ⟨a,_,rfl,by simp,.inr (.inl ⟨rfl,h.1,h.2.1⟩)⟩
 | 3,a::b::c::t=>simp only [isN,is3,yc] at h;exact ⟨a,_,rfl,by simp,.inr (.inr (.inl ⟨rfl,h.1,h.2.1⟩))⟩
 | 4,a::b::c::d::t=>simp only [isN,is4,yc] at h;exact ⟨a,_,rfl,by simp,.inr (.inr (.inr ⟨rfl,h.1⟩))⟩
 | 0,_=>cases h
 | 1,[]=>cases h
 | 2,[]=>cases h
 | 2,[_]=>cases h
 | 3,[]=>cases h
 | 3,[_]=>cases h
 | 3,[_,_]=>cases h
 | 4,[]=>cases h
 | 4,[_]=>cases h
 | 4,[_,_]=>cases h
 | 4,[_,_,_]=>cases h
 | _+5,_=>cases h
theorem zLl (h:isN n l=true) (h':isN m l=true):n=m:=by
 grind [zmJ]
theorem zNx (h:isN n l=true):nxt l=n:=by
 obtain ⟨_,_,_,_,g⟩:=zmJ h;have k:∀m,m≠n->isN m l=false:=fun m hm=>by
  cases hh:isN m l with
  | false=>rfl
  | true=>exact absurd (zLl hh h) hm
 have hn:n=1\/n=2\/n=3\/n=4:=by omega
 rcases hn with rfl| rfl| rfl| rfl
 ·simp only [isN] at h;simp [nxt,h]
 ·have j1:=k 1 (by omega);simp only [isN] at h j1;simp [nxt,h,j1]
 ·have j1:=k 1 (by omega);have j2:=k 2 (by omega);simp only [isN] at h j1 j2;simp [nxt,h,j1,j2]
 ·have j1:=k 1 (by omega);have j2:=k 2 (by omega);have j3:=k 3 (by omega);simp only [isN] at h j1 j2 j3;simp [nxt,h,j1,j2,j3]
theorem zvv (h:nxt l≠0):isN (nxt l) l=true:=by
 unfold nxt at h|-;by_cases h1:is1 l=true
 ·simp [h1,isN]
 ·by_cases h2:is2 l=true
  ·simp [h1,h2,isN]
  ·by_cases h3:is3 l=true
   ·simp [h1,h2,h3,isN]
   ·by_cases h4:is4 l=true
    ·simp [h1,h2,h3,h4,isN]
    grind
theorem zwN (l:List UInt8):nxt l<=l.length:=by
 grind [zmJ,zvv]
theorem zLG (l:List UInt8):nxt l<=4:=by
 grind [zmJ,zvv]
def fst4 (m:Int) (l:List UInt8):Nat×Nat:=
 if h:nxt l=0\/(nxt l:Int)>m then (0,0) else (nxt l+(fst4 (m - nxt l) (l.drop (nxt l))).1,(fst4 (m - nxt l) (l.drop (nxt l))).2+1)
termination_by l.length
decreasing_by all_goals (have:=zwN l;simp only [yi];omega)
theorem zyT (h:nxt l=0\/(nxt l:Int)>m):fst4 m l=(0,0):=by rw [fst4,dif_pos h]
theorem zFI (h:¬(nxt l=0\/(nxt l:Int)>m)):fst4 m l=(nxt l+(fst4 (m - nxt l) (l.drop (nxt l))).1,(fst4 (m - nxt l) (l.drop (nxt l))).2+1):=by rw [fst4,dif_neg h]
def pre4 (l:List UInt8):Nat×Nat:=fst4 l.length l
theorem zIV (h:(l.length:Int)<=m):fst4 m l=pre4 l:=by
 have key:∀(n:Nat) (l:List UInt8) (m m':Int),l.length=n->(l.length:Int)<=m->(l.length:Int)<=m'->fst4 m l=fst4 m' l:=by
  intro n
  induction n using Nat.strongRecOn with
  | _ n ih=>
   grind [zwN,zyT,zFI]
 exact key _ l m l.length rfl h (qt _)
theorem zHN (h:nxt l=0):pre4 l=(0,0):=zyT (.inl h)
theorem zLN (h:nxt l≠0):pre4 l=(nxt l+(pre4 (l.drop (nxt l))).1,(pre4 (l.drop (nxt l))).2+1):=by
 grind [pre4,zwN,zFI,zIV]
theorem zJS (P:List UInt8->Prop) (h0:∀l,nxt l=0->P l) (h1:∀l,nxt l≠0->P (l.drop (nxt l))->P l) (l:List UInt8):P l:=by
 generalize hn:l.length=n
 induction n using Nat.strongRecOn generalizing l with
 | _ n ih=>
  grind [zwN]
def ziB (l:List UInt8):Bool:=decide ((pre4 l).1=l.length)
def enc (v:Nat):List UInt8:=if v<128 then [UInt8.ofNat v] else UInt8.ofNat (128+v%128)::enc (v/128)
termination_by v
decreasing_by omega
def scan:Nat->Nat->List UInt8->Unit⊕(Int×Int×Int)
 | _,_,[]=> .inl ()
 | i,acc,c::t=>if i=9/\1<c.toNat then .inr (0,0,4) else if c.toNat<128 then .inr (((acc+c.toNat%128*128^i:Nat):Int),((i+1:Nat):Int),0) else scan (i+1) (acc+c.toNat%128*128^i) t
def rdR:Unit⊕(Int×Int×Int)->Int×Int×Int
 | .inl _=>(0,0,3)
 | .inr r=>r
def rd (b:List UInt8):Int×Int×Int:=rdR (scan 0 0 (b.take 10))
def hor:List UInt8->Nat
 | []=>0
 | c::t=>c.toNat%128+128*hor t
def lead:Nat->List UInt8->Nat
 | 0,_=>0
 | _+1,[]=>0
 | k+1,c::t=>if 128<=c.toNat then lead k t+1 else 0
theorem zMI (i:Nat):2^(7*i)=128^i:=by rw [Nat.pow_mul]
theorem zKX (c:Nat):c&&&127=c%128:=uF c 7
theorem zHR {acc i c:Nat} (hi:i<=9) (hacc:acc<128^i) (hc:c<256) (h9:i=9->c<=1):
  orI .u64 (acc:Int) (shlI .u64 (u64.wrap (andI .u8 (c:Int) 127)) ((7*i:Nat):Int))=((acc+c%128*128^i:Nat):Int):=by
 have e1:andI .u8 (c:Int) 127=((c%128:Nat):Int):=by
  have:=zBz (k:= .u8) rfl (a:=c) (b:=127) (by simpa [IntKind.bits] using hc) (by simp [IntKind.bits]);rw [zKX] at this;exact this
 have hp:128^i<=128^9:=pp (by omega) hi;have wP:c%128*128^i<18446744073709551616:=by
  by_cases h:i=9
  ·grind
  ·have h3:128^i<=128^8:=pp (by omega) (by omega);have:=uq (show c%128<=127 by omega) h3;omega
 have e2:shlI .u64 (u64.wrap ((c%128:Nat):Int)) ((7*i:Nat):Int)=((c%128*128^i:Nat):Int):=by
  unfold shlI;rw [zth rfl (by simp [IntKind.bits];omega),xK,yU (by simp [IntKind.bits];omega)];have h4:((c%128:Nat):Int)*2^(7*i)=((c%128*128^i:Nat):Int):=by rw [<-zMI];push_cast;rfl
  rw [h4];exact zth rfl (by simpa [IntKind.bits] using wP)
 rw [e1,e2,zvx rfl (by simp [IntKind.bits];omega) (by simpa [IntKind.bits] using wP)];congr 1;rw [<-zMI] at hacc|-;exact zwU _ _ _ hacc
theorem zHQ:∀(t:List UInt8) (v:List UInt8) (i acc:Nat),v.drop i=t->i+t.length=v.length->v.length<=10->acc<128^i->zfK v acc i=some (scan i acc t):=by
 intro t
 induction t with
 | nil=>
  intro v i acc _ hl _ _;refine zhO ?_;unfold zeb;rw [itF (by simp at hl|-;omega)];rfl
 | cons c t ih=>
  intro v i acc hd hl hv hacc;simp only [yk] at hl;have hget:v[i]'(by omega)=c:=by
   have h1:v.drop i=v[i]'(by omega)::v.drop (i+1):=yF (by omega)
   grind
  have hd':v.drop (i+1)=t:=by rw [<-yA,hd];rfl
  have hc:=c.toNat_lt;have hb:zeb v acc i=if i=9/\1<c.toNat then some (.inr (.inr (0,0,4))) else if c.toNat<128 then some (.inr (.inr (((acc+c.toNat%128*128^i:Nat):Int),((i+1:Nat):Int),0))) else some (.inl (((acc+c.toNat%128*128^i:Nat):Int),((i+1:Nat):Int))):=by
   unfold zeb;rw [uM,zag rfl (show i<v.length by omega),sb,hget];by_cases h9:i=9/\1<c.toNat
   ·grind
   ·rw [xx h9,uN,uO];have e:((7:Int)*(i:Int))=((7*i:Nat):Int):=by push_cast;rfl
    rw [e,zDe,sb,zHR (by omega) hacc (by omega) (by omega),uO]
    grind
  rw [scan];split at hb
  ·rename_i h9;rw [xy h9];exact zhO hb
  ·rename_i h9;rw [xx h9];split at hb
   ·rename_i h8;rw [xy h8];exact zhO hb
   ·rename_i h8;rw [xx h8,zrC hb];refine ih v (i+1) _ hd' (by omega) hv ?_;rw [yR];have:=yG (128^i) (show c.toNat%128<=127 by omega);omega
theorem zvC (b:List UInt8):zfP b=some (rd b):=by
 unfold zfP rd;have e:(if (10:Int)<(b.length:Int) then (10:Int) else (b.length:Int))=((min 10 b.length:Nat):Int):=by split<;>omega
 have e2:b.take (min 10 b.length)=b.take 10:=by rw [List.take_eq_take_iff];omega
 rw [e,zwc rfl (by omega),sb,e2];have h:=zHQ (b.take 10) (b.take 10) 0 0 rfl (by simp) (by simp;omega) (by simp);have h':zfK (b.take 10) 0 0=some (scan 0 0 (b.take 10)):=h;rw [h',sb];cases scan 0 0 (b.take 10)<;>rfl
theorem zGC (b:List UInt8):zie b=some ((rd b).2.1,(rd b).2.2):=by unfold zie;rw [zvC,sb]
theorem zFX:∀(k:Nat) (l:List UInt8),lead k l<=k/\lead k l<=l.length
 | 0,_=>⟨xE _,xP _⟩
 | _+1,[]=>⟨xP _,xE _⟩
 | k+1,c::t=>by
  have:=zFX k t;rw [lead];split<;>simp<;>omega
theorem zHT:∀(l:List UInt8) (i acc:Nat),i+l.length<=10->i<=9->
  scan i acc l=if i+lead (10 - i) l=10 then .inr (0,0,4) else if lead (10 - i) l=l.length then .inl () else if i+lead (10 - i) l=9/\1<(l.getD (lead (10 - i) l) 0).toNat then .inr (0,0,4) else
   .inr (((acc+hor (l.take (lead (10 - i) l+1))*128^i:Nat):Int),((i+lead (10 - i) l+1:Nat):Int),0):=by
 intro l
 induction l with
 | nil=>
  intro i acc _ hi;obtain ⟨k,hk⟩:∃k,10 - i=k+1:=⟨9 - i,by omega⟩;rw [hk];simp only [lead,scan,yB]
  grind
 | cons c t ih=>
  intro i acc hl hi;obtain ⟨k,hk⟩:∃k,10 - i=k+1:=⟨9 - i,by omega⟩;simp only [yk] at hl;rw [scan];by_cases hc:128<=c.toNat
  ·have e:lead (10 - i) (c::t)=lead k t+1:=by rw [hk,lead,xy hc]
   rw [e];by_cases h9:i=9
   ·have:k=0:=by omega
    subst this;rw [xy ⟨h9,by omega⟩,lead,xy (by omega)]
   ·rw [xx (by omega),xx (by omega),ih (i+1) _ (by omega) (by omega),show 10 - (i+1)=k by omega];by_cases h1:i+1+lead k t=10
    ·grind
    ·rw [xx h1,xx (show ¬i+(lead k t+1)=10 by omega)];by_cases h2:lead k t=t.length
     ·grind
     ·rw [xx h2,xx (show ¬lead k t+1=(c::t).length by simp;omega)];have eg:(c::t).getD (lead k t+1) 0=t.getD (lead k t) 0:=by simp [List.getD]
      rw [eg];by_cases h3:i+1+lead k t=9/\1<(t.getD (lead k t) 0).toNat
      ·grind
      ·rw [xx h3,xx (show ¬(i+(lead k t+1)=9/\1<(t.getD (lead k t) 0).toNat) by omega)];rw [pF,hor,yR]
       grind
  ·have e:lead (10 - i) (c::t)=0:=by rw [hk,lead,xx hc]
   rw [e];simp only [yD,yk,List.getD_cons_zero];rw [xx (show ¬i=10 by omega),xx (show ¬0=t.length+1 by omega)];by_cases h9:i=9/\1<c.toNat
   ·grind
   ·rw [xx h9,xx h9,xy (show c.toNat<128 by omega)];simp [hor]
theorem zEn (x y:List UInt8):hor (x++y)=hor x+128^x.length*hor y:=by
 induction x with
 | nil=>simp [hor]
 | cons c t ih=>simp only [yo,hor,ih,yk,yR,Nat.mul_add];rw [yZ (128^t.length) 128,qY];omega
theorem zIX (l:List UInt8):hor l<128^l.length:=by
 induction l with
 | nil=>simp [hor]
 | cons c t ih=>simp only [hor,yk,yR];omega
theorem zNY (hn:n<=9) (hC:C<256) (h9:¬(n=9/\1<C)) (hX:X<128^n):X+128^n*(C%128)<18446744073709551616:=by
 by_cases h9':n=9
 ·subst h9';omega
 ·have h5:128^n<=128^8:=pp (by omega) (by omega);have h6:C%128<=127:=by omega
  have:=uq h5 h6;omega
theorem zzc:∀(k:Nat) (l:List UInt8),lead k (l.take k)=lead k l
 | 0,_=>rfl
 | _+1,[]=>rfl
 | k+1,c::t=>by simp only [pF,lead,zzc k t]
theorem zzb:∀(k:Nat) (l:List UInt8),(∀y∈l.take (lead k l),128<=y.toNat)/\∀(h:lead k l<l.length),lead k l<k->(l[lead k l]).toNat<128
 | 0,_=>⟨fun y hy=>by simp [lead] at hy,fun _ h=>by omega⟩
 | _+1,[]=>⟨fun y hy=>by simp at hy,fun h=>by simp at h⟩
 | k+1,c::t=>by
  obtain ⟨h1,h2⟩:=zzb k t;by_cases hc:128<=c.toNat
  ·have e:lead (k+1) (c::t)=lead k t+1:=by rw [lead,xy hc]
   grind
  ·have e:lead (k+1) (c::t)=0:=by rw [lead,xx hc]
   grind
theorem zlu (b:List UInt8):rd b=(0,0,4)\/(rd b=(0,0,3)/\b.length<=9)\/
  ∃x c y,b=x++c::y/\(∀z∈x,128<=z.toNat)/\c.toNat<128/\x.length<=9/\hor (x++[c])<18446744073709551616/\rd b=(((hor (x++[c]):Nat):Int),((x.length+1:Nat):Int),0):=by
 have hle:=zFX 10 b;have hs:=zHT (b.take 10) 0 0 (by simp;omega) (by omega);simp only [xR,qz,zzc,Nat.pow_zero,y8] at hs;unfold rd;rw [hs];by_cases h10:lead 10 b=10
 ·rw [xy h10];exact .inl rfl
 ·rw [xx h10];by_cases hl:lead 10 b=(b.take 10).length
  ·rw [xy hl];refine .inr (.inl ⟨rfl,?_⟩);rw [xZ] at hl;omega
  ·rw [xx hl];rw [xZ] at hl;have wP:lead 10 b<b.length:=by omega
   have hg:(b.take 10).getD (lead 10 b) 0=b[lead 10 b]:=by
    grind
   rw [hg,qi,yU (by omega)];have hc:=(b[lead 10 b]).toNat_lt;by_cases h9:lead 10 b=9/\1<(b[lead 10 b]).toNat
   ·rw [xy h9];exact .inl rfl
   ·rw [xx h9];obtain ⟨hf1,hf2⟩:=zzb 10 b;have hsp:b.take (lead 10 b+1)=b.take (lead 10 b)++[b[lead 10 b]]:=by
     simp_all
    have wS:(b.take (lead 10 b)).length=lead 10 b:=by rw [xZ];omega
    refine .inr (.inr ⟨b.take (lead 10 b),b[lead 10 b],b.drop (lead 10 b+1),?_,hf1,hf2 wP (by omega),by omega,?_,?_⟩)
    ·simp_all
    ·rw [zEn];have h3:=zIX (b.take (lead 10 b));rw [wS] at h3|-;simp only [hor,Nat.mul_zero,yD];exact zNY (by omega) (by omega) h9 h3
    ·rw [hsp,wS];simp [rdR]
theorem zrh (h:v<128):enc v=[UInt8.ofNat v]:=by rw [enc,xy h]
theorem zAt (h:¬v<128):enc v=UInt8.ofNat (128+v%128)::enc (v/128):=by rw [enc,xx h]
theorem zhD:∀(v:Nat),(enc v).length=lenN v:=by
 intro v
 induction v using Nat.strongRecOn with
 | _ v ih=>
  grind [zrh,zdA,zAt,zdd]
theorem zim {v:Nat} (h:v<18446744073709551616):1<=(enc v).length/\(enc v).length<=10:=by
 rw [zhD];exact ⟨zmM v,zsd h⟩
theorem zKh:∀(v i acc:Nat) (more:List UInt8),v*128^i<18446744073709551616->scan i acc (enc v++more)= .inr (((acc+v*128^i:Nat):Int),((i+(enc v).length:Nat):Int),0):=by
 intro v
 induction v using Nat.strongRecOn with
 | _ v ih=>
  intro i acc more hv;have h9:i=9->v<=1:=fun h=>by
   grind
  by_cases h:v<128
  ·have e:(UInt8.ofNat v).toNat=v:=by simp;omega
   rw [zrh h,List.singleton_append,scan,e,xx (by omega),xy h,qF h];rfl
  ·have e:(UInt8.ofNat (128+v%128)).toNat=128+v%128:=by simp;omega
   rw [zAt h,yo,scan,e,xx (by omega),xx (by omega)];have h2:v/128*128^(i+1)<=v*128^i:=by
    rw [yR,yZ (128^i) 128,<-qY];exact yG _ (by omega)
   rw [ih (v/128) (by omega) (i+1) _ _ (by omega)];have e3:acc+(128+v%128)%128*128^i+v/128*128^(i+1)=acc+v*128^i:=by
    have e5:v/128*128^(i+1)=v/128*128*128^i:=by rw [yR,yZ (128^i) 128,<-qY]
    rw [e5,show (128+v%128)%128=v%128 by omega,ph,<-Nat.add_mul,show v%128+v/128*128=v by omega]
   grind
theorem zxe {v:Nat} (more:List UInt8) (h:v<18446744073709551616):rd (enc v++more)=((v:Int),(((enc v).length:Nat):Int),0):=by
 unfold rd;rw [qD,yM (zim h).2,zKh v 0 0 _ (by simpa using h)];simp [rdR]
theorem zKl (v:Nat):shrI .u64 (v:Int) 7=((v/128:Nat):Int):=zsG (k:= .u64) (a:=v) (b:=7) (by simp [IntKind.bits])
theorem zJw:∀(w n:Nat),n+w<9223372036854775808+w->n+lz w<=1152921504606846976->zjD w n=some ((n+lz w:Nat):Int):=by
 intro w
 induction w using Nat.strongRecOn with
 | _ w ih=>
  intro n hn hl;by_cases h:w=0
  ·subst h;refine zuP ?_;rfl
  ·have e:=zNu h;refine (zuO (wv2':=((w/128:Nat):Int)) (n':=((n+1:Nat):Int)) ?_).trans ?_
   ·grind [zhQ,sb,wrap_i64,zKl]
   ·rw [ih (w/128) (by omega) (n+1) (by omega) (by omega)];congr 2;omega
theorem zJv {v:Nat} (h:v<18446744073709551616):zmx (v:Int)=some ((lenN v:Nat):Int):=by
 unfold zmx;have h1:=zNt v;have h2:=zsd h;have h3:=zJw (v/128) 1 (by omega) (by omega)
 grind [zKl,sb]
theorem zNA:∀n<256,n||| 128=n%128+128:=by decide+kernel
theorem zJU:∀(v:Nat) (l:List UInt8),v<18446744073709551616->l.length+(enc v).length<=1152921504606->∃(v':Nat) (l':List UInt8),zhB (v:Int) l=some ((v':Int),l')/\v'<128/\l'++[UInt8.ofNat v']=l++enc v:=by
 intro v
 induction v using Nat.strongRecOn with
 | _ v ih=>
  intro l hv hl;by_cases h:v<128
  ·refine ⟨v,l,zsZ ?_,h,by rw [zrh h]⟩;unfold zfu
   grind
  ·rw [zAt h,yk] at hl;obtain ⟨v',l',h1,h2,h3⟩:=ih (v/128) (by omega) (l++[UInt8.ofNat (128+v%128)]) (by omega) (by simp;omega);refine ⟨v',l',?_,h2,by rw [h3,zAt h];simp⟩;refine (zsY (wv2':=((v/128:Nat):Int)) (l':=l++[UInt8.ofNat (128+v%128)]) ?_).trans h1;unfold zfu;have e1:(v:Int)%256=((v%256:Nat):Int):=by omega
   have e2:orI .u8 ((v%256:Nat):Int) 128=((v%128+128:Nat):Int):=by
    have:=zvx (k:= .u8) rfl (a:=v%256) (b:=128) (by simp [IntKind.bits];omega) (by simp [IntKind.bits])
    grind [zNA]
   grind [zBv,zyB,sb,zeD,zKl]
theorem zEQ {v:Nat} (b:List UInt8) (h:v<18446744073709551616) (hb:b.length<=1099511627776):zhN b (v:Int)=some (b++enc v):=by
 unfold zhN;have h1:=zsd h;have h2:=(zim h).2;rw [zJv h,sb,uO,zLC (by omega) (by omega),sb,zeD (by simp;omega),sb];obtain ⟨v',l',h3,h4,h5⟩:=zJU v b h (by omega);have wS:l'.length+1=b.length+(enc v).length:=by have:=congrArg List.length h5;simpa using this
 grind [sb,zBv,zyB,zeD]
theorem zxo (a b:List UInt8):zcY a b=some (a==b):=rfl
def zbL (n w:Int):Bool:=decide (1<=n/\n<=536870911/\(w=0\/w=1\/w=2\/w=5))
def tgR (r:Int×Int×Int):Int×Int×Int×Int:=
 if r.2.2≠0 then (0,0,0,r.2.2) else if 4294967295<r.1\/zbL (r.1/8) (r.1%8)=false then (0,0,0,5) else (r.1/8,r.1%8,r.2.1,0)
def tg (l:List UInt8):Int×Int×Int×Int:=tgR (rd l)
def tW (n w:Int):Nat:=(8*n+w).toNat
theorem zdf :zbL n w=true↔1<=n/\n<=536870911/\(w=0\/w=1\/w=2\/w=5):=by simp [zbL]
theorem zhX (l:List UInt8):0<=(rd l).1/\(rd l).1<18446744073709551616/\0<=(rd l).2.1/\(rd l).2.1<=10/\(rd l).2.1<=l.length/\((rd l).2.2=0\/(rd l).2.2=3\/(rd l).2.2=4)/\((rd l).2.2=0->1<=(rd l).2.1):=by
 rcases zlu l with h| ⟨h,_⟩| ⟨x,c,y,e,_,_,hl,hv,h⟩
 ·rw [h];simp
 ·rw [h];simp
 ·have:l.length=x.length+1+y.length:=by rw [e];simp;omega
  rw [h];refine ⟨?_,?_,?_,?_,?_,.inl rfl,fun _=>?_⟩<;>simp only<;>omega
theorem zGy (x:List UInt8) (c:UInt8) (y:List UInt8) (hx:∀z∈x,128<=z.toNat) (hc:c.toNat<128) (hl:x.length<=9) (hv:hor (x++[c])<18446744073709551616):
  rd (x++c::y)=(((hor (x++[c]):Nat):Int),((x.length+1:Nat):Int),0):=by
 have key:∀(x:List UInt8) (z:List UInt8) (i acc:Nat),(∀z∈x,128<=z.toNat)->i+x.length<=9->acc+hor (x++[c])*128^i<18446744073709551616->scan i acc (x++c::z)= .inr (((acc+hor (x++[c])*128^i:Nat):Int),((i+x.length+1:Nat):Int),0):=by
  intro x
  induction x with
  | nil=>
   intro z i acc _ hi hv;have e1:hor ([]++[c])=c.toNat:=by simp [hor];omega
   rw [e1] at hv|-;rw [xL,scan,xx,xy hc,qF hc]
   ·rfl
   ·rintro ⟨rfl,h2⟩;have:=yG (128^9) (show 2<=c.toNat by omega);omega
  | cons d x ih=>
   intro z i acc hx hi hv;simp only [yk] at hi;have hd:=hx d xz;have e5:acc+hor ((d::x)++[c])*128^i=acc+d.toNat%128*128^i+hor (x++[c])*128^(i+1):=by
    rw [yo,hor,yR,Nat.add_mul,yZ (128^i) 128,<-qY,yZ (hor (x++[c])) 128];omega
   rw [e5] at hv|-;rw [yo,scan,xx (by omega),xx (by omega),ih z (i+1) _ (fun z hz=>hx z (xA _ hz)) (by omega) hv,yk];congr 3;omega
 unfold rd;have e2:(x++c::y).take 10=x++c::y.take (9 - x.length):=by
  rw [qD,yM (by omega),show 10 - x.length=(9 - x.length)+1 by omega,pF]
 rw [e2,key x _ 0 0 hx (by omega) (by simpa using hv)];simp [rdR]
theorem zqk (l m:List UInt8) (h:(rd l).2.2=0):rd (l++m)=rd l:=by
 rcases zlu l with h'| ⟨h',_⟩| ⟨x,c,y,e,hx,hc,hl,hv,h'⟩
 ·rw [h'] at h;cases h
 ·rw [h'] at h;cases h
 ·rw [h',e,yy,yo,zGy x c _ hx hc hl hv]
theorem zzK (l m:List UInt8) (h:(rd l).2.2=0):tg (l++m)=tg l:=by unfold tg;rw [zqk l m h]
theorem zGL (h:r.2.2≠0):tgR r=(0,0,0,r.2.2):=xy h
theorem zxz (h:r.2.2=0) (h2:4294967295<r.1\/zbL (r.1/8) (r.1%8)=false):tgR r=(0,0,0,5):=by unfold tgR;rw [xx (by simp [h]),xy h2]
theorem zFd (h:r.2.2=0) (h2:¬(4294967295<r.1\/zbL (r.1/8) (r.1%8)=false)):tgR r=(r.1/8,r.1%8,r.2.1,0):=by unfold tgR;rw [xx (by simp [h]),xx h2]
theorem zDl (l:List UInt8):(∃c,tg l=(0,0,0,c)/\(c=3\/c=4\/c=5))\/∃n w k,tg l=(n,w,k,0)/\zbL n w=true/\1<=k/\k<=10/\k<=l.length/\rd l=(8*n+w,k,0):=by
 obtain ⟨h1,h2,h3,h4,h5,h6,h7⟩:=zhX l;unfold tg;by_cases h:(rd l).2.2=0
 ·by_cases hg:4294967295<(rd l).1\/zbL ((rd l).1/8) ((rd l).1%8)=false
  ·exact .inl ⟨5,zxz h hg,by omega⟩
  ·refine .inr ⟨_,_,_,zFd h hg,?_,h7 h,h4,h5,?_⟩
   ·cases ht:zbL ((rd l).1/8) ((rd l).1%8)
    ·exact absurd (.inr ht) hg
    ·rfl
   ·refine pq ?_ (pq rfl h);simp only;omega
 ·exact .inl ⟨_,zGL h,by omega⟩
theorem zsJ {n w:Int} (h:zbL n w=true):((tW n w:Nat):Int)=8*n+w/\tW n w<4294967296:=by
 have:=zdf.1 h;unfold tW;omega
theorem zLs {v:Nat} (h:v<34359738368):lenN v<=5:=by
 by_cases h1:v<128
 ·rw [zdA h1];omega
 ·rw [zdd h1];by_cases h2:v/128<128
  ·rw [zdA h2];omega
  ·rw [zdd h2];by_cases h3:v/128/128<128
   ·rw [zdA h3];omega
   ·rw [zdd h3];by_cases h4:v/128/128/128<128
    ·rw [zdA h4];omega
    ·rw [zdd h4,zdA (by omega)];omega
theorem zNT {n w:Int} (more:List UInt8) (h:zbL n w=true):tg (enc (tW n w)++more)=(n,w,((enc (tW n w)).length:Int),0):=by
 have hr:=zdf.1 h;obtain ⟨e,wP⟩:=zsJ h;unfold tg;rw [zxe more (by omega)];have e1:((tW n w:Nat):Int)/8=n:=by omega
 have e2:((tW n w:Nat):Int)%8=w:=by omega
 rw [zFd rfl (by simp only [e1,e2,h];simp;omega)];simp only [e1,e2]
set_option linter.unusedVariables false
abbrev Rec:=zt
def zgE (w:Int) (k:Nat) (m:List UInt8):Int⊕(Nat×Nat):=
 if w=0 then (if (rd m).2.2≠0 then .inl (rd m).2.2 else .inr (k,k+(rd m).2.1.toNat))
 else if w=2 then (if (rd m).2.2≠0 then .inl (rd m).2.2 else if (m.length:Int) - (rd m).2.1<(rd m).1 then .inl 3 else .inr (k+(rd m).2.1.toNat,k+(rd m).2.1.toNat+(rd m).1.toNat))
 else if m.length<(if w=5 then 4 else 8) then .inl 3 else .inr (k,k+(if w=5 then 4 else 8))
def rec5 (l:List UInt8):Int⊕(Int×Int×Nat×Nat):=
 if (tg l).2.2.2≠0 then .inl (tg l).2.2.2 else match zgE (tg l).2.1 (tg l).2.2.1.toNat (l.drop (tg l).2.2.1.toNat) with
  | .inl c=> .inl c
  | .inr p=> .inr ((tg l).1,(tg l).2.1,p.1,p.2)
theorem zjH (w:Int) (k:Nat) (m:List UInt8):(∃c,zgE w k m= .inl c/\(c=3\/c=4))\/
  ∃a t,zgE w k m= .inr (a,t)/\k<=a/\a<=t/\t<=k+m.length/\
   (w=0/\a=k/\(rd m).2.2=0/\((t - k:Nat):Int)=(rd m).2.1/\k<t\/w=2/\(rd m).2.2=0/\((a - k:Nat):Int)=(rd m).2.1/\((t - a:Nat):Int)=(rd m).1\/w≠0/\w≠2/\a=k/\t=k+(if w=5 then 4 else 8)):=by
 obtain ⟨h1,h2,h3,h4,h5,h6,h7⟩:=zhX m;unfold zgE;by_cases w0:w=0
 ·grind
 ·grind
theorem zAh (w:Int) (k:Nat) (m z:List UInt8) (h:zgE w k m= .inr p):zgE w k (m++z)= .inr p:=by
 unfold zgE at h|-
 grind [zqk]
theorem zhG (l:List UInt8):(∃c,rec5 l= .inl c/\(c=3\/c=4\/c=5))\/
  ∃(n w:Int) (k a t:Nat),rec5 l= .inr (n,w,a,t)/\tg l=(n,w,(k:Int),0)/\zbL n w=true/\zgE w k (l.drop k)= .inr (a,t)/\1<=k/\k<=l.length/\k<=a/\a<=t/\t<=l.length/\rd l=(8*n+w,(k:Int),0):=by
 rcases zDl l with ⟨c,h,hc⟩| ⟨n,w,k,h,hr,k1,k2,k3,hrd⟩
 ·grind [rec5]
 ·obtain ⟨k,rfl⟩:∃j:Nat,k=j:=⟨k.toNat,by omega⟩
  have e:rec5 l=match zgE w k (l.drop k) with
   | .inl c=> .inl c
   | .inr p=> .inr (n,w,p.1,p.2):=by unfold rec5;rw [h];simp
  rcases zjH w k (l.drop k) with ⟨c,h2,hc⟩| ⟨a,t,h2,g1,g2,g3,_⟩
  ·grind
  grind
theorem zuC (l z:List UInt8) (h:rec5 l= .inr r):rec5 (l++z)= .inr r:=by
 rcases zhG l with ⟨c,h',_⟩| ⟨n,w,k,a,t,h',htg,_,hb,_,hk,_,_,_,hrd⟩
 ·grind
 grind [rec5,zzK,zAh]
def zrec:Rec:=⟨0,0,0,0,0⟩
def zcJ (b:List UInt8) (at5:Int):Rec×Int:=if at5<0\/at5>=b.length then (zrec,2) else match rec5 (b.drop at5.toNat) with
 | .inl c=>(zrec,c)
 | .inr (n,w,a,t)=>(⟨n,w,at5,at5+a,at5+t⟩,0)
def spl (base:Nat) (l:List UInt8):List Rec×Option (Nat×Int):=
 if hl:l=[] then ([],none) else match h:rec5 l with
  | .inl c=>([],some (base,c))
  | .inr (n,w,a,t)=>(⟨n,w,base,(base+a:Nat),(base+t:Nat)⟩::(spl (base+t) (l.drop t)).1,(spl (base+t) (l.drop t)).2)
termination_by l.length
decreasing_by
 all_goals
  rcases zhG l with ⟨c',h',_⟩| ⟨n',w',k',a',t',h',_,_,_,g1,g2,g3,g4,g5,_⟩
  ·rw [h'] at h;cases h
  ·rw [h'] at h;cases h;simp only [yi];omega
theorem zei (base:Nat):spl base []=([],none):=by rw [spl,dif_pos rfl]
theorem zgb (hl:l≠[]) (h:rec5 l= .inl c):spl base l=([],some (base,c)):=by
 rw [spl,dif_neg hl]
 grind
theorem zcO (hl:l≠[]) (h:rec5 l= .inr (n,w,a,t)):
  spl base l=(⟨n,w,base,(base+a:Nat),(base+t:Nat)⟩::(spl (base+t) (l.drop t)).1,(spl (base+t) (l.drop t)).2):=by
 rw [spl,dif_neg hl];split
 ·grind
 ·grind
theorem zhd (P:Nat->List UInt8->Prop) (h0:∀base,P base []) (he:∀base l c,l≠[]->rec5 l= .inl c->(c=3\/c=4\/c=5)->P base l)
  (hc:∀base l (n w:Int) (a t:Nat),l≠[]->rec5 l= .inr (n,w,a,t)->zbL n w=true->1<=a->a<=t->t<=l.length->P (base+t) (l.drop t)->P base l) (base:Nat) (l:List UInt8):P base l:=by
 generalize hn:l.length=m
 induction m using Nat.strongRecOn generalizing base l with
 | _ m ih=>
  by_cases hl:l=[]
  ·grind
  ·rcases zhG l with ⟨c,h,hc'⟩| ⟨n,w,k,a,t,h,_,hr,_,g1,g2,g3,g4,g5,_⟩
   ·grind
   ·exact hc base l n w a t hl h hr (by omega) g4 g5 (ih _ (by simp only [yi];omega) _ _ rfl)
theorem zLV (base:Nat) (l:List UInt8):(spl base l).1.length<=l.length:=by
 refine zhd (fun base l=>(spl base l).1.length<=l.length) ?_ ?_ ?_ base l
 ·intro base;rw [zei];simp
 ·intro base l c hl h _;rw [zgb hl h];simp
 ·intro base l n w a t hl h _ g1 g2 g3 ih;rw [zcO hl h]
  grind
theorem zKn (base:Nat) (l:List UInt8):∀p c,(spl base l).2=some (p,c)->(c=3\/c=4\/c=5)/\base<=p/\p<base+l.length:=by
 refine zhd (fun base l=>∀p c,(spl base l).2=some (p,c)->(c=3\/c=4\/c=5)/\base<=p/\p<base+l.length) ?_ ?_ ?_ base l
 ·intro base p c h;rw [zei] at h;cases h
 ·intro base l c' hl h hc p c h2;rw [zgb hl h] at h2;cases h2
  grind
 ·intro base l n w a t hl h _ g1 g2 g3 ih p c h2;rw [zcO hl h] at h2
  grind
def zlA (d:Nat) (r:Rec):Rec:=⟨r.Number,r.Wire,r.From+d,r.At+d,r.To+d⟩
theorem zzG (d:Nat) (base:Nat) (l:List UInt8):spl (base+d) l=((spl base l).1.map (zlA d),(spl base l).2.map fun p=>(p.1+d,p.2)):=by
 refine zhd (fun base l=>spl (base+d) l=((spl base l).1.map (zlA d),(spl base l).2.map fun p=>(p.1+d,p.2))) ?_ ?_ ?_ base l
 ·intro base;rw [zei,zei];rfl
 ·intro base l c hl h _;rw [zgb hl h,zgb hl h];rfl
 ·intro base l n w a t hl h _ g1 g2 g3 ih;rw [zcO hl h,zcO hl h,show base+d+t=base+t+d by omega,ih];simp only [xQ,zlA,yw,qf,zt.mk.injEq,qr,qJ];push_cast;omega
theorem zxv (m:List UInt8) (base:Nat) (l:List UInt8):(spl base l).2=none->spl base (l++m)=((spl base l).1++(spl (base+l.length) m).1,(spl (base+l.length) m).2):=by
 refine zhd (fun base l=>(spl base l).2=none->spl base (l++m)=((spl base l).1++(spl (base+l.length) m).1,(spl (base+l.length) m).2)) ?_ ?_ ?_ base l
 ·intro base _;rw [zei];simp
 ·intro base l c hl h _ h2;rw [zgb hl h] at h2;cases h2
 ·intro base l n w a t hl h _ g1 g2 g3 ih h2;rw [zcO hl h] at h2|-;rw [zcO (by simp [hl]) (zuC l m h),pM g3,ih h2]
  grind
def zbT (w:Int) (v:List UInt8):Bool:=
 if w=0 then decide ((rd v).2.2=0/\(rd v).2.1=v.length) else decide (w=2\/w=1/\v.length=8\/w=5/\v.length=4)
def put5 (n w:Int) (v:List UInt8):List UInt8:=enc (tW n w)++(if w=2 then enc v.length else [])++v
theorem zLb (v:Nat):1<=(enc v).length:=by rw [zhD];exact zmM v
theorem zJX {n w:Int} {v:List UInt8} (z:List UInt8) (h:zbL n w=true) (hf:zbT w v=true) (hv:v.length<=1048576):
  rec5 (put5 n w v++z)= .inr (n,w,(put5 n w v).length - v.length,(put5 n w v).length):=by
 obtain ⟨_,wP⟩:=zsJ h;have hen:=zim (v:=v.length) (by omega);have e:tg (put5 n w v++z)=(n,w,((enc (tW n w)).length:Int),0):=by
  grind [put5,sb,wrap_i64,zNT]
 have hd:(put5 n w v++z).drop (enc (tW n w)).length=(if w=2 then enc v.length else [])++v++z:=by
  unfold put5
  grind
 unfold rec5;rw [e];simp only [ne_eq,qu,yC,xK];rw [hd];have hw:=(zdf.1 h).2.2;unfold zbT at hf;rcases hw with rfl| rfl| rfl| rfl
 ·rw [xy rfl] at hf;obtain ⟨f1,f2⟩:=yv hf;have hb:zgE 0 (enc (tW n 0)).length ((if (0:Int)=2 then enc v.length else [])++v++z)= .inr ((enc (tW n 0)).length,(enc (tW n 0)).length+v.length):=by
   grind [zgE,zqk]
  rw [hb];simp [put5]
 ·grind [zgE]
 ·grind [zgE,zxe]
 ·grind [zgE]
theorem zgK (n w:Int) (v:List UInt8):(put5 n w v).length=(enc (tW n w)).length+(if w=2 then (enc v.length).length else 0)+v.length:=by
 unfold put5
 grind
theorem zLW {n w:Int} {v:List UInt8} (h:zbL n w=true) (hf:zbT w v=true) (hv:v.length<=1048576):
  spl 0 (put5 n w v)=([⟨n,w,0,(((put5 n w v).length - v.length:Nat):Int),((put5 n w v).length:Int)⟩],none):=by
 have h1:=zJX [] h hf hv;rw [xW] at h1;have w9:put5 n w v≠[]:=fun e=>by
  grind [zgK,zLb]
 rw [zcO w9 h1,pw,zei];simp
theorem zAu {l:List UInt8} {k:Nat} (h:rd l=((rd l).1,(k:Int),0)):(enc (rd l).1.toNat).length<=k:=by
 rcases zlu l with h'| ⟨h',_⟩| ⟨x,c,y,e,hx,hc,hl,hv,h'⟩
 ·grind
 ·grind
 ·rw [h'] at h|-;have hk:(x.length:Int)+1=k:=by have:=congrArg (fun p=>p.2.1) h;simpa using this
  simp only [xK];have h1:=zIX (x++[c]);rw [zhD];have key:∀(j v:Nat),v<128^(j+1)->lenN v<=j+1:=by
   intro j
   induction j with
   | zero=>intro v hv;rw [zdA (by omega)];omega
   | succ j ih=>
    grind [zdA,zdd]
  grind
theorem zxf {l:List UInt8} {n w:Int} {a t:Nat} (h:rec5 l= .inr (n,w,a,t)):
  zbT w ((l.drop a).take (t - a))=true/\((l.drop a).take (t - a)).length=t - a/\(put5 n w ((l.drop a).take (t - a))).length<=t:=by
 rcases zhG l with ⟨c,h',_⟩| ⟨n',w',k,a',t',h',_,hr,hb,g1,g2,g3,g4,g5,hrd⟩
 ·grind
 ·rw [h'] at h;cases h;have wS:((l.drop a).take (t - a)).length=t - a:=by simp;omega
  have hm:=zAu (l:=l) (k:=k) (by rw [hrd]);have e1:(rd l).1.toNat=tW n w:=by rw [hrd];rfl
  rw [e1] at hm;refine ⟨?_,wS,?_⟩
  ·rcases zjH w k (l.drop k) with ⟨c,hc,_⟩| ⟨a2,t2,h2,k1,k2,k3,hcase⟩
   ·grind
   ·rw [h2] at hb;cases hb;unfold zbT;rcases hcase with ⟨rfl,rfl,f1,f2,f3⟩| ⟨rfl,f1,f2,f3⟩| ⟨w0,w2,rfl,f1⟩
    ·rw [xy rfl]
     -- what is read is the value alone
     have hv:rd ((l.drop a).take (t - a))=rd (l.drop a):=by
      rcases zlu (l.drop a) with h6| ⟨h6,_⟩| ⟨x,c,y,e,hx,hc,hl,hv,h6⟩
      ·grind
      ·grind
      ·rw [h6] at f2;have e7:t - a=(x++[c]).length:=by simp at f2|-;omega
       grind [zGy]
     grind
    ·rfl
    grind [zdf]
  ·rw [zgK,wS];rcases zjH w k (l.drop k) with ⟨c,hc,_⟩| ⟨a2,t2,h2,k1,k2,k3,hcase⟩
   ·grind
   ·rw [h2] at hb;cases hb;by_cases hw2:w=2
    ·rw [xy hw2];rcases hcase with ⟨rfl,_⟩| ⟨_,f1,f2,f3⟩| ⟨_,w2,_⟩
     ·omega
     ·have hm2:=zAu (l:=l.drop k) (k:=a - k) (by rw [f2];exact pq rfl (pq rfl f1))
      grind
     grind
    grind
theorem zGz (l:List UInt8) {j:Nat} (h:(rd l).2.2=0) (hj:(rd l).2.1<=j):rd (l.take j)=rd l:=by
 rcases zlu l with h6| ⟨h6,_⟩| ⟨x,c,y,e,hx,hc,hl,hv,h6⟩
 ·grind
 ·grind
 ·rw [h6] at hj;have hj':(x++[c]).length<=j:=by simp at hj|-;omega
  have:l.take j=x++c::y.take (j - (x++[c]).length):=by
   rw [e,List.append_cons x c y,qD,yM hj',<-List.append_cons]
  rw [this,zGy x c _ hx hc hl hv,h6]
theorem zDX (h:zgE w k m= .inr (a,t)):zgE w k (m.take (t - k))= .inr (a,t):=by
 rcases zjH w k m with ⟨c,hc,_⟩| ⟨a2,t2,h2,k1,k2,k3,hcase⟩
 ·grind
 grind [zgE,zGz]
theorem ztO (h:rec5 l= .inr (n,w,a,t)):rec5 (l.take t)= .inr (n,w,a,t):=by
 rcases zhG l with ⟨c,h',_⟩| ⟨n',w',k,a',t',h',htg,hr,hb,g1,g2,g3,g4,g5,hrd⟩
 ·grind
 ·rw [h'] at h;cases h;have hr1:=zGz l (j:=t) (by rw [hrd]) (by rw [hrd];simp only;omega);have e:tg (l.take t)=(n,w,(k:Int),0):=by
   have:=zzK (l.take t) (l.drop t) (by rw [hr1,hrd]);simp_all
  unfold rec5;rw [e];simp only [ne_eq,qu,yC,xK];rw [qq,zDX hb]
theorem zGE (b:List UInt8) (base:Nat) (l:List UInt8):l=b.drop base->base<=b.length->∀r∈(spl base l).1,∃(n w:Int) (f a t:Nat),r=⟨n,w,(f:Int),((f+a:Nat):Int),((f+t:Nat):Int)⟩/\rec5 (b.drop f)= .inr (n,w,a,t)/\1<=a/\a<=t/\f+t<=b.length:=by
 refine zhd (fun base l=>l=b.drop base->base<=b.length->∀r∈(spl base l).1,∃(n w:Int) (f a t:Nat),r=⟨n,w,(f:Int),((f+a:Nat):Int),((f+t:Nat):Int)⟩/\rec5 (b.drop f)= .inr (n,w,a,t)/\1<=a/\a<=t/\f+t<=b.length) ?_ ?_ ?_ base l
 ·intro base _ _ r hr;rw [zei] at hr;cases hr
 ·intro base l c hl h _ _ _ r hr;rw [zgb hl h] at hr;cases hr
 ·intro base l n w a t hl h _ g1 g2 g3 ih hld hbase r hr;have wS:l.length=b.length - base:=by rw [hld];simp
  rw [zcO hl h] at hr;rcases xC.1 hr with rfl| hr
  ·grind
  ·exact ih (by rw [hld,yA]) (by omega) r hr
theorem zJN (k:IntKind) (a b:Int):orI k a b=bits .or k a b:=rfl
theorem zCE (w:Int):zjb w=some (w%4294967296):=by unfold zjb;rw [zDL]
theorem zHV (w:Int):zjF w=some (sgnS w):=by
 unfold zjF;rw [zCE,sb,zIp];unfold sgnS;congr 1;split<;>split<;>omega
theorem zIl (h: -2147483648<=n/\n<=2147483647):zjG n=some (zqX n):=by
 unfold zjG;rw [uO,wrap_u64];unfold zqX;congr 1;split<;>omega
theorem zCB {v:List UInt8} {m k j:Nat} (hk:k<=8) (hv:v.length=k) (hj:j<k):zdO v (m:Int) (zha k m j) (j:Int)=some (.inl (zha k m (j+1),((j+1:Nat):Int))):=by
 have wS:=zwB (n:=k) (m:=m) (j:=j) (by omega);unfold zdO;have e1:i64.wrap (8*(j:Int))=((8*j:Nat):Int):=by rw [uO];push_cast;rfl
 rw [uM,e1,zKk,sb,zag rfl (show j<(zha k m j).length by omega),sb,zsG (by simp [IntKind.bits];omega),zvA,zBv,zCC,zBI rfl,sb,xK,zCz hj,uO];rfl
theorem zCA {v:List UInt8} {m k:Nat} (hk:k<=8) (hv:v.length=k):∀(d j:Nat),j+d=k->zfx v (m:Int) (zha k m j) (j:Int)=some (zfW k m):=by
 intro d
 induction d with
 | zero=>
  intro j hj;refine zre ?_;unfold zdO;have:j=k:=by omega
  subst this;rw [uN,zCy]
 | succ d ih=>
  intro j hj;rw [zrd (zCB hk hv (by omega))];exact ih (j+1) (by omega)
theorem zzd {m:Nat} (n:Int):zjE (m:Int) n=some (zfW (min n.toNat 8) m):=by
 unfold zjE;have e:(if (8:Int)<(if n<0 then 0 else n) then (8:Int) else (if n<0 then 0 else n))=((min n.toNat 8:Nat):Int):=by split<;>split<;>omega
 rw [e,zpc rfl (qt _) (by omega),sb];have h:=zCA (v:=List.replicate (min n.toNat 8) (0:UInt8)) (m:=m) (k:=min n.toNat 8) (by omega) (by simp) (min n.toNat 8) 0 (by omega);rw [zAC] at h;have h':zfx (List.replicate (min n.toNat 8) (0:UInt8)) (m:Int) (List.replicate (min n.toNat 8) (0:UInt8)) 0=some (zfW (min n.toNat 8) m):=h;rw [h',sb]
theorem zIa {l:List UInt8} {j:Nat} (h:j<l.length):l.take (j+1)=l.take j++[l[j]]:=by rw [List.take_add_one,xT h];rfl
theorem zIn {v:List UInt8} (hv:v.length<=8):∀(d j:Nat),j+d=v.length->zgX v ((word (v.take j):Nat):Int) (j:Int)=some ((word v:Nat):Int):=by
 intro d
 induction d with
 | zero=>
  intro j hj;refine ztk ?_;unfold zfR;rw [uN,yM (by omega)]
 | succ d ih=>
  intro j hj;have hl:(v.take j).length=j:=by simp;omega
  have hw:=zBt (v.take j);rw [hl] at hw;refine (ztj (wv':=((word (v.take (j+1)):Nat):Int)) (v2':=((j+1:Nat):Int)) ?_).trans (ih (j+1) (by omega));unfold zfR;have hc:=(v[j]'(by omega)).toNat_lt;have e1:i64.wrap (8*(j:Int))=((8*j:Nat):Int):=by rw [uO];push_cast;rfl
  have e2:shlI .u64 (u64.wrap ((v[j]'(by omega)).toNat:Int)) ((8*j:Nat):Int)=u64.wrap (((v[j]'(by omega)).toNat:Int)*2^(8*j)):=by
   unfold shlI;rw [xK,yU (by simp [IntKind.bits];omega),wrap_u64 ((v[j]'(by omega)).toNat:Int),qh (by omega) (by omega)]
  rw [uM,zag rfl (show j<v.length by omega),sb,e1,zDe,sb,e2,zJN,zMk _ _ _ (by omega) (by omega) hw,zIa (show j<v.length by omega),zzQ,hl,uO];rfl
theorem zMj (b:List UInt8):zmy b=some ((word (b.take 8):Nat):Int):=by
 unfold zmy;have e:(if (8:Int)<(b.length:Int) then (8:Int) else (b.length:Int))=((min 8 b.length:Nat):Int):=by split<;>omega
 have e2:b.take (min 8 b.length)=b.take 8:=by rw [List.take_eq_take_iff];omega
 rw [e,zwc rfl (by omega),sb,e2];have h:=zIn (v:=b.take 8) (by simp;omega) (b.take 8).length 0 (by omega);have h':zgX (b.take 8) 0 0=some ((word (b.take 8):Nat):Int):=h;rw [h',sb]
def zbJ (k:Int):Bool:=decide (1<=k/\k<=17)
def kNum (k:Int):Bool:=decide (1<=k/\k<=14)
def zau (k:Int):Int:=if 15<=k then 2 else if 12<=k then 1 else if 9<=k then 5 else 0
def zbs (k w:Int):Int:=
 if k=1\/k=8 then zqX (sgnS w) else if k=3\/k=5\/k=9\/k=10\/k=11 then w%4294967296 else if k=7 then (if 0<w then 1 else 0) else w
theorem zgf (k:Int) (h:0<=w/\w<=18446744073709551615):0<=zbs k w/\zbs k w<=18446744073709551615:=by
 have hs:=zEX w;unfold zbs;split
 ·exact zMh (by omega)
 ·split
  ·omega
  ·split
   ·split<;>omega
   ·exact h
theorem zIz {k:Int} {w:Int} (h9:9<=k) (h12:k<12):zbs k w<4294967296:=by
 unfold zbs;rw [xx (by omega),xy (by omega)];omega
theorem zlQ (k:Int) {w:Int} (h:0<=w/\w<=18446744073709551615):zbs k (zbs k w)=zbs k w:=by
 have hs:=zEX w;unfold zbs;by_cases h1:k=1\/k=8
 ·simp only [xy h1];rw [zKj hs]
 ·simp only [xx h1];by_cases h2:k=3\/k=5\/k=9\/k=10\/k=11
  ·simp only [xy h2];omega
  ·simp only [xx h2];by_cases h7:k=7
   ·simp only [xy h7];split<;>simp
   ·simp only [xx h7]
def rawW (k:Int) (b:List UInt8):Int:=if zau k=0 then (rd b).1 else (word (b.take 8):Nat)
def zna (k:Int) (b:List UInt8):Int×Int:=if kNum k=false then (0,2) else if zbT (zau k) b=false then (0,12) else (zbs k (rawW k b),0)
def ziC (k:Int) (c:Nat):List UInt8:=if 12<=k then zfW 8 c else if 9<=k then zfW 4 c else enc c
def sPut (k w:Int):List UInt8:=ziC k (zbs k w).toNat
theorem znQ (k:Int) :0<=rawW k b/\rawW k b<=18446744073709551615:=by
 unfold rawW;split
 ·have:=zhX b;omega
 ·have h:=zBt (b.take 8);have h2:(256:Nat)^(b.take 8).length<=256^8:=pp (by omega) (by simp;omega);omega
theorem zdS :kNum k=true↔1<=k/\k<=14:=by simp [kNum]
theorem zpv {k:Int} (hk:kNum k=true) {c:Nat} (hc:c<18446744073709551616):zbT (zau k) (ziC k c)=true:=by
 have:=zdS.1 hk;unfold ziC;by_cases h1:12<=k
 ·have e:zau k=1:=by unfold zau;rw [xx (by omega),xy h1]
  rw [xy h1,e];simp [zbT,zbb]
 ·rw [xx h1];by_cases h2:9<=k
  ·have e:zau k=5:=by unfold zau;rw [xx (by omega),xx h1,xy h2]
   rw [xy h2,e];simp [zbT,zbb]
  ·have e:zau k=0:=by unfold zau;rw [xx (by omega),xx h1,xx h2]
   have hr:=zxe [] hc;rw [xW] at hr;rw [xx h2,e];unfold zbT;rw [xy rfl,hr];simp
theorem zES {k:Int} (hk:kNum k=true) {c:Nat} (hc:c<18446744073709551616) (h32:9<=k->k<12->c<4294967296):rawW k (ziC k c)=(c:Int):=by
 have:=zdS.1 hk;unfold ziC rawW;by_cases h1:12<=k
 ·have e:zau k=1:=by unfold zau;rw [xx (by omega),xy h1]
  rw [xy h1,e,xx (by omega),yM (by rw [zbb];omega),zpO,qF (by omega)]
 ·rw [xx h1];by_cases h2:9<=k
  ·have e:zau k=5:=by unfold zau;rw [xx (by omega),xx h1,xy h2]
   have:=h32 h2 (by omega);rw [xy h2,e,xx (by omega),yM (by rw [zbb];omega),zpO,qF (by omega)]
  ·have e:zau k=0:=by unfold zau;rw [xx (by omega),xx h1,xx h2]
   have hr:=zxe [] hc;rw [xW] at hr;rw [xx h2,e,xy rfl,hr]
theorem zEW {k w:Int} (hk:kNum k=true) (h:0<=w/\w<=18446744073709551615):zna k (sPut k w)=(zbs k w,0):=by
 have hc:=zgf k h;obtain ⟨c,hcc⟩:∃c:Nat,zbs k w=c:=⟨(zbs k w).toNat,by omega⟩;unfold zna sPut;rw [hcc,xK,hk,xx (by simp),zpv hk (by omega),xx (by simp),zES hk (by omega) (fun h9 h12=>by have:=zIz (w:=w) h9 h12;omega),<-hcc,zlQ k h]
theorem zEV {k w:Int} (h:0<=w/\w<=18446744073709551615):sPut k (zbs k w)=sPut k w:=by unfold sPut;rw [zlQ k h]
theorem ziD {k w:Int} (h:0<=w/\w<=18446744073709551615):1<=(sPut k w).length/\(sPut k w).length<=10:=by
 have hc:=zgf k h;unfold sPut ziC;split
 ·rw [zbb];omega
 ·split
  ·rw [zbb];omega
  ·exact zim (by omega)
def ziW (k:Int) (l:List UInt8):Int⊕Nat:=
 if k<9 then (if (rd l).2.2≠0 then .inl (rd l).2.2 else .inr (rd l).2.1.toNat) else if l.length<(if k<12 then 4 else 8) then .inl 3 else .inr (if k<12 then 4 else 8)
theorem zpG (k:Int) (l:List UInt8):(∃c,ziW k l= .inl c/\(c=3\/c=4))\/∃n,ziW k l= .inr n/\1<=n/\n<=l.length/\n<=10/\(k<9/\(rd l).2.2=0/\(rd l).2.1=(n:Int)\/¬k<9/\n=(if k<12 then 4 else 8)):=by
 obtain ⟨h1,h2,h3,h4,h5,h6,h7⟩:=zhX l;unfold ziW
 grind
theorem zBo (k:Int) (l m:List UInt8) {n:Nat} (h:ziW k l= .inr n):ziW k (l++m)= .inr n:=by
 unfold ziW at h|-
 grind [zqk]
def pcs (k:Int) (l:List UInt8):List (List UInt8)×Int:=
 if hl:l=[] then ([],0) else match h:ziW k l with
  | .inl c=>([],c)
  | .inr n=>(l.take n::(pcs k (l.drop n)).1,(pcs k (l.drop n)).2)
termination_by l.length
decreasing_by
 all_goals
  rcases zpG k l with ⟨c',h',_⟩| ⟨n',h',g1,g2,_⟩
  ·rw [h'] at h;cases h
  ·rw [h'] at h;cases h;simp only [yi];omega
theorem zjA (k:Int):pcs k []=([],0):=by rw [pcs,dif_pos rfl]
theorem zqg (hl:l≠[]) (h:ziW k l= .inl c):pcs k l=([],c):=by
 rw [pcs,dif_neg hl]
 grind
theorem ziy (hl:l≠[]) (h:ziW k l= .inr n):pcs k l=(l.take n::(pcs k (l.drop n)).1,(pcs k (l.drop n)).2):=by
 rw [pcs,dif_neg hl]
 grind
theorem zqh (k:Int) (P:List UInt8->Prop) (h0:P []) (he:∀l c,l≠[]->ziW k l= .inl c->(c=3\/c=4)->P l)
  (hc:∀l n,l≠[]->ziW k l= .inr n->1<=n->n<=l.length->n<=10->P (l.drop n)->P l) (l:List UInt8):P l:=by
 generalize hn:l.length=m
 induction m using Nat.strongRecOn generalizing l with
 | _ m ih=>
  by_cases hl:l=[]
  ·grind
  ·rcases zpG k l with ⟨c,h,hc'⟩| ⟨n,h,g1,g2,g3,_⟩
   ·grind
   grind
theorem zCL (k:Int) (l:List UInt8):(pcs k l).2=0\/(pcs k l).2=3\/(pcs k l).2=4:=by
 refine zqh k (fun l=>(pcs k l).2=0\/(pcs k l).2=3\/(pcs k l).2=4) ?_ ?_ ?_ l
 ·rw [zjA];exact .inl rfl
 ·intro l c hl h hc;rw [zqg hl h];exact .inr hc
 ·intro l n hl h _ _ _ ih;rw [ziy hl h];exact ih
theorem zAR (k:Int) (l:List UInt8):(pcs k l).1.length<=l.length:=by
 refine zqh k (fun l=>(pcs k l).1.length<=l.length) ?_ ?_ ?_ l
 ·rw [zjA];simp
 ·intro l c hl h _;rw [zqg hl h];simp
 ·intro l n hl h _ _ _ ih;rw [ziy hl h]
  grind
theorem zCM (k:Int) (l:List UInt8):(pcs k l).2=0->(pcs k l).1.flatten=l:=by
 refine zqh k (fun l=>(pcs k l).2=0->(pcs k l).1.flatten=l) ?_ ?_ ?_ l
 ·rw [zjA];intro _;rfl
 ·intro l c hl h hc h2;rw [zqg hl h] at h2;simp only at h2;omega
 ·intro l n hl h _ _ _ ih h2;rw [ziy hl h] at h2|-;simp_all
theorem zEO (k:Int) (m l:List UInt8):(pcs k l).2=0->pcs k (l++m)=((pcs k l).1++(pcs k m).1,(pcs k m).2):=by
 refine zqh k (fun l=>(pcs k l).2=0->pcs k (l++m)=((pcs k l).1++(pcs k m).1,(pcs k m).2)) ?_ ?_ ?_ l
 ·intro _;rw [zjA];simp
 ·intro l c hl h hc h2;rw [zqg hl h] at h2;simp only at h2;omega
 ·intro l n hl h g1 g2 _ ih h2;rw [ziy hl h] at h2|-;rw [ziy (by simp [hl]) (zBo k l m h),p9 g2,pM g2,ih h2];rfl
theorem zFf (hk:kNum k=true) (h:ziW k l= .inr n):zbT (zau k) (l.take n)=true:=by
 have hk':=zdS.1 hk;rcases zpG k l with ⟨c,h',_⟩| ⟨n',h',g1,g2,g3,hcase⟩
 ·grind
 ·rw [h'] at h;cases h;have wS:(l.take n).length=n:=by simp;omega
  unfold zbT;rcases hcase with ⟨h9,f1,f2⟩| ⟨h9,f1⟩
  ·have e:zau k=0:=by unfold zau;rw [xx (by omega),xx (by omega),xx (by omega)]
   rw [xy e];rcases zlu l with h6| ⟨h6,_⟩| ⟨x,c,y,e,hx,hc,hl,hv,h6⟩
   ·grind
   ·grind
   ·rw [h6] at f2;have e7:n=(x++[c]).length:=by simp at f2|-;omega
    grind [zGy]
  grind [zau]
theorem zxa (hk:kNum k=true) (l:List UInt8):∀p∈(pcs k l).1,zbT (zau k) p=true/\1<=p.length/\p.length<=10:=by
 refine zqh k (fun l=>∀p∈(pcs k l).1,zbT (zau k) p=true/\1<=p.length/\p.length<=10) ?_ ?_ ?_ l
 ·rw [zjA];intro p hp;cases hp
 ·intro l c hl h _;rw [zqg hl h];intro p hp;cases hp
 ·intro l n hl h g1 g2 g3 ih;rw [ziy hl h]
  grind [zFf]
def zev (k:Int) (p:List UInt8):Int:=zbs k (rawW k p)
theorem zjR (hk:kNum k=true) (hf:zbT (zau k) p=true):zna k p=(zev k p,0):=by
 unfold zna zev
 grind
theorem zFg {k w:Int} (hk:kNum k=true) (h:0<=w/\w<=18446744073709551615) (m:List UInt8):ziW k (sPut k w++m)= .inr (sPut k w).length:=by
 have hk':=zdS.1 hk;have hc:=zgf k h;unfold sPut ziC ziW
 grind [zbb,zxe]
theorem zst {k:Int} (hk:kNum k=true):∀(l:List Int),(∀w∈l,0<=w/\w<=18446744073709551615)->pcs k (l.flatMap (sPut k))=(l.map (sPut k),0)
 | [],_=>zjA k
 | w::l,h=>by
  have hw:=h w xz;have wS:=ziD (k:=k) hw;have w9:sPut k w++l.flatMap (sPut k)≠[]:=fun e=>by
   simp_all
  rw [xM,ziy w9 (zFg hk hw _),qB,ur,zst hk l fun v hv=>h v (xA _ hv)];rfl
def ends (base:Nat):List (List UInt8)->List Int
 | []=>[]
 | p::ps=>((base+p.length:Nat):Int)::ends (base+p.length) ps
def zof (k:Int) (b:List UInt8):List Int×Int:=if kNum k=false then ([],2) else if (pcs k b).2=0 then (ends 0 (pcs k b).1,0) else ([],(pcs k b).2)
def zas (k:Int) (b:List UInt8):List Int×Int:=if kNum k=false then ([],2) else if (pcs k b).2=0 then ((pcs k b).1.map (zev k),0) else ([],(pcs k b).2)
abbrev Fld:=za
abbrev Mes:=ze
def zje {α:Type} (p:α->Bool) (l:List α):Int:=match l.findIdx? p with
 | some i=>(i:Int)
 | none=> -1
theorem zlS {α:Type} {p:α->Bool} {l:List α} (h:l.findIdx? p=none):zje p l= -1:=by unfold zje;rw [h]
theorem zlT {α:Type} {p:α->Bool} {l:List α} {i:Nat} (h:l.findIdx? p=some i):zje p l=(i:Int):=by unfold zje;rw [h]
theorem ztr {α:Type} (p:α->Bool) (l:List α) (F:Int->Option (Unit⊕Int)) (h0:F (l.length:Int)=some (.inl ())) (hs:∀(i:Nat) (h:i<l.length),F (i:Int)=if p l[i] then some (.inr (i:Int)) else F ((i+1:Nat):Int)):
  ∀(d i:Nat),i+d=l.length->(∀j (h:j<l.length),j<i->p l[j]=false)->F (i:Int)=some (match l.findIdx? p with| some k=> .inr (k:Int)| none=> .inl ()):=by
 intro d
 induction d with
 | zero=>
  intro i hi hj;have:i=l.length:=by omega
  subst this;have hn:l.findIdx? p=none:=by
   rw [uG];intro x hx;obtain ⟨j,hj',rfl⟩:=qy hx
   grind
  rw [h0,hn]
 | succ d ih=>
  intro i hi hj;have hil:i<l.length:=by omega
  rw [hs i hil];by_cases hp:p l[i]=true
  ·have hf:l.findIdx? p=some i:=by
    rw [pP]
    grind
   grind
  ·rw [xx hp];refine ih (i+1) (by omega) fun j h hji=>?_
   grind
def fldI (m:Mes) (number:Int):Int:=zje (fun f:Fld=>f.Number==number) m.Fields
def nmc (i:Nat) (c:UInt8):Bool:=decide (65<=c.toNat/\c.toNat<=90\/97<=c.toNat/\c.toNat<=122\/c.toNat=95\/0<i/\48<=c.toNat/\c.toNat<=57)
def nmA:Nat->List UInt8->Bool
 | _,[]=>true
 | i,c::l=>nmc i c&&nmA (i+1) l
def zho (s:List UInt8):Bool:=nmA 0 s&&decide (1<=s.length/\s.length<=60)
theorem zrg {α:Type} {l t:List α} {x:α} {k:Nat} (h:l.drop k=x::t):∃hk:k<l.length,l[k]=x/\l.drop (k+1)=t:=by
 have hk:k<l.length:=by
  rcases yq k l.length with h'| h'
  ·exact h'
  ·rw [yK h'] at h;cases h
 rw [yF hk] at h
 grind
theorem ztm {α:Type} {l:List α} {k:Nat} (h:l.drop k=[]):l.length<=k:=by have:=congrArg List.length h;simp at this;omega
def zcZ (n:Int) (prev:List Fld) (f:Fld):Int:=
 if zho f.Name=false then 5 else if prev.any (fun g=>g.Name==f.Name)=true then 6
 else if f.Number<1\/f.Number>536870911\/(19000<=f.Number/\f.Number<20000) then 7
 else if prev.any (fun g=>g.Number==f.Number)=true then 8 else if zbJ f.Kind=false then 9
 else if f.Packed=true/\¬(f.Repeated=true/\kNum f.Kind=true) then 10
 else if f.Kind=17/\(f.Of<0\/f.Of>=n)\/f.Kind≠17/\f.Of≠0 then 11 else 0
theorem zBP (n:Int) (prev:List Fld) (f:Fld):0<=zcZ n prev f/\zcZ n prev f<=11:=by
 unfold zcZ;omega
def msgF (n:Int) (prev:List Fld):List Fld->Option (Nat×Int)
 | []=>none
 | f::l=>if 0<zcZ n prev f then some (prev.length,zcZ n prev f) else msgF n (prev++[f]) l
def chkF (n:Int) (prev:List Mes):List Mes->Option (Nat×Int×Int)
 | []=>none
 | m::l=>if zho m.Name=false then some (prev.length, -1,2) else if prev.any (fun g=>g.Name==m.Name)=true then some (prev.length, -1,3)
  else if 200<m.Fields.length then some (prev.length, -1,4) else match msgF n [] m.Fields with
   | some (k,w)=>some (prev.length,(k:Int),w)
   | none=>chkF n (prev++[m]) l
def zld (s:List Mes):Int×Int×Int:=if s.length=0\/100<s.length then (-1, -1,1) else match chkF s.length [] s with
 | none=>(0,0,0)
 | some (i,k,w)=>((i:Int),k,w)
def zhI (s:List Mes):Bool:=decide ((zld s).2.2=0)
def WS (s:List Mes):Prop:=s.length<=140737488351232/\∀m∈s,m.Name.length<=140737488351232/\m.Fields.length<=140737488351232/\∀f∈m.Fields,f.Name.length<=140737488351232
theorem ztF :∀(l prev:List Fld),msgF n prev l=none↔∀(k:Nat) (f:Fld),l[k]? =some f->zcZ n (prev++l.take k) f=0
 | [],prev=>by simp [msgF]
 | f::l,prev=>by
  have hb:=zBP n prev f;rw [msgF];by_cases h:0<zcZ n prev f
  ·rw [xy h];refine ⟨(fun h'=>nomatch h'),fun h'=>?_⟩;have:=h' 0 f rfl;simp at this;omega
  ·rw [xx h,ztF l (prev++[f])];constructor
   ·intro h' k g hg;cases k with
    | zero=>simp at hg;subst hg;simp;omega
    | succ k=>have:=h' k g (by simpa using hg);simpa using this
   ·intro h' k g hg;have:=h' (k+1) g (by simpa using hg);simpa using this
theorem zyE :∀(l prev:List Mes),chkF n prev l=none↔∀(i:Nat) (m:Mes),l[i]? =some m->zho m.Name=true/\(prev++l.take i).any (fun g=>g.Name==m.Name)=false/\m.Fields.length<=200/\msgF n [] m.Fields=none
 | [],prev=>by simp [chkF]
 | m::l,prev=>by
  rw [chkF];by_cases h1:zho m.Name=false
  ·rw [xy h1];refine ⟨(fun h'=>nomatch h'),fun h'=>?_⟩;have:=(h' 0 m rfl).1;rw [h1] at this;cases this
  ·rw [xx h1];by_cases h2:prev.any (fun g=>g.Name==m.Name)=true
   ·rw [xy h2];refine ⟨(fun h'=>nomatch h'),fun h'=>?_⟩;have:=(h' 0 m rfl).2.1;simp only [po,xW] at this;rw [h2] at this;cases this
   ·rw [xx h2];by_cases h3:200<m.Fields.length
    ·rw [xy h3];refine ⟨(fun h'=>nomatch h'),fun h'=>?_⟩;have:=(h' 0 m rfl).2.2.1;omega
    ·rw [xx h3];cases h4:msgF n [] m.Fields with
     | some p=>
      refine ⟨(fun h'=>nomatch h'),fun h'=>?_⟩;have:=(h' 0 m rfl).2.2.2;rw [h4] at this;cases this
     | none=>
      simp only;rw [zyE l (prev++[m])];constructor
      ·intro h' i g hg;cases i with
       | zero=>simp at hg;subst hg;exact ⟨by simpa using h1,by simpa using h2,by omega,h4⟩
       | succ i=>have:=h' i g (by simpa using hg);simpa using this
      ·intro h' i g hg;have:=h' (i+1) g (by simpa using hg);simpa using this
theorem zLD:∀(n:Int) (l prev:List Fld) (k:Nat) (w:Int),msgF n prev l=some (k,w)->0<w:=by
 intro n l
 induction l with
 | nil=>intro prev k w h;cases h
 | cons f l ih=>
  intro prev k w h;rw [msgF] at h
  grind
theorem zFv:∀(n:Int) (l prev:List Mes) (i:Nat) (k w:Int),chkF n prev l=some (i,k,w)->0<w:=by
 intro n l
 induction l with
 | nil=>intro prev i k w h;cases h
 | cons m l ih=>
  intro prev i k w h;rw [chkF] at h;split at h
  ·cases h;omega
  ·split at h
   ·cases h;omega
   ·split at h
    ·cases h;omega
    ·split at h
     ·rename_i k' w' h';cases h;exact zLD _ _ _ _ _ h'
     grind
structure zMm (n:Int) (f:Fld):Prop where
 name:zho f.Name=true
 lo:1<=f.Number
 hi:f.Number<=536870911
 kind:zbJ f.Kind=true
 packed:f.Packed=true->f.Repeated=true/\kNum f.Kind=true
 sub:f.Kind=17->0<=f.Of/\f.Of<n
 noSub:f.Kind≠17->f.Of=0
theorem zwg (h:zcZ n prev f=0):zMm n f/\prev.any (fun g=>g.Name==f.Name)=false/\prev.any (fun g=>g.Number==f.Number)=false:=by
 unfold zcZ at h;split at h
 ·omega
 ·rename_i h1;split at h
  ·omega
  ·rename_i h2;split at h
   ·omega
   ·rename_i h3;split at h
    ·omega
    ·rename_i h4;split at h
     ·omega
     ·rename_i h5;split at h
      ·omega
      ·rename_i h6;split at h
       ·omega
       ·rename_i h7;refine ⟨⟨by simpa using h1,by omega,by omega,by simpa using h5,fun hp=>?_,fun hk=>by omega,fun hk=>by omega⟩,by simpa using h2,by simpa using h4⟩
        grind
structure zcB (s:List Mes):Prop where
 len:1<=s.length/\s.length<=100
 name:∀m∈s,zho m.Name=true
 names:∀(i j:Nat) (a b:Mes),i<j->s[i]? =some a->s[j]? =some b->a.Name≠b.Name
 few:∀m∈s,m.Fields.length<=200
 fld:∀m∈s,∀f∈m.Fields,zMm s.length f
 nums:∀m∈s,∀(i j:Nat) (f g:Fld),i<j->m.Fields[i]? =some f->m.Fields[j]? =some g->f.Number≠g.Number/\f.Name≠g.Name
theorem zzy {s:List Mes} (h:zhI s=true):zcB s:=by
 have h0:(zld s).2.2=0:=by simpa [zhI] using h
 have h1:¬(s.length=0\/100<s.length):=fun hh=>by unfold zld at h0;rw [xy hh] at h0;simp at h0
 have h2:chkF s.length [] s=none:=by
  cases h4:chkF s.length [] s with
  | none=>rfl
  | some p=>
   exfalso;obtain ⟨i,k,w⟩:=p;have h5:(zld s).2.2=w:=by unfold zld;rw [xx h1,h4]
   have:=zFv _ _ _ _ _ _ h4;omega
 have h3:=(zyE s []).1 h2;have at':∀m∈s,zho m.Name=true/\m.Fields.length<=200/\msgF s.length [] m.Fields=none:=fun m hm=>by
  obtain ⟨i,hi,rfl⟩:=qy hm;have:=h3 i _ (xT hi)
  grind
 refine ⟨by omega,fun m hm=>(at' m hm).1,fun i j a b hij ha hb=>?_,fun m hm=>(at' m hm).2.1,fun m hm f hf=>?_,fun m hm i j f g hij hf hg=>?_⟩
 ·have:=(h3 j b hb).2.1;have hai:a∈([]++s.take j:List Mes):=by
   rw [xL];exact qO (i:=i) (by rw [yW,xy hij];exact ha)
  grind
 ·have h4:=(ztF m.Fields []).1 (at' m hm).2.2;obtain ⟨i,hi,rfl⟩:=qy hf;exact (zwg (h4 i _ (xT hi))).1
 ·have h4:=(ztF m.Fields []).1 (at' m hm).2.2;obtain ⟨_,k1,k2⟩:=zwg (h4 j g hg);have hai:f∈([]++m.Fields.take j:List Fld):=by
   rw [xL];exact qO (i:=i) (by rw [yW,xy hij];exact hf)
  grind
theorem znT {α:Type} [DecidableEq α] (a b:List α) (F:Int->Option (Unit⊕Unit)) (hl:a.length=b.length) (h0:F (a.length:Int)=some (.inl ()))
  (hs:∀(i:Nat) (h:i<a.length) (h':i<b.length),F (i:Int)=if a[i]=b[i] then F ((i+1:Nat):Int) else some (.inr ())):
  ∀(d i:Nat),i+d=a.length->F (i:Int)=some (if a.drop i=b.drop i then .inl () else .inr ()):=by
 intro d
 induction d with
 | zero=>
  grind
 | succ d ih=>
  intro i hi;rw [hs i (by omega) (by omega),yF (l:=a) (by omega),yF (l:=b) (by omega)]
  grind
theorem zHg {s:List Mes} {i:Nat} {m:Mes} (hi:∃h:i<s.length,s[i]=m) (hb:m.Fields.length<=140737488351232):∀(d k:Nat) (n:Int),k+d=m.Fields.length->∃r,zdk i s n k=some r:=by
 obtain ⟨hil,hm⟩:=hi;have e1:idx s (i:Int)=some m:=by rw [zag rfl hil,hm]
 intro d
 induction d with
 | zero=>
  intro k n hk;refine ⟨n,zmD ?_⟩;unfold zcl
  grind
 | succ d ih=>
  intro k n hk;obtain ⟨r,hr⟩:=ih (k+1) (i64.wrap (n+(i64.wrap (Int.tdiv (((m.Fields[k]'(by omega)).Name.length:Int)) 100)))) (by omega);refine ⟨r,(zmC (k':=((k+1:Nat):Int)) ?_).trans hr⟩
  grind [zcl,sb,wrap_i64,zag]
theorem zNb {s:List Mes} (hw:WS s):∃b,zfz s=some b:=by
 obtain ⟨hs,hm⟩:=hw;have key:∀(d i:Nat) (n:Int),i+d=s.length->∃r,zdj s n i=some r:=by
  intro d
  induction d with
  | zero=>
   intro i n hi;refine ⟨n,zmB ?_⟩;unfold zck
   grind
  | succ d ih=>
   intro i n hi;have hil:i<s.length:=by omega
   obtain ⟨q,hq⟩:=zHg (s:=s) (i:=i) (m:=s[i]) ⟨hil,rfl⟩ (hm _ (xH hil)).2.1 (s[i]).Fields.length 0
    (i64.wrap ((i64.wrap ((i64.wrap (n+1))+(i64.wrap (Int.tdiv ((s[i]).Name.length:Int) 100))))+((s[i]).Fields.length:Int))) (by omega)
   have hq':zdk i s (i64.wrap ((i64.wrap ((i64.wrap (n+1))+(i64.wrap (Int.tdiv ((s[i]).Name.length:Int) 100))))+((s[i]).Fields.length:Int))) 0=some q:=hq;obtain ⟨r,hr⟩:=ih (i+1) q (by omega);refine ⟨r,(zmA (i':=((i+1:Nat):Int)) ?_).trans hr⟩
   grind [zck,sb,wrap_i64,zag]
 obtain ⟨r,hr⟩:=key s.length 0 0 (by omega);have hr':zdj s 0 0=some r:=hr;exact ⟨_,by unfold zfz;rw [hr',sb]⟩
def zeV (m:Mes) (p:Int):Int:=(m.Fields.getD p.toNat ⟨[],0,0,false,false,0⟩).Number
def insS (κ:Int->Int) (i:Int) (out:List Int):List Int:=out.takeWhile (fun x=>decide (κ x<=κ i))++i::out.dropWhile (fun x=>decide (κ x<=κ i))
def zeN (κ:Int->Int):Nat->List Int
 | 0=>[]
 | n+1=>insS κ n (zeN κ n)
theorem zyV (κ:Int->Int) (i:Int) (out:List Int):(insS κ i out).Perm (i::out):=by
 unfold insS;refine List.perm_middle.trans ?_;simp_all
theorem zdm :∀{n:Nat} {x:Int},x∈zeN κ n↔0<=x/\x<n
 | 0,x=>by
  simp only [zeN,xN,false_iff];omega
 | n+1,x=>by
  rw [zeN,(zyV κ n _).mem_iff,xC,zdm];omega
theorem zzF (κ:Int->Int):∀(n:Nat),(zeN κ n).length=n
 | 0=>rfl
 | n+1=>by rw [zeN,(zyV κ n _).length_eq,yk,zzF κ n]
def zfQ (κ:Int->Int) (a b:Int):Prop:=κ a<κ b\/κ a=κ b/\a<b
theorem zBk {κ:Int->Int} {c:Int}:∀{l:List Int},∀x∈l.takeWhile (fun x=>decide (κ x<=c)),κ x<=c/\x∈l:=by
 intro l
 induction l with
 | nil=>intro x hx;simp at hx
 | cons y l ih=>
  intro x hx;rw [List.takeWhile_cons] at hx
  grind
theorem zAr :∀{l:List Int},l.Pairwise (zfQ κ)->∀x∈l.dropWhile (fun x=>decide (κ x<=c)),c<κ x:=by
 intro l
 induction l with
 | nil=>intro _ x hx;simp at hx
 | cons y l ih=>
  intro hp x hx;rw [List.dropWhile_cons] at hx;have hp':=yg.1 hp
  grind [zfQ]
theorem znV (κ:Int->Int):∀(n:Nat),(zeN κ n).Pairwise (zfQ κ)
 | 0=> .nil
 | n+1=>by
  have ih:=znV κ n;have hm:∀x∈zeN κ n,x<n:=fun x hx=>(zdm.1 hx).2
  rw [zeN,insS];have hsplit:(zeN κ n).takeWhile (fun x=>decide (κ x<=κ n))++(zeN κ n).dropWhile (fun x=>decide (κ x<=κ n))=zeN κ n:=pQ;have hp:((zeN κ n).takeWhile (fun x=>decide (κ x<=κ n))++(zeN κ n).dropWhile (fun x=>decide (κ x<=κ n))).Pairwise (zfQ κ):=by rw [hsplit];exact ih
  have ht:=zBk (κ:=κ) (c:=κ n) (l:=zeN κ n);have hd:=zAr (c:=κ n) ih;have htm:∀x∈(zeN κ n).takeWhile (fun x=>decide (κ x<=κ n)),x<n:=fun x hx=>hm x (ht x hx).2
  rw [List.pairwise_append] at hp|-;refine ⟨hp.1,yg.2 ⟨fun x hx=> .inl (hd x hx),hp.2.1⟩,fun a ha b hb=>?_⟩
  grind [zfQ]
theorem zAd {κ:Int->Int} {a b:Int} (h:zfQ κ a b) (k:zfQ κ b a):False:=by unfold zfQ at h k;omega
abbrev Vw:=zxY
def zvw:Vw:=⟨zrec,0,false⟩
def zv (m:Mes) (i:Int):Fld:=m.Fields.getD i.toNat ⟨[],0,0,false,false,0⟩
def vw (m:Mes) (n w:Int):Int⊕(Int×Bool):=
 if fldI m n<0 then .inr (-1,false)
 else if (zv m (fldI m n)).Repeated=true/\kNum (zv m (fldI m n)).Kind=true/\w=2 then .inr (fldI m n,true)
 else if zbJ (zv m (fldI m n)).Kind=false\/zau (zv m (fldI m n)).Kind≠w then .inl 6 else .inr (fldI m n,false)
theorem zcC (m:Mes) (n:Int):fldI m n= -1/\(∀f∈m.Fields,f.Number≠n)\/∃(i:Nat) (h:i<m.Fields.length),fldI m n=i/\m.Fields[i].Number=n/\∀(j:Nat) (h:j<m.Fields.length),j<i->m.Fields[j].Number≠n:=by
 unfold fldI;cases h:m.Fields.findIdx? (fun f:Fld=>f.Number==n) with
 | none=>
  grind [zlS]
 | some i=>
  right;have h':=h;rw [pP] at h
  grind [zlT]
theorem zby {m:Mes} {i:Nat} (h:i<m.Fields.length):zv m (i:Int)=m.Fields[i]:=by
 unfold zv;rw [xK,ut,xT h];rfl
theorem zec (m:Mes) (n w:Int):vw m n w= .inl 6\/vw m n w= .inr (-1,false)/\fldI m n= -1\/∃(i:Nat) (run:Bool),vw m n w= .inr ((i:Int),run)/\fldI m n=i/\i<m.Fields.length:=by
 unfold vw
 grind [zcC]
def zdF (m:Mes) (b:List UInt8) (at5:Int):Vw×Int:=
 if (zcJ b at5).2≠0 then (zvw,(zcJ b at5).2) else match vw m (zcJ b at5).1.Number (zcJ b at5).1.Wire with
  | .inl c=>(zvw,c)
  | .inr (i,run)=>(⟨(zcJ b at5).1,i,run⟩,0)
def vws (m:Mes) (e:Option (Nat×Int)):List Rec->List Vw×Option (Int×Int)
 | []=>([],e.map fun p=>((p.1:Int),p.2))
 | r::l=>match vw m r.Number r.Wire with
  | .inl c=>([],some (r.From,c))
  | .inr (i,run)=>(⟨r,i,run⟩::(vws m e l).1,(vws m e l).2)
def vwR (r:List Vw×Option (Int×Int)):List Vw×Int×Int:=match r.2 with
 | none=>(r.1,0,0)
 | some (p,c)=>([],p,c)
def zaZ (m:Mes) (b:List UInt8):List Vw×Int×Int:=vwR (vws m (spl 0 b).2 (spl 0 b).1)
def zp (s:List Mes) (i:Int):Mes:=s.getD i.toNat ⟨[],[]⟩
theorem zci {s:List Mes} {i:Nat} (h:i<s.length):zp s (i:Int)=s[i]:=by
 unfold zp;rw [xK,ut,xT h];rfl
def valB (b:List UInt8) (r:Rec):List UInt8:=(b.drop r.At.toNat).take (r.To.toNat - r.At.toNat)
abbrev zkn:=Option (Int->List UInt8->Option (Int×Int))
def zhn (f:Fld) (run:Bool) (sub:zkn) (r:Rec) (v:List UInt8):Option (Int×Int):=
 if run=true then (if (zof f.Kind v).2≠0 then some (r.From,(zof f.Kind v).2) else none)
 else if f.Kind=15/\ziB v=false then some (r.From,7)
 else if f.Kind=17 then (match sub with
  | none=>some (r.From,8)
  | some g=>match g f.Of v with
   | some (p,c)=>some (r.At+p,c)
   | none=>none)
 else none
def zcS (m:Mes) (sub:zkn) (b:List UInt8) (r:Rec):Option (Int×Int):=match vw m r.Number r.Wire with
 | .inl c=>some (r.From,c)
 | .inr (i,run)=>if i<0 then none else zhn (zv m i) run sub r (valB b r)
def zdy (m:Mes) (sub:zkn) (b:List UInt8) (x:List Rec×Option (Nat×Int)):Option (Int×Int):=match x.1.findSome? (zcS m sub b) with
 | some p=>some p
 | none=>x.2.map fun p=>((p.1:Int),p.2)
def zS (s:List Mes):Nat->Int->List UInt8->Option (Int×Int)
 | 0,k,b=>zdy (zp s k) none b (spl 0 b)
 | d+1,k,b=>zdy (zp s k) (some (zS s d)) b (spl 0 b)
def zvK (g:Int->List UInt8->Option (Int×Int)):Prop:=∀k v p c,g k v=some (p,c)->3<=c/\c<=8/\0<=p/\p<v.length
theorem zHe (k:Int) :(zof k b).2=0\/(zof k b).2=2/\kNum k=false\/(zof k b).2=3\/(zof k b).2=4:=by
 unfold zof
 grind [zCL]
theorem zBs (h:vw m n w= .inr (i,true)):kNum (zv m i).Kind=true/\(zv m i).Repeated=true/\w=2:=by
 unfold vw at h
 grind
theorem zDv (hr:r.At=((base+a:Nat):Int)) (ht:r.To=((base+t:Nat):Int)) (h:base+t<=b.length) (hat:a<=t):(valB b r).length=t - a:=by
 unfold valB;rw [hr,ht];simp;omega
theorem zzJ {m:Mes} {sub:zkn} {b:List UInt8} (hg:∀g,sub=some g->zvK g) {n w:Int} {base a t:Nat} (h1:1<=a) (hat:a<=t) (ht:base+t<=b.length) {p c:Int}
  (h:zcS m sub b ⟨n,w,base,(base+a:Nat),(base+t:Nat)⟩=some (p,c)):3<=c/\c<=8/\0<=p/\p<b.length:=by
 unfold zcS at h;rcases zec m n w with hv| ⟨hv,_⟩| ⟨i,run,hv,_,hi⟩
 ·grind
 ·grind
 ·simp only [hv] at h;rw [xx (by omega)] at h;unfold zhn at h;split at h
  ·grind [zBs,zHe]
  ·split at h
   ·grind
   ·split at h
    ·cases sub with
     | none=>simp only at h;cases h;(try dsimp only);omega
     | some g=>
      simp only at h;have hl:=zDv (b:=b) (r:=⟨n,w,base,(base+a:Nat),(base+t:Nat)⟩) rfl rfl ht hat;cases hgv:g (zv m i).Of (valB b ⟨n,w,base,(base+a:Nat),(base+t:Nat)⟩) with
      | none=>rw [hgv] at h;cases h
      | some q=>
       obtain ⟨q1,q2⟩:=q;rw [hgv] at h;have:=hg g rfl _ _ _ _ hgv
       grind
    ·cases h
theorem zyR {m:Mes} {sub:zkn} {b:List UInt8} (hg:∀g,sub=some g->zvK g) (base:Nat) (l:List UInt8):l=b.drop base->base<=b.length->∀p c,zdy m sub b (spl base l)=some (p,c)->3<=c/\c<=8/\0<=p/\p<b.length:=by
 refine zhd (fun base l=>l=b.drop base->base<=b.length->∀p c,zdy m sub b (spl base l)=some (p,c)->3<=c/\c<=8/\0<=p/\p<b.length) ?_ ?_ ?_ base l
 ·grind [zdy,zei]
 ·intro base l c' hl h hc hld hb p c h2;have wP:base<b.length:=by subst hld;have:=qZ.2 hl;simp at this;omega
  unfold zdy at h2;rw [zgb hl h] at h2
  grind
 ·intro base l n w a t hl h _ g1 g2 g3 ih hld hb p c h2;have hbl:base+t<=b.length:=by subst hld;simp at g3;omega
  unfold zdy at h2 ih;rw [zcO hl h] at h2;simp only [List.findSome?_cons] at h2;cases hs:zcS m sub b ⟨n,w,base,(base+a:Nat),(base+t:Nat)⟩ with
  | some q=>rw [hs] at h2;cases h2;exact zzJ hg g1 g2 hbl hs
  | none=>
   simp_all
theorem zli (s:List Mes):∀(d:Nat),zvK (zS s d)
 | 0=>fun k v p c h=>zyR (fun g hg=>by cases hg) 0 v rfl (xP _) p c h
 | d+1=>fun k v p c h=>zyR (fun g hg=>by cases hg;exact zli s d) 0 v rfl (xP _) p c h
def argS (s:List Mes) (root d:Int):Int:=if zhI s=false then 9 else if root<0\/root>=s.length\/d<0\/d>64 then 2 else 0
def zba (s:List Mes) (root:Int) (b:List UInt8) (d:Int):Int×Int:=if argS s root d≠0 then (0,argS s root d) else (zS s d.toNat root b).getD (0,0)
theorem zkG (h:argS s root d=0):zcB s/\0<=root/\root<s.length/\0<=d/\d<=64:=by
 unfold argS at h
 grind [zzy]
def is11 (s:List Mes) (root:Int) (b:List UInt8) (d:Int):Bool:=(zba s root b d).2==0
def zMK (a b:zkn):Prop:=∀g,a=some g->∃g',b=some g'/\∀k v,g k v=none->g' k v=none
theorem zHX {m:Mes} {a c:zkn} (h:zMK a c) {b:List UInt8} {r:Rec} (hn:zcS m a b r=none):zcS m c b r=none:=by
 unfold zcS at hn|-;cases hv:vw m r.Number r.Wire with
 | inl x=>rw [hv] at hn;cases hn
 | inr p=>
  obtain ⟨i,run⟩:=p;rw [hv] at hn;simp only at hn|-;by_cases hi:i<0
  ·rw [xy hi]
  ·rw [xx hi] at hn|-;unfold zhn at hn|-;by_cases hr:run=true
   ·grind
   ·rw [xx hr] at hn|-;by_cases h15:(zv m i).Kind=15/\ziB (valB b r)=false
    ·grind
    ·rw [xx h15] at hn|-;by_cases wR:(zv m i).Kind=17
     ·rw [xy wR] at hn|-;cases a with
      | none=>cases hn
      | some g=>
       obtain ⟨g',rfl,hg⟩:=h g rfl;simp only at hn|-;cases hgv:g (zv m i).Of (valB b r) with
       | some q=>rw [hgv] at hn;cases hn
       | none=>rw [hg _ _ hgv]
     grind
theorem zct :zdy m sub b x=none↔(∀r∈x.1,zcS m sub b r=none)/\x.2=none:=by
 unfold zdy;cases h:x.1.findSome? (zcS m sub b) with
 | some p=>
  grind
 | none=>
  rw [List.findSome?_eq_none_iff] at h;cases hx:x.2 with
  | none=>exact ⟨fun _=>⟨h,rfl⟩,fun _=>rfl⟩
  | some p=>exact ⟨(fun h'=>nomatch h'),fun ⟨_,h2⟩=>nomatch h2⟩
theorem zyS {m:Mes} {a c:zkn} (h:zMK a c) {b:List UInt8} {x:List Rec×Option (Nat×Int)} (hn:zdy m a b x=none):zdy m c b x=none:=by
 grind [zct,zHX]
theorem zwk (s:List Mes):∀(d:Nat) (k:Int) (b:List UInt8),zS s d k b=none->zS s (d+1) k b=none
 | 0,k,b,h=>zyS (a:=none) (fun g hg=>nomatch hg) h
 | d+1,k,b,h=>zyS (a:=some (zS s d)) (fun g hg=>by cases hg;exact ⟨_,rfl,fun k v hv=>zwk s d k v hv⟩) h
theorem zIQ (s:List Mes) {d e:Nat} (hde:d<=e) (k:Int) (b:List UInt8) (h:zS s d k b=none):zS s e k b=none:=by
 induction hde with
 | refl=>exact h
 | step _ ih=>exact zwk s _ k b ih
theorem zuL (z:List UInt8) (h0:0<=r.To) (h:r.To<=b.length):valB (b++z) r=valB b r:=by
 unfold valB;by_cases ha:r.At.toNat<=b.length
 ·grind
 ·have e:r.To.toNat - r.At.toNat=0:=by omega
  grind
theorem zrA (a b:List UInt8) (h0:0<=r.At) (h1:r.At<=r.To):valB (a++b) (zlA a.length r)=valB b r:=by
 unfold valB zlA;simp only;have e1:(r.At+(a.length:Int)).toNat=a.length+r.At.toNat:=by omega
 have e2:(r.To+(a.length:Int)).toNat - (a.length+r.At.toNat)=r.To.toNat - r.At.toNat:=by omega
 simp_all
theorem zsI (hn:r'.Number=r.Number) (hw:r'.Wire=r.Wire) (hv:valB b' r'=valB b r):zcS m sub b' r'=none↔zcS m sub b r=none:=by
 unfold zcS;rw [hn,hw,hv];cases vw m r.Number r.Wire with
 | inl c=>simp
 | inr p=>
  simp only;by_cases hi:p.1<0
  ·simp [hi]
  ·rw [xx hi,xx hi];unfold zhn
   grind
theorem ztS (base:Nat) (l:List UInt8):∀r∈(spl base l).1,(base:Int)<=r.From/\r.From<r.At/\r.At<=r.To/\r.To<=base+l.length:=by
 refine zhd (fun base l=>∀r∈(spl base l).1,(base:Int)<=r.From/\r.From<r.At/\r.At<=r.To/\r.To<=base+l.length) ?_ ?_ ?_ base l
 ·intro base r hr;rw [zei] at hr;cases hr
 ·intro base l c hl h _ r hr;rw [zgb hl h] at hr;cases hr
 ·intro base l n w a t hl h _ g1 g2 g3 ih r hr;rw [zcO hl h] at hr
  grind
theorem zus (z:List UInt8) (h:zdy m sub a (spl 0 a)=none):zdy m sub (a++z) (spl 0 (a++z))=none↔zdy m sub z (spl 0 z)=none:=by
 rw [zct] at h;have hap:=zxv z 0 a h.2;have hsh:=zzG a.length 0 z;rw [xR] at hap hsh;rw [hsh] at hap;rw [zct,zct,hap];simp only [xG,xF];constructor
 ·rintro ⟨h1,h2⟩;refine ⟨fun r hr=>?_,by cases hz:(spl 0 z).2 with| none=>rfl| some p=>rw [hz] at h2;cases h2⟩;have hb:=ztS 0 z r hr;have:=h1 (zlA a.length r) (.inr ⟨r,hr,rfl⟩);exact (zsI (r:=r) (r':=zlA a.length r) rfl rfl (zrA a z (by omega) (by omega))).1 this
 ·rintro ⟨h1,h2⟩;refine ⟨fun r hr=>?_,by rw [h2];rfl⟩;rcases hr with hr| ⟨r,hr,rfl⟩
  ·have hb:=ztS 0 a r hr
   grind [zsI,zuL]
  ·have hb:=ztS 0 z r hr;exact (zsI (r:=r) (r':=zlA a.length r) rfl rfl (zrA a z (by omega) (by omega))).2 (h1 r hr)
theorem zgZ (s:List Mes) (d:Nat) (k:Int) (z:List UInt8) (h:zS s d k a=none):zS s d k (a++z)=none↔zS s d k z=none:=by
 cases d with
 | zero=>exact zus z h
 | succ d=>exact zus z h
theorem zmI :is11 s root b d=true↔argS s root d=0/\zS s d.toNat root b=none:=by
 unfold is11 zba;by_cases h:argS s root d=0
 ·rw [xx (by simpa using h)];cases hf:zS s d.toNat root b with
  | none=>simp [h]
  | some p=>
   obtain ⟨p,c⟩:=p;have:=zli s d.toNat root b p c hf
   grind
 grind
theorem zDR {s:List Mes} {root d e:Int} (h:argS s root d=0) (he:0<=e/\e<=64):argS s root e=0:=by
 unfold argS at h|-
 grind
abbrev Msg:=zd
abbrev Vlu:=zb
mutual
def szM:Msg->Nat
 | ⟨vs,_⟩=>1+szVs vs
def szVs:List Vlu->Nat
 | []=>0
 | v::l=>szV v+szVs l
def szV:Vlu->Nat
 | ⟨_,_,_,s⟩=>1+szMs s
def szMs:List Msg->Nat
 | []=>0
 | x::l=>szM x+szMs l
end
theorem zch (x:Msg):szM x=1+szVs x.Values:=by cases x;rw [szM]
theorem zeO (v:Vlu):szV v=1+szMs v.Subs:=by cases v;rw [szV]
theorem zdZ :∀{l:List Vlu},v∈l->szV v<=szVs l
 | [],h=>by cases h
 | u::l,h=>by
  rw [szVs];rcases xC.1 h with rfl| h
  ·omega
  ·have:=zdZ h;omega
theorem zdY :∀{l:List Msg},x∈l->szM x<=szMs l
 | [],h=>by cases h
 | u::l,h=>by
  rw [szMs];rcases xC.1 h with rfl| h
  ·omega
  ·have:=zdY h;omega
mutual
/-- Within the reach of what a law is handed. -/
def bdM:Msg->Prop
 | ⟨vs,u⟩=>vs.length*80<=140737488351232/\(u.length*16<=140737488351232/\∀t∈u,t.length<=140737488351232)/\bdVs vs
def bdVs:List Vlu->Prop
 | []=>True
 | v::l=>bdV v/\bdVs l
def bdV:Vlu->Prop
 | ⟨n,w,t,s⟩=>(Lit.int .i64 n).wf=true/\(w.length*8<=140737488351232/\∀x∈w,0<=x/\x<=18446744073709551615)/\(t.length*16<=140737488351232/\∀x∈t,x.length<=140737488351232)/\s.length*48<=140737488351232/\bdMs s
def bdMs:List Msg->Prop
 | []=>True
 | x::l=>bdM x/\bdMs l
end
theorem zja (x:Msg):bdM x↔x.Values.length*80<=140737488351232/\(x.Unknown.length*16<=140737488351232/\∀t∈x.Unknown,t.length<=140737488351232)/\bdVs x.Values:=by cases x;simp only [bdM]
theorem zhk (v:Vlu):bdV v↔(Lit.int .i64 v.Number).wf=true/\(v.Words.length*8<=140737488351232/\∀x∈v.Words,0<=x/\x<=18446744073709551615)/\(v.Texts.length*16<=140737488351232/\∀x∈v.Texts,x.length<=140737488351232)/\v.Subs.length*48<=140737488351232/\bdMs v.Subs:=by cases v;simp only [bdV]
theorem zen:∀{l:List Vlu},bdVs l↔∀v∈l,bdV v
 | []=>by simp [bdVs]
 | v::l=>by rw [bdVs,zen (l:=l)];simp
theorem zeE:∀{l:List Msg},bdMs l↔∀v∈l,bdM v
 | []=>by simp [bdMs]
 | v::l=>by rw [bdMs,zeE (l:=l)];simp
section
open Classical
noncomputable def znb {α:Type} (x y:α):Bool:=decide (x=y)
theorem zgs {α:Type} {x y:α}:znb x y=true↔x=y:=by unfold znb;simp
end
def zaM (v:Vlu):Nat:=v.Words.length+v.Texts.length+v.Subs.length
mutual
def dM:Msg->Nat
 | ⟨vs,_⟩=>dVs vs
def dVs:List Vlu->Nat
 | []=>0
 | v::l=>max (dV v) (dVs l)
def dV:Vlu->Nat
 | ⟨_,_,_,s⟩=>dMs s
def dMs:List Msg->Nat
 | []=>0
 | x::l=>max (1+dM x) (dMs l)
end
theorem zFy (x:Msg):dM x=dVs x.Values:=by cases x;rw [dM]
theorem zBN (v:Vlu):dV v=dMs v.Subs:=by cases v;rw [dV]
theorem zvf :∀{l:List Vlu},v∈l->dV v<=dVs l
 | [],h=>by cases h
 | u::l,h=>by
  rw [dVs];rcases xC.1 h with rfl| h
  ·omega
  ·have:=zvf h;omega
theorem zAq :∀{l:List Msg},x∈l->1+dM x<=dMs l
 | [],h=>by cases h
 | u::l,h=>by
  rw [dMs];rcases xC.1 h with rfl| h
  ·omega
  ·have:=zAq h;omega
structure Th where
 fi:Int
 run:Bool
 val:List UInt8
 raw:List UInt8
def rawB (b:List UInt8) (r:Rec):List UInt8:=(b.drop r.From.toNat).take (r.To.toNat - r.From.toNat)
def thOf (b:List UInt8) (t:Vw):Th:=⟨t.Field,t.Run,valB b t.R,rawB b t.R⟩
def ths (m:Mes) (b:List UInt8):List Th:=(zaZ m b).1.map (thOf b)
def wt:List Th->Nat
 | []=>0
 | t::l=>t.val.length+1+wt l
theorem zuj:∀(l:List Th),l.length<=wt l
 | []=>by simp [wt]
 | t::l=>by have:=zuj l;simp only [yk,wt];omega
theorem zpQ :∀{l:List Th},t∈l->t.val.length+1<=wt l
 | [],h=>by cases h
 | u::l,h=>by
  rw [wt];rcases xC.1 h with rfl| h
  ·omega
  ·have:=zpQ h;omega
theorem zGQ :∀{l:List Rec} {t:Vw},t∈(vws m e l).1->t.R∈l
 | [],t,h=>by simp [vws] at h
 | r::l,t,h=>by
  rw [vws] at h;cases hv:vw m r.Number r.Wire with
  | inl c=>rw [hv] at h;simp at h
  | inr p=>
   rw [hv] at h;rcases xC.1 h with rfl| h
   ·grind
   ·exact xA _ (zGQ h)
theorem zGZ (h:t∈(zaZ m b).1):t.R∈(spl 0 b).1:=by
 unfold zaZ vwR at h;split at h
 ·exact zGQ h
 ·simp at h
theorem zBx (h:t∈(zaZ m b).1):0<=t.R.From/\t.R.From<t.R.At/\t.R.At<=t.R.To/\t.R.To<=b.length:=by
 have:=ztS 0 b _ (zGZ h);simpa using this
theorem zOb (b:List UInt8):∀(base:Nat) (l:List UInt8),l=b.drop base->base<=b.length->wt ((vws m e (spl base l).1).1.map (thOf b))<=l.length:=by
 intro base l;refine zhd (fun base l=>l=b.drop base->base<=b.length->wt ((vws m e (spl base l).1).1.map (thOf b))<=l.length) ?_ ?_ ?_ base l
 ·intro base _ _;rw [zei];simp [vws,wt]
 ·intro base l c hl h _ _ _;rw [zgb hl h];simp [vws,wt]
 ·intro base l n w a t hl h _ g1 g2 g3 ih hld hbase;have wS:l.length=b.length - base:=by rw [hld];simp
  have ih':=ih (by rw [hld,yA]) (by omega);rw [zcO hl h,vws];cases hv:vw m n w with
  | inl c=>simp [wt]
  | inr p=>
   simp only [xQ,wt,thOf,yi] at ih'|-;rw [zDv (b:=b) (base:=base) (a:=a) (t:=t) rfl rfl (by omega) g2];omega
theorem znY (m:Mes) (b:List UInt8):wt (ths m b)<=b.length:=by
 unfold ths zaZ vwR;split
 ·exact zOb b 0 b rfl (xP _)
 ·simp [wt]
abbrev zcu:=List UInt8×Bool×List Int×List Str×List Msg
def stp (g:Int->List UInt8->Msg) (f:Fld) (a:zcu) (t:Th):zcu:=
 if t.run=true then (a.1,true,(if f.Repeated=true then a.2.2.1 else [])++(zas f.Kind t.val).1,(if f.Repeated=true then a.2.2.2.1 else []),a.2.2.2.2)
 else if kNum f.Kind=true then (a.1,true,(if f.Repeated=true then a.2.2.1 else [])++[(zna f.Kind t.val).1],(if f.Repeated=true then a.2.2.2.1 else []),a.2.2.2.2)
 else if f.Kind=17/\f.Repeated=true then (a.1,true,(if f.Repeated=true then a.2.2.1 else []),(if f.Repeated=true then a.2.2.2.1 else []),a.2.2.2.2++[g f.Of t.val])
 else if f.Kind=17 then (a.1++t.val,true,(if f.Repeated=true then a.2.2.1 else []),(if f.Repeated=true then a.2.2.2.1 else []),a.2.2.2.2)
 else (a.1,true,(if f.Repeated=true then a.2.2.1 else []),(if f.Repeated=true then a.2.2.2.1 else [])++[t.val],a.2.2.2.2)
def accF (g:Int->List UInt8->Msg) (f:Fld) (i:Int):zcu->List Th->zcu
 | a,[]=>a
 | a,t::l=>accF g f i (if t.fi=i then stp g f a t else a) l
theorem zlP (g:Int->List UInt8->Msg) (f:Fld) (i:Int):∀(a:zcu) (l m:List Th),accF g f i a (l++m)=accF g f i (accF g f i a l) m
 | a,[],m=>rfl
 | a,t::l,m=>by simp only [yo,accF];exact zlP g f i _ l m
def wA (a:zcu):Nat:=a.1.length+a.2.2.1.length+a.2.2.2.1.length+a.2.2.2.2.length
def wJ (a:zcu):Nat:=a.1.length+(if a.2.1=true then 1 else 0)
theorem zui (k:Int) (v:List UInt8):(zas k v).1.length<=v.length:=by
 unfold zas;have:=zAR k v
 grind
theorem zNN (g:Int->List UInt8->Msg) (f:Fld) (a:zcu) (t:Th):wA (stp g f a t)<=wA a+t.val.length+1/\wJ (stp g f a t)<=wJ a+t.val.length+1:=by
 have h1:(if f.Repeated=true then a.2.2.1 else []).length<=a.2.2.1.length:=by split<;>simp
 have h2:(if f.Repeated=true then a.2.2.2.1 else []).length<=a.2.2.2.1.length:=by split<;>simp
 have h3:=zui f.Kind t.val;unfold stp wA wJ
 grind
theorem zrc (g:Int->List UInt8->Msg) (f:Fld) (i:Int):∀(a:zcu) (l:List Th),wA (accF g f i a l)<=wA a+wt l/\wJ (accF g f i a l)<=wJ a+wt l
 | a,[]=>by simp [accF,wt]
 | a,t::l=>by
  have h:=zrc g f i (if t.fi=i then stp g f a t else a) l;have h2:=zNN g f a t;rw [accF,wt];split at h
  ·rename_i ht;rw [xy ht];omega
  ·rename_i ht;rw [xx ht];omega
def acc0:zcu:=([],false,[],[],[])
def valO (g:Int->List UInt8->Msg) (f:Fld) (q:zcu):Vlu:=⟨f.Number,q.2.2.1,q.2.2.2.1,if q.2.1=true/\f.Kind=17/\f.Repeated=false then [g f.Of q.1] else q.2.2.2.2⟩
def zpK (g:Int->List UInt8->Msg) (m:Mes) (l:List Th) (o:List Int):List Vlu:=(o.map fun i=>valO g (zv m i) (accF g (zv m i) i acc0 l)).filter fun v=>decide (0<zaM v)
def unkO (l:List Th):List Str:=(l.filter fun t=>decide (t.fi<0)).map (·.raw)
def zds (g:Int->List UInt8->Msg) (m:Mes) (l:List Th):Msg:=⟨zpK g m l (zeN (zeV m) m.Fields.length),unkO l⟩
def ofN (s:List Mes):Nat->Int->List UInt8->Msg
 | 0,_,_=>⟨[],[]⟩
 | n+1,k,b=>zds (ofN s n) (zp s k) (ths (zp s k) b)
theorem zHY (a:zcu) (h:f.Kind=17->g f.Of t.val=g' f.Of t.val):stp g f a t=stp g' f a t:=by
 unfold stp
 grind
theorem zvQ (i:Int):∀(a:zcu) {l:List Th},(f.Kind=17->∀v:List UInt8,v.length+1<=wt l->g f.Of v=g' f.Of v)->accF g f i a l=accF g' f i a l
 | a,[],h=>rfl
 | a,t::l,h=>by
  rw [accF,accF,zHY a (fun wR=>h wR t.val (by rw [wt];omega))];exact zvQ i _ (fun wR v hv=>h wR v (by rw [wt];omega))
theorem zFh (i:Int) (h:f.Kind=17->∀v:List UInt8,v.length+1<=wt l->g f.Of v=g' f.Of v):valO g f (accF g f i acc0 l)=valO g' f (accF g' f i acc0 l):=by
 rw [zvQ i acc0 h];have hw:=(zrc g' f i acc0 l).2;unfold valO;by_cases hc:(accF g' f i acc0 l).2.1=true/\f.Kind=17/\f.Repeated=false
 ·rw [xy hc,xy hc,h hc.2.1 _ (by
   have h0:wJ acc0=0:=rfl;rw [h0,wJ,xy hc.1] at hw;omega)]
 grind
theorem zuy (h:∀k:Int,∀v:List UInt8,v.length+1<=wt l->g k v=g' k v):zds g m l=zds g' m l:=by
 unfold zds zpK;congr 2;exact y6 fun i _=>zFh i (fun _ v hv=>h _ v hv)
theorem zwP (s:List Mes):∀(n n':Nat) (k:Int) (b:List UInt8),b.length<n->b.length<n'->ofN s n k b=ofN s n' k b
 | 0,n',k,b,h,_=>by omega
 | n+1,0,k,b,_,h=>by omega
 | n+1,n'+1,k,b,h,h'=>by
  rw [ofN,ofN];have hw:=znY (zp s k) b;exact zuy fun k v hv=>zwP s n n' k v (by omega) (by omega)
def ofM (s:List Mes) (k:Int) (b:List UInt8):Msg:=ofN s (b.length+1) k b
theorem ziu (s:List Mes) (k:Int) (b:List UInt8):ofM s k b=zds (ofM s) (zp s k) (ths (zp s k) b):=by
 have hw:=znY (zp s k) b;unfold ofM;rw [ofN];exact zuy fun k v hv=>zwP s _ _ _ _ (by omega) (Nat.lt_succ_self _)
theorem zMc (b:List UInt8) (r:Rec) (h:r.At<=r.To) (h0:0<=r.From) (h1:r.From<r.At) (h2:r.To<=b.length):(valB b r).length+1<=b.length:=by
 unfold valB;simp;omega
mutual
/-- How much a meaning is, all together. -/
def wgM:Msg->Nat
 | ⟨vs,u⟩=>1+(u.map fun t=>1+t.length).sum+wgVs vs
def wgVs:List Vlu->Nat
 | []=>0
 | v::l=>wgV v+wgVs l
def wgV:Vlu->Nat
 | ⟨_,w,t,s⟩=>1+w.length+(t.map fun t=>1+t.length).sum+wgMs s
def wgMs:List Msg->Nat
 | []=>0
 | x::l=>wgM x+wgMs l
end
theorem zjv (x:Msg):wgM x=1+(x.Unknown.map fun t=>1+t.length).sum+wgVs x.Values:=by cases x;rw [wgM]
theorem ziM (v:Vlu):wgV v=1+v.Words.length+(v.Texts.map fun t=>1+t.length).sum+wgMs v.Subs:=by cases v;rw [wgV]
theorem zpN :∀{l:List Vlu},v∈l->wgV v<=wgVs l
 | [],h=>by cases h
 | u::l,h=>by
  rw [wgVs];rcases xC.1 h with rfl| h
  ·omega
  ·have:=zpN h;omega
theorem zkc :∀{l:List Msg},x∈l->wgM x<=wgMs l
 | [],h=>by cases h
 | u::l,h=>by
  rw [wgMs];rcases xC.1 h with rfl| h
  ·omega
  ·have:=zkc h;omega
theorem znW :∀{l:List Str},t∈l->1+t.length<=(l.map fun t=>1+t.length).sum
 | [],h=>by cases h
 | u::l,h=>by
  rw [xQ,y7];rcases xC.1 h with rfl| h
  ·omega
  ·have:=znW h;omega
theorem zBi:∀{l:List Str},l.length<=(l.map fun t=>1+t.length).sum
 | []=>by simp
 | u::l=>by
  rw [xQ,y7,yk];have:=zBi (l:=l);omega
theorem zDE:∀(l:List Vlu),l.length<=wgVs l
 | []=>by simp [wgVs]
 | u::l=>by rw [wgVs,yk,ziM];have:=zDE l;omega
theorem zDC:∀(l:List Msg),l.length<=wgMs l
 | []=>by simp [wgMs]
 | u::l=>by rw [wgMs,yk,zjv];have:=zDC l;omega
def unkR (m:Mes) (u:Str):Bool:=(zcJ u 0).2==0&&(zcJ u 0).1.To==(u.length:Int)&&decide (fldI m (zcJ u 0).1.Number<0)
def ziN (f:Fld) (w:Int):Bool:=kNum f.Kind&&zbs f.Kind w==w
def zkr (f:Fld) (t:Str):Bool:=f.Kind==16|| (f.Kind==15&&ziB t)
def zqP (f:Fld) (v:Vlu):Bool:=decide (0<zaM v)&&(decide (zaM v<=1)|| f.Repeated)&&zbJ f.Kind
mutual
def zaG (s:List Mes):Msg->Int->Bool
 | ⟨vs,u⟩,k=>decide (0<=k/\k<s.length)&&zff s vs (zp s k) none&&u.all (unkR (zp s k))
def zff (s:List Mes):List Vlu->Mes->Option Int->Bool
 | [],_,_=>true
 | v::l,m,p=>decide (0<=fldI m v.Number)&&p.all (fun n=>decide (n<v.Number))&&ziS s v (zv m (fldI m v.Number))&&zff s l m (some v.Number)
def ziS (s:List Mes):Vlu->Fld->Bool
 | ⟨n,w,t,sub⟩,f=>zqP f ⟨n,w,t,sub⟩&&w.all (ziN f)&&t.all (zkr f)&&zqm s sub f
def zqm (s:List Mes):List Msg->Fld->Bool
 | [],_=>true
 | x::l,f=>(f.Kind==17&&zaG s x f.Of)&&zqm s l f
end
theorem zkP (s:List Mes) (x:Msg) (k:Int):zaG s x k=(decide (0<=k/\k<s.length)&&zff s x.Values (zp s k) none&&x.Unknown.all (unkR (zp s k))):=by cases x;rw [zaG]
theorem zrQ (s:List Mes) (v:Vlu) (f:Fld):ziS s v f=(zqP f v&&v.Words.all (ziN f)&&v.Texts.all (zkr f)&&zqm s v.Subs f):=by cases v;rw [ziS]
theorem zlx (s:List Mes) (f:Fld):∀(l:List Msg),zqm s l f=l.all fun x=>f.Kind==17&&zaG s x f.Of
 | []=>by rw [zqm];rfl
 | x::l=>by rw [zqm,zlx s f l];rfl
mutual
/-- No list is long. -/
def smM:Msg->Prop
 | ⟨vs,u⟩=>vs.length<=1048576/\(u.length<=1048576/\∀t∈u,t.length<=1048576)/\smVs vs
def smVs:List Vlu->Prop
 | []=>True
 | v::l=>smV v/\smVs l
def smV:Vlu->Prop
 | ⟨n,w,t,s⟩=>w.length<=1048576/\(t.length<=1048576/\∀x∈t,x.length<=1048576)/\s.length<=1048576/\smMs s
def smMs:List Msg->Prop
 | []=>True
 | x::l=>smM x/\smMs l
end
theorem zxt (x:Msg):smM x↔x.Values.length<=1048576/\(x.Unknown.length<=1048576/\∀t∈x.Unknown,t.length<=1048576)/\smVs x.Values:=by cases x;simp only [smM]
theorem zxu (v:Vlu):smV v↔v.Words.length<=1048576/\(v.Texts.length<=1048576/\∀x∈v.Texts,x.length<=1048576)/\v.Subs.length<=1048576/\smMs v.Subs:=by cases v;simp only [smV]
theorem znf:∀{l:List Vlu},smVs l↔∀v∈l,smV v
 | []=>by simp [smVs]
 | v::l=>by rw [smVs,znf (l:=l)];simp
theorem zne:∀{l:List Msg},smMs l↔∀v∈l,smM v
 | []=>by simp [smMs]
 | v::l=>by rw [smMs,zne (l:=l)];simp
def zDh (s:List Mes):Nat->zkn
 | 0=>none
 | e+1=>some (zS s e)
theorem zfm (s:List Mes) (d:Nat) (k:Int) (b:List UInt8):zS s d k b=zdy (zp s k) (zDh s d) b (spl 0 b):=by cases d<;>rfl
theorem zoN (s:List Mes) (d:Nat) (k:Int):zS s d k []=none:=by rw [zfm,zei];rfl
def vwG (m:Mes) (r:Rec):Int×Bool:=match vw m r.Number r.Wire with
 | .inl _=>(-1,false)
 | .inr p=>p
def thR (m:Mes) (b:List UInt8) (r:Rec):Th:=⟨(vwG m r).1,(vwG m r).2,valB b r,rawB b r⟩
theorem zFk :∀{l:List Rec},(∀r∈l,∃p,vw m r.Number r.Wire= .inr p)->vws m none l=(l.map fun r=>⟨r,(vwG m r).1,(vwG m r).2⟩,none)
 | [],_=>rfl
 | r::l,h=>by
  obtain ⟨p,hp⟩:=h r xz;rw [vws,hp,zFk fun x hx=>h x (xA _ hx)];simp only [xQ,vwG,hp]
theorem zBf (h:zcS m sub b r=none):∃p,vw m r.Number r.Wire= .inr p:=by
 unfold zcS at h;cases hv:vw m r.Number r.Wire with
 | inl c=>rw [hv] at h;cases h
 | inr p=>exact ⟨p,rfl⟩
theorem zms (h:zS s d k b=none):ths (zp s k) b=(spl 0 b).1.map (thR (zp s k) b):=by
 rw [zfm,zct] at h;unfold ths zaZ;rw [h.2,zFk fun r hr=>zBf (h.1 r hr)];unfold vwR;simp only [yL];rfl
theorem zCU {b:List UInt8} (z:List UInt8) {r:Rec} (h0:0<=r.To) (h:r.To<=b.length):rawB (b++z) r=rawB b r:=by
 unfold rawB;by_cases ha:r.From.toNat<=b.length
 ·grind
 ·have e:r.To.toNat - r.From.toNat=0:=by omega
  grind
theorem zER (a b:List UInt8) {r:Rec} (h0:0<=r.From) (h1:r.From<=r.To):rawB (a++b) (zlA a.length r)=rawB b r:=by
 unfold rawB zlA;simp only;have e1:(r.From+(a.length:Int)).toNat=a.length+r.From.toNat:=by omega
 have e2:(r.To+(a.length:Int)).toNat - (a.length+r.From.toNat)=r.To.toNat - r.From.toNat:=by omega
 simp_all
theorem zxA {s:List Mes} {d:Nat} {k:Int} {a z:List UInt8} (ha:zS s d k a=none) (hz:zS s d k z=none):ths (zp s k) (a++z)=ths (zp s k) a++ths (zp s k) z:=by
 rw [zms ((zgZ s d k z ha).2 hz),zms ha,zms hz];rw [zfm,zct] at ha;have hap:=zxv z 0 a ha.2;have hsh:=zzG a.length 0 z;rw [xR] at hap hsh;rw [hap,hsh];simp only [yN,yL];congr 1
 ·refine y6 fun r hr=>?_
  have:=ztS 0 a r hr;unfold thR;rw [zuL z (by omega) (by omega),zCU z (by omega) (by omega)]
 ·refine y6 fun r hr=>?_
  have:=ztS 0 z r hr;show thR _ _ (zlA a.length r)=_;unfold thR;rw [zrA a z (by omega) (by omega),zER a z (by omega) (by omega)];rfl
structure OkT (s:List Mes) (d:Nat) (m:Mes) (t:Th):Prop where
 fi:t.fi= -1\/0<=t.fi/\t.fi<m.Fields.length
 unk:t.fi<0->unkR m t.raw=true
 run:0<=t.fi->t.run=true->kNum (zv m t.fi).Kind=true/\(zv m t.fi).Repeated=true/\(zof (zv m t.fi).Kind t.val).2=0
 one:0<=t.fi->t.run=false->zbJ (zv m t.fi).Kind=true/\zbT (zau (zv m t.fi).Kind) t.val=true/\((zv m t.fi).Kind=15->ziB t.val=true)/\((zv m t.fi).Kind=17->∃e,d=e+1/\zS s e (zv m t.fi).Of t.val=none)
theorem zzL (h:zS s d k b=none):∀t∈ths (zp s k) b,OkT s d (zp s k) t:=by
 intro t ht;rw [zms h] at ht;obtain ⟨r,hr,rfl⟩:=xF.1 ht;obtain ⟨n,w,f,a,u,hre,hrec,h1,h2,h3⟩:=zGE b 0 b rfl (xP _) r hr;rw [zfm,zct] at h;have hs:=h.1 r hr
 generalize zp s k=m at hs|-
 have hraw:rawB b r=(b.drop f).take u:=by
  unfold rawB;rw [hre];simp only [xK]
  grind
 have hval:valB b r=((b.drop f).drop a).take (u - a):=by
  unfold valB;rw [hre];simp only [xK];rw [yA,show f+u - (f+a)=u - a by omega]
 have hfit:=(zxf hrec).1;have hn:r.Number=n:=by rw [hre]
 have hw:r.Wire=w:=by rw [hre]
 have hrl:((b.drop f).take u).length=u:=by simp;omega
 have hnx:zcJ ((b.drop f).take u) 0=(⟨n,w,0,0+(a:Int),0+(u:Int)⟩,0):=by
  unfold zcJ;rw [xx (by rw [hrl];omega)];simp only [Int.toNat_zero,ya,ztO hrec]
 unfold zcS at hs;rcases zec m r.Number r.Wire with hv| ⟨hv,hf⟩| ⟨i,run,hv,hfi,hi⟩
 ·grind
 ·have e:vwG m r=(-1,false):=by unfold vwG;rw [hv]
  refine ⟨.inl (by simp only [thR,e]),fun _=>?_,fun hh=>by simp only [thR,e] at hh;omega,fun hh=>by simp only [thR,e] at hh;omega⟩;simp only [thR,hraw];unfold unkR
  grind
 ·have e:vwG m r=((i:Int),run):=by unfold vwG;rw [hv]
  rw [hv] at hs;simp only at hs;rw [xx (by omega)] at hs;refine ⟨.inr (by simp only [thR,e];omega),fun hh=>by simp only [thR,e] at hh;omega,fun _ hrn=>?_,fun _ hrn=>?_⟩
  ·simp only [thR,e] at hrn|-;subst hrn;obtain ⟨v1,v2,_⟩:=zBs hv;refine ⟨v1,v2,?_⟩;unfold zhn at hs
   grind
  ·simp only [thR,e] at hrn|-;subst hrn;have hk:zbJ (zv m i).Kind=true/\zau (zv m i).Kind=r.Wire:=by
    unfold vw at hv
    grind
   refine ⟨hk.1,by rw [hk.2,hw,hval];exact hfit,fun h15=>?_,fun wR=>?_⟩
   ·unfold zhn at hs
    grind
   ·unfold zhn at hs;rw [xx (by simp),xx (by omega),xy wR] at hs;cases d with
    | zero=>simp only [zDh] at hs;cases hs
    | succ e=>
     simp only [zDh] at hs;refine ⟨e,rfl,?_⟩;cases hg:zS s e (zv m i).Of (valB b r) with
     | none=>rfl
     | some q=>rw [hg] at hs;cases hs
structure zvI (s:List Mes) (d:Nat) (f:Fld) (a:zcu):Prop where
 words:∀w∈a.2.2.1,ziN f w=true
 texts:∀t∈a.2.2.2.1,zkr f t=true
 numT:kNum f.Kind=true->a.2.2.2.1=[]
 subs:∀x∈a.2.2.2.2,f.Kind=17/\zaG s x f.Of=true/\1+dM x<=d
 join:f.Kind=17->∀e,d=e+1->zS s e f.Of a.1=none
 met:a.2.1=true->f.Kind=17->∃e,d=e+1
 one:f.Repeated=false->a.2.2.1.length<=1/\a.2.2.2.1.length<=1/\a.2.2.2.2=[]
theorem zfY {k:Int} (h:kNum k=true):k≠17/\k≠15/\k≠16:=by rw [zdS] at h;omega
theorem zDK {f:Fld} (hk:kNum f.Kind=true) (v:List UInt8):∀w∈(zas f.Kind v).1,ziN f w=true:=by
 intro w hw;unfold zas at hw;rw [xx (by rw [hk];simp)] at hw;split at hw
 ·obtain ⟨p,_,rfl⟩:=xF.1 hw;unfold ziN zev;rw [hk,zlQ _ (znQ _)];simp
 ·cases hw
theorem zDd {f:Fld} (hk:kNum f.Kind=true) {v:List UInt8} (hf:zbT (zau f.Kind) v=true):ziN f (zna f.Kind v).1=true:=by
 rw [zjR hk hf];unfold ziN zev;rw [hk,zlQ _ (znQ _)];simp
theorem zzW (s:List Mes) (d:Nat) (f:Fld):zvI s d f acc0 where
 words:=fun w hw=>nomatch hw
 texts:=fun w hw=>nomatch hw
 numT:=fun _=>rfl
 subs:=fun w hw=>nomatch hw
 join:=fun _ e _=>zoN s e _
 met:=fun h=>nomatch h
 one:=fun _=>⟨xP _,xP _,rfl⟩
theorem zNM {s:List Mes} {d:Nat} {m:Mes} {f:Fld} {g:Int->List UInt8->Msg} {a:zcu} {t:Th} (ha:zvI s d f a) (ht:OkT s d m t) (hi:0<=t.fi) (hf:zv m t.fi=f)
  (hg:f.Kind=17->∀e,d=e+1->zS s e f.Of t.val=none->zaG s (g f.Of t.val) f.Of=true/\dM (g f.Of t.val)<=e):zvI s d f (stp g f a t):=by
 obtain ⟨h1,h2,hnt,h3,h4,h5,h6⟩:=ha;have w7:=ht.run hi;have hone:=ht.one hi;rw [hf] at w7 hone;have w0:∀w∈(if f.Repeated=true then a.2.2.1 else []),ziN f w=true:=fun w hw=>by
  grind
 have t0:∀w∈(if f.Repeated=true then a.2.2.2.1 else []),zkr f w=true:=fun w hw=>by
  grind
 have tn:kNum f.Kind=true->(if f.Repeated=true then a.2.2.2.1 else [])=[]:=fun hk=>by
  grind
 have wl:f.Repeated=false->(if f.Repeated=true then a.2.2.1 else [])=[]:=fun h=>by rw [h];rfl
 have tl:f.Repeated=false->(if f.Repeated=true then a.2.2.2.1 else [])=[]:=fun h=>by rw [h];rfl
 unfold stp;by_cases hr:t.run=true
 ·obtain ⟨r1,r2,r3⟩:=w7 hr;rw [xy hr];refine ⟨fun w hw=>?_,t0,tn,h3,h4,fun _ hk=>absurd hk (zfY r1).1,fun hh=>by rw [r2] at hh;cases hh⟩;rcases xG.1 hw with hw| hw
  ·exact w0 w hw
  ·exact zDK r1 _ w hw
 ·have hr':t.run=false:=by simpa using hr
  obtain ⟨o1,o2,o3,o4⟩:=hone hr';rw [xx hr];by_cases hn:kNum f.Kind=true
  ·rw [xy hn];refine ⟨fun w hw=>?_,t0,tn,h3,h4,fun _ hk=>absurd hk (zfY hn).1,fun hh=>?_⟩
   ·rcases xG.1 hw with hw| hw
    ·exact w0 w hw
    ·rw [yl.1 hw];exact zDd hn o2
   grind
  ·rw [xx hn];by_cases hk:f.Kind=17/\f.Repeated=true
   ·rw [xy hk];obtain ⟨e,he,hv⟩:=o4 hk.1;obtain ⟨g1,g2⟩:=hg hk.1 e he hv;refine ⟨w0,t0,tn,fun x hx=>?_,h4,fun _ _=>⟨e,he⟩,fun hh=>by rw [hk.2] at hh;cases hh⟩
    grind
   ·rw [xx hk];by_cases hk2:f.Kind=17
    ·rw [xy hk2];obtain ⟨e,he,hv⟩:=o4 hk2;refine ⟨w0,t0,tn,h3,fun _ e' he'=>?_,fun _ _=>⟨e,he⟩,fun hh=>?_⟩
     ·have:e'=e:=by omega
      subst this;exact (zgZ s e' f.Of t.val (h4 hk2 e' he')).2 hv
     grind
    ·rw [xx hk2];have hk15:f.Kind=15\/f.Kind=16:=by
      have:¬(1<=f.Kind/\f.Kind<=14):=fun hh=>hn (zdS.2 hh)
      have wR:1<=f.Kind/\f.Kind<=17:=by simpa [zbJ] using o1
      omega
     refine ⟨w0,fun x hx=>?_,fun hh=>absurd hh hn,h3,h4,fun _ hh=>absurd hh hk2,fun hh=>?_⟩
     ·rcases xG.1 hx with hx| hx
      ·exact t0 x hx
      ·rw [yl.1 hx];unfold zkr
       grind
     grind
theorem zvc {s:List Mes} {d:Nat} {m:Mes} {f:Fld} {g:Int->List UInt8->Msg} {i:Int} (hi:0<=i) (hf:zv m i=f):∀(a:zcu) (l:List Th),zvI s d f a->(∀t∈l,OkT s d m t)->
  (∀t∈l,f.Kind=17->∀e,d=e+1->zS s e f.Of t.val=none->zaG s (g f.Of t.val) f.Of=true/\dM (g f.Of t.val)<=e)->zvI s d f (accF g f i a l)
 | a,[],ha,_,_=>ha
 | a,t::l,ha,ht,hg=>by
  rw [accF];refine zvc hi hf _ l ?_ (fun x hx=>ht x (xA _ hx)) (fun x hx=>hg x (xA _ hx));split
  ·rename_i h;exact zNM ha (ht t xz) (by omega) (by rw [h];exact hf) (hg t xz)
  ·exact ha
theorem zIJ {d:Nat}:∀{l:List Msg},(∀x∈l,1+dM x<=d)->dMs l<=d
 | [],_=>by simp [dMs]
 | x::l,h=>by
  rw [dMs];have:=h x xz;have:=zIJ fun y hy=>h y (xA _ hy)
  omega
theorem zIK {d:Nat}:∀{l:List Vlu},(∀x∈l,dV x<=d)->dVs l<=d
 | [],_=>by simp [dVs]
 | x::l,h=>by
  rw [dVs];have:=h x xz;have:=zIK fun y hy=>h y (xA _ hy)
  omega
theorem zMd {s:List Mes} {d:Nat} {f:Fld} {g:Int->List UInt8->Msg} {q:zcu} (hq:zvI s d f q) (hkr:zbJ f.Kind=true)
  (hg:f.Kind=17->q.2.1=true->∀e,d=e+1->zS s e f.Of q.1=none->zaG s (g f.Of q.1) f.Of=true/\dM (g f.Of q.1)<=e) (hm:0<zaM (valO g f q)):
  ziS s (valO g f q) f=true/\dV (valO g f q)<=d:=by
 obtain ⟨h1,h2,hnt,h3,h4,h5,h6⟩:=hq;have hsubs:∀x∈(valO g f q).Subs,f.Kind=17/\zaG s x f.Of=true/\1+dM x<=d:=by
  unfold valO;simp only;intro x hx;split at hx
  ·rename_i hc;obtain ⟨e,he⟩:=h5 hc.1 hc.2.1;obtain ⟨g1,g2⟩:=hg hc.2.1 hc.1 e he (h4 hc.2.1 e he)
   grind
  ·exact h3 x hx
 constructor
 ·rw [zrQ,zlx];have hmany:zqP f (valO g f q)=true:=by
   unfold zqP;rw [xV hm,hkr,yj,q6];cases hr:f.Repeated with
   | true=>simp
   | false=>
    rw [pr];refine xV ?_;obtain ⟨o1,o2,o3⟩:=h6 hr;unfold zaM valO;simp only;by_cases hk:f.Kind=17
    ·have e1:q.2.2.1=[]:=by
      cases hw:q.2.2.1 with
      | nil=>rfl
      | cons w l=>
       have:=h1 w (by rw [hw];exact xz);unfold ziN at this;simp only [xB] at this;exact absurd hk (zfY this.1).1
     have e2:q.2.2.2.1=[]:=by
      cases hw:q.2.2.2.1 with
      | nil=>rfl
      | cons w l=>
       have:=h2 w (by rw [hw];exact xz);unfold zkr at this
       grind
     grind
    ·rw [xx (fun hh=>hk hh.2.1),o3];by_cases hn:kNum f.Kind=true
     ·grind
     ·have e1:q.2.2.1=[]:=by
       cases hw:q.2.2.1 with
       | nil=>rfl
       | cons w l=>
        have:=h1 w (by rw [hw];exact xz);unfold ziN at this
        grind
      grind
  rw [hmany,yj,xB,xB];refine ⟨⟨xI.2 h1,xI.2 h2⟩,xI.2 fun x hx=>?_⟩
  grind
 ·rw [zBN];exact zIJ fun x hx=>(hsubs x hx).2.2
theorem zmK (m:Mes) (i:Int):zeV m i=(zv m i).Number:=rfl
theorem zJI (hs:zcB s) (hm:m∈s) (hi:i<m.Fields.length) (hj:j<m.Fields.length) (h:m.Fields[i].Number=m.Fields[j].Number):i=j:=by
 rcases Nat.lt_trichotomy i j with wP| h'| wP
 ·exact absurd h (hs.nums m hm i j _ _ wP (xT hi) (xT hj)).1
 ·exact h'
 ·exact absurd h.symm (hs.nums m hm j i _ _ wP (xT hj) (xT hi)).1
theorem zpW {s:List Mes} (hs:zcB s) {m:Mes} (hm:m∈s) {i:Int} (h0:0<=i) (hi:i<m.Fields.length):fldI m (zv m i).Number=i:=by
 obtain ⟨n,rfl⟩:∃n:Nat,i=n:=⟨i.toNat,by omega⟩;have hn:n<m.Fields.length:=by omega
 rw [zby hn];rcases zcC m m.Fields[n].Number with ⟨_,h⟩| ⟨j,hj,h,hjn,_⟩
 ·grind
 ·rw [h,zJI hs hm hj hn hjn]
theorem znU {s:List Mes} (hs:zcB s) {m:Mes} (hm:m∈s):(zeN (zeV m) m.Fields.length).Pairwise fun a b=>zeV m a<zeV m b:=by
 refine (znV (zeV m) m.Fields.length).imp_of_mem fun {a b} ha hb h=>?_
 rcases h with h| ⟨h,wP⟩
 ·exact h
 ·exfalso;obtain ⟨a0,a1⟩:=zdm.1 ha;obtain ⟨b0,b1⟩:=zdm.1 hb;rw [zmK,zmK] at h;have:=zpW hs hm a0 a1;rw [h,zpW hs hm b0 b1] at this;omega
theorem zsy {s:List Mes} (hs:zcB s) {m:Mes} (hm:m∈s) (v:Int->Vlu) (hn:∀i,(v i).Number=zeV m i):∀(o:List Int) (p:Option Int),(∀i∈o,0<=i/\i<m.Fields.length)->(o.Pairwise fun a b=>zeV m a<zeV m b)->
  (∀i∈o,p.all (fun n=>decide (n<zeV m i))=true)->(∀i∈o,0<zaM (v i)->ziS s (v i) (zv m i)=true)->zff s ((o.map v).filter fun x=>decide (0<zaM x)) m p=true
 | [],p,_,_,_,_=>by rw [yQ,List.filter_nil,zff]
 | i::o,p,h1,h2,h3,h4=>by
  obtain ⟨h2a,h2b⟩:=yg.1 h2;have ih:=fun p hp=>zsy hs hm v hn o p (fun j hj=>h1 j (xA _ hj)) h2b hp (fun j hj=>h4 j (xA _ hj))
  rw [xQ,yI];by_cases hp:0<zaM (v i)
  ·rw [xy (by simpa using hp),zff,ih _ (fun j hj=>by rw [hn];simpa using h2a j hj)];obtain ⟨i0,i1⟩:=h1 i xz;have hfi:=zpW hs hm i0 i1;rw [hn,zmK,hfi,h4 i xz hp,<-zmK,h3 i xz,xV i0];rfl
  ·rw [xx (by simpa using hp)];exact ih p fun j hj=>h3 j (xA _ hj)
theorem zgr {s:List Mes} (hs:zcB s):∀(N:Nat) (b:List UInt8) (d k:Nat),b.length=N->k<s.length->zS s d k b=none->zaG s (ofM s k b) k=true/\dM (ofM s k b)<=d:=by
 intro N
 induction N using Nat.strongRecOn with
 | _ N IH=>
  intro b d k hN hk hv;have hmm:zp s (k:Int)∈s:=by rw [zci hk];exact xH hk
  have hth:=zzL hv;have hwt:=znY (zp s (k:Int)) b;rw [ziu]
  generalize hl:ths (zp s (k:Int)) b=l at hth hwt
  generalize hm:zp s (k:Int)=m at hmm hth hwt
  have hsub:∀f∈m.Fields,f.Kind=17->∀v:List UInt8,v.length+1<=b.length->∀e,zS s e f.Of v=none->zaG s (ofM s f.Of v) f.Of=true/\dM (ofM s f.Of v)<=e:=fun f hf wR v hvl e he=>by
   have hof:=(hs.fld _ hmm f hf).sub wR;obtain ⟨q,hq⟩:∃q:Nat,f.Of=q:=⟨f.Of.toNat,by omega⟩
   grind
  have hval:∀i∈zeN (zeV m) m.Fields.length,0<zaM (valO (ofM s) (zv m i) (accF (ofM s) (zv m i) i acc0 l))->
    ziS s (valO (ofM s) (zv m i) (accF (ofM s) (zv m i) i acc0 l)) (zv m i)=true/\dV (valO (ofM s) (zv m i) (accF (ofM s) (zv m i) i acc0 l))<=d:=fun i hi hp=>by
   obtain ⟨i0,i1⟩:=zdm.1 hi;obtain ⟨n,hn⟩:∃n:Nat,i=n:=⟨i.toNat,by omega⟩;have hnl:n<m.Fields.length:=by omega
   have hfm:zv m i∈m.Fields:=by rw [hn,zby hnl];exact xH _
   have hacc:=zvc (g:=ofM s) i0 rfl acc0 l (zzW s d (zv m i)) hth (fun t ht wR e he hv=>hsub _ hfm wR _ (by have:=zpQ ht;omega) e hv);have hw:=(zrc (ofM s) (zv m i) i acc0 l).2;refine zMd hacc (hs.fld _ hmm _ hfm).kind (fun wR hmet e he hv=>hsub _ hfm wR _ ?_ e hv) hp;have h0:wJ acc0=0:=rfl;rw [h0,wJ,xy hmet] at hw;omega
  constructor
  ·rw [zkP,hm,xV (by omega),yj,xB];constructor
   ·unfold zds zpK;exact zsy hs hmm (fun i=>valO (ofM s) (zv m i) (accF (ofM s) (zv m i) i acc0 l)) (fun i=>rfl) _ none (fun i hi=>zdm.1 hi) (znU hs hmm) (fun _ _=>rfl) (fun i hi hp=>(hval i hi hp).1)
   ·unfold zds unkO;refine xI.2 fun u hu=>?_
    obtain ⟨t,ht,rfl⟩:=xF.1 hu;obtain ⟨ht1,ht2⟩:=xU.1 ht;exact (hth t ht1).unk (by simpa using ht2)
  ·rw [zFy];unfold zds zpK;refine zIK fun x hx=>?_
   grind
theorem zEo (h: -9223372036854775808<=n/\n<=9223372036854775807):(Lit.int .i64 n).wf=true:=by
 simpa [Lit.wf,IntKind.min,IntKind.max,IntKind.bits,IntKind.signed] using h
structure zBw (a:zcu):Prop where
 words:∀w∈a.2.2.1,0<=w/\w<=18446744073709551615
 texts:∀t∈a.2.2.2.1,t.length<=1048576
 subs:∀x∈a.2.2.2.2,bdM x/\smM x
theorem zKU:zBw acc0:=⟨fun w h=>(nomatch h),fun w h=>(nomatch h),fun w h=>(nomatch h)⟩
theorem zDI (k:Int) (v:List UInt8):∀w∈(zas k v).1,0<=w/\w<=18446744073709551615:=by
 intro w hw;unfold zas at hw;split at hw
 ·cases hw
 ·split at hw
  ·obtain ⟨p,_,rfl⟩:=xF.1 hw;exact zgf k (znQ k)
  ·cases hw
theorem zKg (k:Int) (v:List UInt8):0<=(zna k v).1/\(zna k v).1<=18446744073709551615:=by
 unfold zna;split
 ·simp
 ·split
  ·simp
  ·exact zgf k (znQ k)
theorem zNL {g:Int->List UInt8->Msg} {f:Fld} {a:zcu} {t:Th} (ha:zBw a) (ht:t.val.length<=1048576) (hg:f.Kind=17->bdM (g f.Of t.val)/\smM (g f.Of t.val)):zBw (stp g f a t):=by
 obtain ⟨h1,h2,h3⟩:=ha;have w0:∀w∈(if f.Repeated=true then a.2.2.1 else []),0<=w/\w<=18446744073709551615:=fun w hw=>by
  grind
 have t0:∀w∈(if f.Repeated=true then a.2.2.2.1 else []),w.length<=1048576:=fun w hw=>by
  grind
 unfold stp;split
 ·refine ⟨fun w hw=>?_,t0,h3⟩;rcases xG.1 hw with hw| hw
  ·exact w0 w hw
  ·exact zDI _ _ w hw
 ·split
  ·refine ⟨fun w hw=>?_,t0,h3⟩;rcases xG.1 hw with hw| hw
   ·exact w0 w hw
   ·rw [yl.1 hw];exact zKg _ _
  ·split
   ·rename_i hk;refine ⟨w0,t0,fun x hx=>?_⟩
    grind
   ·split
    ·exact ⟨w0,t0,h3⟩
    ·refine ⟨w0,fun x hx=>?_,h3⟩
     grind
theorem zFq {g:Int->List UInt8->Msg} {f:Fld} {i:Int}:∀{l:List Th} {a:zcu},zBw a->(∀t∈l,t.val.length<=1048576)->(f.Kind=17->∀t∈l,bdM (g f.Of t.val)/\smM (g f.Of t.val))->zBw (accF g f i a l)
 | [],a,ha,_,_=>ha
 | t::l,a,ha,ht,hg=>by
  rw [accF];refine zFq ?_ (fun x hx=>ht x (xA _ hx)) fun wR x hx=>hg wR x (xA _ hx)
  split
  ·exact zNL ha (ht t xz) fun wR=>hg wR t xz
  ·exact ha
theorem zJL {s:List Mes} (hs:zcB s):∀(N:Nat) (b:List UInt8) (k:Nat),b.length=N->N<=1048576->k<s.length->bdM (ofM s k b)/\smM (ofM s k b):=by
 intro N
 induction N using Nat.strongRecOn with
 | _ N IH=>
  intro b k hN hb hk;have hmm:zp s (k:Int)∈s:=by rw [zci hk];exact xH hk
  have hwt:=znY (zp s (k:Int)) b;have hraw:∀t∈ths (zp s (k:Int)) b,t.raw.length<=b.length:=fun t ht=>by
   unfold ths at ht;obtain ⟨r,_,rfl⟩:=xF.1 ht;show (rawB b r.R).length<=_;unfold rawB;simp;omega
  have hfew:=hs.few _ hmm;rw [ziu]
  generalize ths (zp s (k:Int)) b=l at hwt hraw
  generalize zp s (k:Int)=m at hmm hfew|-
  have hsub:∀f∈m.Fields,f.Kind=17->∀v:List UInt8,v.length+1<=b.length->bdM (ofM s f.Of v)/\smM (ofM s f.Of v):=fun f hf wR v hvl=>by
   have hof:=(hs.fld _ hmm f hf).sub wR;obtain ⟨q,hq⟩:∃q:Nat,f.Of=q:=⟨f.Of.toNat,by omega⟩
   grind
  have hval:∀i∈zeN (zeV m) m.Fields.length,bdV (valO (ofM s) (zv m i) (accF (ofM s) (zv m i) i acc0 l))/\smV (valO (ofM s) (zv m i) (accF (ofM s) (zv m i) i acc0 l)):=fun i hi=>by
   obtain ⟨i0,i1⟩:=zdm.1 hi;obtain ⟨n,hn⟩:∃n:Nat,i=n:=⟨i.toNat,by omega⟩;have hnl:n<m.Fields.length:=by omega
   have hfm:zv m i∈m.Fields:=by rw [hn,zby hnl];exact xH _
   have hfo:=hs.fld _ hmm _ hfm;have hacc:=zFq (g:=ofM s) (f:=zv m i) (i:=i) (l:=l) zKU (fun t ht=>by have:=zpQ ht;omega) (fun wR t ht=>hsub _ hfm wR _ (by have:=zpQ ht;omega));have hw:=zrc (ofM s) (zv m i) i acc0 l;have w0:wA acc0=0:=rfl;have j0:wJ acc0=0:=rfl;rw [w0,j0] at hw
   generalize zv m i=f at hfm hfo hacc hw|-
   generalize accF (ofM s) f i acc0 l=q at hacc hw|-
   obtain ⟨a1,a2,a3⟩:=hacc;have hsubs:(valO (ofM s) f q).Subs.length<=1048576/\∀x∈(valO (ofM s) f q).Subs,bdM x/\smM x:=by
    unfold valO;simp only;split
    ·rename_i hc;refine ⟨by simp,fun x hx=>?_⟩;rw [yl.1 hx];have h2:=hw.2;rw [wJ,xy hc.1] at h2
     grind
    ·exact ⟨by have:=hw.1;unfold wA at this;omega,a3⟩
   have h1:=hw.1;unfold wA at h1;have e1:(valO (ofM s) f q).Words=q.2.2.1:=rfl;have e2:(valO (ofM s) f q).Texts=q.2.2.2.1:=rfl;have e3:(valO (ofM s) f q).Number=f.Number:=rfl
   refine ⟨(zhk _).2 ⟨by rw [e3];exact zEo (by have:=hfo.lo;have:=hfo.hi;omega),⟨by rw [e1];omega,by rw [e1];exact a1⟩,⟨by rw [e2];omega,fun x hx=>by rw [e2] at hx;have:=a2 x hx;omega⟩,by have:=hsubs.1;omega,zeE.2 fun x hx=>(hsubs.2 x hx).1⟩,
    (zxu _).2 ⟨by rw [e1];omega,⟨by rw [e2];omega,by rw [e2];exact a2⟩,hsubs.1,zne.2 fun x hx=>(hsubs.2 x hx).2⟩⟩
  have hvl:(zds (ofM s) m l).Values.length<=200:=by
   unfold zds zpK;simp only;refine yn (pR _ _) ?_;rw [qL,zzF];exact hfew
  have hul:(zds (ofM s) m l).Unknown.length<=1048576:=by
   unfold zds unkO;simp only;rw [qL];refine yn (pR _ _) ?_;have:=zuj l;omega
  have hum:∀t∈(zds (ofM s) m l).Unknown,t.length<=1048576:=fun u hu=>by
   unfold zds unkO at hu
   grind
  have hvm:∀v∈(zds (ofM s) m l).Values,bdV v/\smV v:=fun v hv=>by
   unfold zds zpK at hv
   grind
  refine ⟨(zja _).2 ⟨by omega,⟨by omega,fun t ht=>by have:=hum t ht;omega⟩,zen.2 fun v hv=>(hvm v hv).1⟩,(zxt _).2 ⟨by omega,⟨hul,hum⟩,znf.2 fun v hv=>(hvm v hv).2⟩⟩
abbrev zaC:=List Int
def begB (way w:zaC):Bool:=w.isPrefixOf way
theorem zIu :begB way w=true↔w<+:way:=List.isPrefixOf_iff_prefix
def zdr:zaC->zaC->Bool
 | [],b=> !b.isEmpty
 | _::_,[]=>false
 | x::a,y::b=>if x=y then zdr a b else decide (x<y)
theorem znE:∀(a:zaC),zdr a a=false
 | []=>rfl
 | x::a=>by rw [zdr,xy rfl,znE a]
theorem zoY:∀(a b c:zaC),zdr a b=true->zdr b c=true->zdr a c=true
 | [],b,c,h1,h2=>by
  cases c with
  | nil=>cases b<;>simp [zdr] at h2
  | cons=>rfl
 | _::_,[],_,h1,_=>by simp [zdr] at h1
 | _::_,_::_,[],_,h2=>by simp [zdr] at h2
 | x::a,y::b,z::c,h1,h2=>by
  rw [zdr] at h1 h2|-;by_cases hxy:x=y
  ·rw [xy hxy] at h1;by_cases hyz:y=z
   ·rw [xy hyz] at h2;rw [xy (hxy.trans hyz)];exact zoY a b c h1 h2
   grind
  grind
theorem zuv:∀(a b:zaC),a≠b->zdr a b=true\/zdr b a=true
 | [],[],h=>absurd rfl h
 | [],_::_,_=> .inl rfl
 | _::_,[],_=> .inr rfl
 | x::a,y::b,h=>by
  rw [zdr,zdr];by_cases hxy:x=y
  ·rw [xy hxy,xy hxy.symm];exact zuv a b (fun e=>h (by rw [hxy,e]))
  grind
theorem zCx (h:zdr a b=true):zdr b a=false:=by
 cases hb:zdr b a with
 | false=>rfl
 | true=>have:=zoY a b a h hb;rw [znE] at this;cases this
theorem zuI:∀(l k:List zaC),l.Pairwise (fun a b=>zdr a b=true)->k.Pairwise (fun a b=>zdr a b=true)->(∀w,w∈l↔w∈k)->l=k
 | [],[],_,_,_=>rfl
 | [],y::k,_,_,h=>absurd ((h y).2 xz) (by simp)
 | x::l,[],_,_,h=>absurd ((h x).1 xz) (by simp)
 | x::l,y::k,hl,hk,h=>by
  have hl':=yg.1 hl;have hk':=yg.1 hk;have hxy:x=y:=by
   rcases xC.1 ((h x).1 xz) with h1| h1
   ·exact h1
   ·rcases xC.1 ((h y).2 xz) with h2| h2
    ·exact h2.symm
    grind [zCx]
  subst hxy;congr 1;refine zuI l k hl'.2 hk'.2 fun w=>?_
  grind [znE]
def zGs (kd:List zaC) (i:Nat) (w:zaC) (k:Nat) (v:zaC):Bool:=decide (k≠i)&& !v.isEmpty&&begB w v&&(decide (v.length<w.length)|| decide (k<i))
def badW (kd:List zaC) (i:Nat) (w:zaC):Nat->List zaC->Bool
 | _,[]=>false
 | k,v::l=>zGs kd i w k v|| badW kd i w (k+1) l
def insL (w:zaC) (out:List zaC):List zaC:=out.takeWhile (fun x=>zdr x w)++w::out.dropWhile (fun x=>zdr x w)
def ofK (kd:List zaC):Nat->List zaC
 | 0=>[]
 | i+1=>match kd[i]? with
  | some w=>if !w.isEmpty&& !badW kd i w 0 kd then insL w (ofK kd i) else ofK kd i
  | none=>ofK kd i
def ofW (kd:List zaC):List zaC:=ofK kd kd.length
theorem zIZ :x∈insL w out↔x=w\/x∈out:=by
 unfold insL;have hs:out.takeWhile (fun x=>zdr x w)++out.dropWhile (fun x=>zdr x w)=out:=pQ
 grind
theorem zFc :∀{l:List zaC},∀x∈l.takeWhile (fun x=>zdr x w),zdr x w=true:=by
 intro l
 induction l with
 | nil=>intro x hx;simp at hx
 | cons y l ih=>
  intro x hx;rw [List.takeWhile_cons] at hx
  grind
theorem zEj :∀{l:List zaC},l.Pairwise (fun a b=>zdr a b=true)->(w∉l)->∀x∈l.dropWhile (fun x=>zdr x w),zdr w x=true:=by
 intro l
 induction l with
 | nil=>intro _ _ x hx;simp at hx
 | cons y l ih=>
  intro hp hn x hx;rw [List.dropWhile_cons] at hx;have hp':=yg.1 hp
  grind [zuv,zoY]
theorem zCd (hs:out.Pairwise (fun a b=>zdr a b=true)) (hn:w∉out):(insL w out).Pairwise (fun a b=>zdr a b=true):=by
 unfold insL;have hsp:out.takeWhile (fun x=>zdr x w)++out.dropWhile (fun x=>zdr x w)=out:=pQ;have hp:(out.takeWhile (fun x=>zdr x w)++out.dropWhile (fun x=>zdr x w)).Pairwise (fun a b=>zdr a b=true):=by rw [hsp];exact hs
 rw [List.pairwise_append] at hp|-;have ht:=zFc (w:=w) (l:=out);have hd:=zEj hs hn;simp_all
theorem zBD {kd:List zaC} {i:Nat} {w:zaC}:∀(l:List zaC) (k:Nat),badW kd i w k l=true↔∃j v,l[j]? =some v/\zGs kd i w (k+j) v=true
 | [],k=>by simp [badW]
 | v::l,k=>by
  rw [badW,qX,zBD l (k+1)];constructor
  ·rintro (h| ⟨j,u,h1,h2⟩)
   ·exact ⟨0,v,rfl,by simpa using h⟩
   ·exact ⟨j+1,u,by simpa using h1,by rw [show k+(j+1)=k+1+j by omega];exact h2⟩
  grind
def zDN (kd:List zaC) (w:zaC):Prop:=w∈kd/\w≠[]/\∀v∈kd,v≠[]->v<+:w->v=w
theorem zBZ {kd:List zaC} {i:Nat} {w:zaC} (hi:kd[i]? =some w):(!w.isEmpty&& !badW kd i w 0 kd)=true↔zDN kd w/\∀j<i,kd[j]? ≠some w:=by
 rw [xB,xY,xY,<-pV,<-pV,zBD];have hw:w∈kd:=qO hi;have wV:∀(k:Nat) (v:zaC),zGs kd i w k v=true↔k≠i/\v≠[]/\v<+:w/\(v.length<w.length\/k<i):=by
  grind [zGs,zIu]
 constructor
 ·rintro ⟨h1,h2⟩;refine ⟨⟨hw,by simpa using h1,fun v hv hv0 hp=>?_⟩,fun j hj hje=>?_⟩
  ·obtain ⟨k,hk,rfl⟩:=qy hv;rcases yq (kd[k]).length w.length with hl| hl
   ·exfalso;refine h2 ⟨k,kd[k],xT hk,(wV _ _).2 ⟨fun e=>?_,hv0,hp,.inl hl⟩⟩
    grind
   ·exact hp.eq_of_length (by have:=hp.length_le;omega)
  grind
 ·rintro ⟨⟨_,h1,h2⟩,h3⟩
  grind
theorem zAN {kd:List zaC}:∀(i:Nat),i<=kd.length->∀w,w∈ofK kd i↔zDN kd w/\∃j<i,kd[j]? =some w
 | 0,_,w=>by simp [ofK]
 | i+1,hi,w=>by
  have hil:i<kd.length:=hi;have ih:=zAN (kd:=kd) i (Nat.le_of_lt hil) w;obtain ⟨u,hg⟩:∃u,kd[i]? =some u:=⟨kd[i],xT hil⟩;rw [ofK,hg]
  grind [zIZ,zBZ]
theorem zGp {kd:List zaC} {w:zaC}:w∈ofW kd↔zDN kd w:=by
 unfold ofW;rw [zAN _ (xE _)];refine ⟨fun h=>h.1,fun h=>⟨h,?_⟩⟩;obtain ⟨j,hj,rfl⟩:=qy h.1;exact ⟨j,hj,xT hj⟩
theorem zwO {kd:List zaC}:∀(i:Nat),i<=kd.length->(ofK kd i).Pairwise (fun a b=>zdr a b=true)
 | 0,_=> .nil
 | i+1,hi=>by
  have hil:i<kd.length:=hi;have ih:=zwO (kd:=kd) i (Nat.le_of_lt hil);obtain ⟨u,hg⟩:∃u,kd[i]? =some u:=⟨kd[i],xT hil⟩;rw [ofK,hg]
  grind [zBZ,zCd,zAN]
theorem zEK (kd:List zaC):(ofW kd).Pairwise (fun a b=>zdr a b=true):=zwO _ (xE _)
theorem zGo {kd:List zaC}:∀(i:Nat),(ofK kd i).length<=i
 | 0=>xE _
 | i+1=>by
  have ih:=zGo (kd:=kd) i;rw [ofK];split
  ·split
   ·unfold insL;have hs:∀(p:zaC->Bool),((ofK kd i).takeWhile p).length+((ofK kd i).dropWhile p).length=(ofK kd i).length:=fun p=>by rw [<-xD,pQ]
    grind
   ·omega
  ·omega
theorem zLH (kd:List zaC):(ofW kd).length<=kd.length:=zGo _
def hasB (kd:List zaC) (way:zaC):Bool:=kd.any fun v=> !v.isEmpty&&begB way v
def zoc (m:List zaC) (n:Int):Bool:=m.any fun v=>v==[n]
def zNC (n:Int):zaC->Option zaC
 | x::y::v=>if x=n then some (y::v) else none
 | _=>none
def zmv (m:List zaC) (n:Int):List zaC:=m.filterMap (zNC n)
def zmg (s:List Mes) (root:Int):Int:=if zhI s=false then 9 else if root<0\/root>=s.length then 2 else 0
theorem zBC (h:zmg s root=0):zcB s/\0<=root/\root<s.length:=by
 unfold zmg at h
 grind [zzy]
def zdH (l:List Vlu):Prop:=l.Pairwise fun a b=>a.Number<b.Number
def look (l:List Vlu) (n:Int):Option Vlu:=l.find? fun v=>v.Number==n
theorem zcI (v:Vlu) (l:List Vlu) (n:Int):look (v::l) n=if v.Number=n then some v else look l n:=by
 unfold look
 grind
theorem zey (h:look l n=some v):v.Number=n/\v∈l:=by
 unfold look at h
 grind
theorem zqc (h:∀v∈l,n<v.Number):look l n=none:=by
 unfold look
 grind
theorem zwF (hr:zdH l) (h:v∈l):look l v.Number=some v:=by
 induction l with
 | nil=>cases h
 | cons u l ih=>
  obtain ⟨h1,h2⟩:=yg.1 hr;rw [zcI];rcases xC.1 h with rfl| h
  ·rw [xy rfl]
  ·have:=h1 v h;rw [xx (by omega),ih h2 h]
theorem zwE:∀{l k:List Vlu},zdH l->zdH k->(∀n,look l n=look k n)->l=k
 | [],[],_,_,_=>rfl
 | [],u::k,_,_,h=>by
  have:=h u.Number;rw [zcI,xy rfl] at this;cases this
 | v::l,[],_,_,h=>by
  have:=h v.Number;rw [zcI,xy rfl] at this;cases this
 | v::l,u::k,hl,hk,h=>by
  obtain ⟨l1,l2⟩:=yg.1 hl;obtain ⟨k1,k2⟩:=yg.1 hk;have e:v=u:=by
   have hv:=h v.Number;have hu:=h u.Number
   grind [zcI,zqc]
  subst e;rw [zwE l2 k2 fun n=>by
   by_cases hn:v.Number<n
   ·have:=h n
    grind [zcI]
   ·rw [zqc fun x hx=>by have:=l1 x hx;omega,zqc fun x hx=>by have:=k1 x hx;omega]]
def putL (v:Vlu):Bool->List Vlu->List Vlu
 | done,[]=>if done=true then [] else [v]
 | done,u::l=>(if done=false/\v.Number<=u.Number then [v] else [])++((if u.Number=v.Number then [] else [u])++putL v (done|| decide (v.Number<=u.Number)) l)
theorem zCQ (v:Vlu):∀(d:Bool) (l:List Vlu),(putL v d l).length<=l.length+(if d=true then 0 else 1)
 | d,[]=>by rw [putL];cases d<;>simp
 | d,u::l=>by
  have:=zCQ v (d|| decide (v.Number<=u.Number)) l;rw [putL]
  grind
theorem zCR :∀{d:Bool} {l:List Vlu} {x:Vlu},x∈putL v d l->x=v/\d=false\/x∈l/\x.Number≠v.Number
 | d,[],x,h=>by
  rw [putL] at h
  grind
 | d,u::l,x,h=>by
  rw [putL] at h;rcases xG.1 h with h| h
  ·grind
  ·rcases xG.1 h with h| h
   ·grind
   ·rcases zCR h with ⟨h1,h2⟩| ⟨h1,h2⟩
    ·grind
    grind
theorem zlZ :∀{d:Bool} {l:List Vlu},zdH l->zdH (putL v d l)
 | d,[],_=>by rw [putL];cases d<;>simp [zdH]
 | d,u::l,h=>by
  obtain ⟨h1,h2⟩:=yg.1 h;have ih:=zlZ (v:=v) (d:=d|| decide (v.Number<=u.Number)) h2;have hrest:∀x∈putL v (d|| decide (v.Number<=u.Number)) l,u.Number<x.Number:=fun x hx=>by
   grind [zCR]
  rw [putL];have htail:zdH ((if u.Number=v.Number then [] else [u])++putL v (d|| decide (v.Number<=u.Number)) l):=by
   split
   ·exact ih
   ·exact yg.2 ⟨hrest,ih⟩
  split
  ·rename_i hc;rw [List.singleton_append];refine yg.2 ⟨fun x hx=>?_,htail⟩
   grind
  ·exact htail
theorem zoZ (l k:List Vlu) (n:Int):look (l++k) n=match look l n with| some v=>some v| none=>look k n:=by
 unfold look
 grind
theorem zsk :∀{d:Bool} {l:List Vlu},zdH l->∀n,look (putL v d l) n=if n=v.Number then (if d=true then none else some v) else look l n
 | d,[],_,n=>by
  rw [putL];cases d
  ·grind [zcI]
  ·rw [xy rfl,xy rfl];split<;>rfl
 | d,u::l,h,n=>by
  obtain ⟨h1,h2⟩:=yg.1 h;have ih:=zsk (v:=v) (d:=d|| decide (v.Number<=u.Number)) h2 n;rw [putL,zoZ,zoZ,ih,zcI u l n];by_cases hn:n=v.Number
  ·rw [xy hn,xy hn];have hu:look (if u.Number=v.Number then [] else [u]) n=none:=by
    split
    ·rfl
    ·rw [zcI,xx (by omega)];rfl
   grind [zcI]
  ·rw [xx hn,xx hn];have hv:look (if d=false/\v.Number<=u.Number then [v] else []) n=none:=by
    split
    ·rw [zcI,xx (fun hh=>hn hh.symm)];rfl
    ·rfl
   grind [zcI]
def putM (x:Msg) (v:Vlu):Msg:=⟨putL v (decide (zaM v=0)) x.Values,x.Unknown⟩
theorem zma :∀{l:List Vlu} {p:Option Int},zff s l m p=true->∀v∈l,0<=fldI m v.Number/\ziS s v (zv m (fldI m v.Number))=true/\p.all (fun n=>decide (n<v.Number))=true
 | [],p,_,v,hv=>by cases hv
 | u::l,p,h,v,hv=>by
  rw [zff] at h;simp only [xB,yc] at h;obtain ⟨⟨⟨h1,h2⟩,h3⟩,h4⟩:=h;rcases xC.1 hv with rfl| hv
  ·grind
  ·obtain ⟨g1,g2,g3⟩:=zma h4 v hv;refine ⟨g1,g2,?_⟩;cases p with
   | none=>rfl
   | some n=>
    grind
theorem zpt :∀{l:List Vlu} {p:Option Int},zff s l m p=true->zdH l
 | [],p,_=> .nil
 | u::l,p,h=>by
  rw [zff] at h;simp only [xB,yc] at h;refine yg.2 ⟨fun v hv=>?_,zpt h.2⟩;have:=(zma h.2 v hv).2.2;simpa using this
theorem zxk :∀{l:List Vlu} {p:Option Int},zdH l->(∀v∈l,0<=fldI m v.Number/\ziS s v (zv m (fldI m v.Number))=true/\p.all (fun n=>decide (n<v.Number))=true)->zff s l m p=true
 | [],p,_,_=>by rw [zff]
 | u::l,p,hr,h=>by
  obtain ⟨h1,h2⟩:=yg.1 hr;obtain ⟨a1,a2,a3⟩:=h u xz;rw [zff,zxk h2 fun v hv=>⟨(h v (xA _ hv)).1,(h v (xA _ hv)).2.1,by simpa using h1 v hv⟩,a2,a3,xV a1];rfl
theorem zbi (h:zaG s x k=true):0<=k/\k<s.length/\zdH x.Values/\(∀v∈x.Values,0<=fldI (zp s k) v.Number/\ziS s v (zv (zp s k) (fldI (zp s k) v.Number))=true)/\∀u∈x.Unknown,unkR (zp s k) u=true:=by
 rw [zkP] at h;simp only [xB,yc] at h;exact ⟨h.1.1.1,h.1.1.2,zpt h.1.2,fun v hv=>⟨(zma h.1.2 v hv).1,(zma h.1.2 v hv).2.1⟩,xI.1 h.2⟩
theorem zzz (h1:0<=k) (h2:k<s.length) (h3:zdH x.Values) (h4:∀v∈x.Values,0<=fldI (zp s k) v.Number/\ziS s v (zv (zp s k) (fldI (zp s k) v.Number))=true) (h5:∀u∈x.Unknown,unkR (zp s k) u=true):zaG s x k=true:=by
 grind [zkP,zxk]
structure zgG (s:List Mes) (v:Vlu) (f:Fld):Prop where
 many:0<zaM v
 one:f.Repeated=false->zaM v=1
 kind:zbJ f.Kind=true
 words:∀w∈v.Words,ziN f w=true
 texts:∀t∈v.Texts,zkr f t=true
 subs:∀x∈v.Subs,f.Kind=17/\zaG s x f.Of=true
theorem zdl (h:ziS s v f=true):zgG s v f:=by
 rw [zrQ,zlx] at h;unfold zqP at h;simp only [xB,qX,yc,xI,qK] at h;obtain ⟨⟨⟨⟨⟨h1,h2⟩,h3⟩,h4⟩,h5⟩,h6⟩:=h;refine ⟨h1,fun hr=>?_,h3,h4,h5,fun x hx=>?_⟩
 ·grind
 ·exact h6 x hx
theorem zFG (h:zgG s v f):ziS s v f=true:=by
 obtain ⟨h1,h2,h3,h4,h5,h6⟩:=h;rw [zrQ,zlx];unfold zqP;simp only [xB,qX,yc,xI,qK];refine ⟨⟨⟨⟨⟨h1,?_⟩,h3⟩,h4⟩,h5⟩,fun x hx=>h6 x hx⟩;cases hr:f.Repeated with
 | true=>exact .inr rfl
 | false=>exact .inl (by have:=h2 hr;omega)
theorem zgG.noWords (h:zgG s v f) (hk:kNum f.Kind=false):v.Words=[]:=by
 cases hw:v.Words with
 | nil=>rfl
 | cons w l=>
  have:=h.words w (by rw [hw];exact xz);unfold ziN at this
  grind
theorem zgG.noTexts (h:zgG s v f) (hk:f.Kind≠15/\f.Kind≠16):v.Texts=[]:=by
 cases hw:v.Texts with
 | nil=>rfl
 | cons w l=>
  have:=h.texts w (by rw [hw];exact xz);unfold zkr at this
  grind
theorem zgG.noSubs {s:List Mes} {v:Vlu} {f:Fld} (h:zgG s v f) (hk:f.Kind≠17):v.Subs=[]:=by
 cases hw:v.Subs with
 | nil=>rfl
 | cons w l=>exact absurd (h.subs w (by rw [hw];exact xz)).1 hk
theorem zgG.msg (h:zgG s v f) (hk:f.Kind=17) (hr:f.Repeated=false):∃x,v=⟨v.Number,[],[],[x]⟩/\zaG s x f.Of=true:=by
 have h1:=h.noWords (by rw [hk];rfl);have h2:=h.noTexts (by omega);have h3:=h.one hr;have h4:=h.subs;obtain ⟨n,w,t,sub⟩:=v;simp only at h1 h2 h4;subst h1 h2;unfold zaM at h3;simp at h3;obtain ⟨x,rfl⟩:∃x,sub=[x]:=by
  cases sub with
  | nil=>simp at h3
  | cons x l=>cases l with
   | nil=>exact ⟨x,rfl⟩
   | cons _ _=>simp at h3
 grind
mutual
/-- b zgx a. -/
def zjM (s:List Mes):Msg->Msg->Int->Msg
 | ⟨vs,u⟩,a,k=>⟨zhm s vs a (zp s k) a.Values,a.Unknown++u⟩
def zhm (s:List Mes):List Vlu->Msg->Mes->List Vlu->List Vlu
 | [],_,_,acc=>acc
 | v::l,a,m,acc=>zhm s l a m (putM ⟨acc,[]⟩ (zgi s v (look a.Values v.Number) (zv m (fldI m v.Number)))).Values
def zgi (s:List Mes):Vlu->Option Vlu->Fld->Vlu
 | ⟨n,w,t,sub⟩,none,f=>⟨n,w,t,sub⟩
 | ⟨n,w,t,sub⟩,some u,f=>if f.Repeated=true then ⟨n,u.Words++w,u.Texts++t,u.Subs++sub⟩ else if f.Kind=17 then ⟨n,[],[],zkf s sub u.Subs f.Of⟩ else ⟨n,w,t,sub⟩
def zkf (s:List Mes):List Msg->List Msg->Int->List Msg
 | [],_,_=>[]
 | x::_,ys,k=>match ys with
  | []=>[]
  | y::_=>[zjM s x y k]
end
theorem zll (s:List Mes) (b a:Msg) (k:Int):zjM s b a k=⟨zhm s b.Values a (zp s k) a.Values,a.Unknown++b.Unknown⟩:=by cases b;rw [zjM]
theorem zhv (s:List Mes) (v:Vlu) (o:Option Vlu) (f:Fld):zgi s v o f=match o with
  | none=>v
  | some u=>if f.Repeated=true then ⟨v.Number,u.Words++v.Words,u.Texts++v.Texts,u.Subs++v.Subs⟩ else if f.Kind=17 then ⟨v.Number,[],[],zkf s v.Subs u.Subs f.Of⟩ else v:=by
 cases v;cases o<;>rw [zgi]
theorem ztw (s:List Mes) (v:Vlu) (o:Option Vlu) (f:Fld):(zgi s v o f).Number=v.Number:=by
 rw [zhv];cases o with
 | none=>rfl
 | some u=>simp only;split;rfl;split<;>rfl
theorem zJT (acc:List Vlu) (u:List Str) (v:Vlu):(putM ⟨acc,u⟩ v).Values.length<=acc.length+1:=by
 grind [putM,zCQ]
theorem zux :∀{l acc:List Vlu},zdH acc->zdH l->(∀v∈l,0<zaM (zgi s v (look a.Values v.Number) (zv m (fldI m v.Number))))->
  zdH (zhm s l a m acc)/\∀n,look (zhm s l a m acc) n=match look l n with
   | some v=>some (zgi s v (look a.Values n) (zv m (fldI m n)))
   | none=>look acc n
 | [],acc,h1,_,_=>by rw [zhm];exact ⟨h1,fun n=>rfl⟩
 | v::l,acc,h1,h2,h3=>by
  obtain ⟨l1,l2⟩:=yg.1 h2;have hv:=h3 v xz;have hnum:=ztw s v (look a.Values v.Number) (zv m (fldI m v.Number));rw [zhm];have hacc:zdH (putM ⟨acc,[]⟩ (zgi s v (look a.Values v.Number) (zv m (fldI m v.Number)))).Values:=zlZ h1;obtain ⟨r1,r2⟩:=zux (s:=s) (a:=a) (m:=m) hacc l2 fun u hu=>h3 u (xA _ hu)
  grind [putM,zcI,zsk,zqc]
theorem zrn (hv:zgG s v f) (ho:∀u,o=some u->zgG s u f):0<zaM (zgi s v o f):=by
 rw [zhv];cases o with
 | none=>exact hv.many
 | some u=>
  have:=hv.many;simp only;by_cases hr:f.Repeated=true
  ·grind [zaM]
  ·rw [xx hr];by_cases wR:f.Kind=17
   ·rw [xy wR];obtain ⟨x,hvx,_⟩:=hv.msg wR (by simpa using hr);obtain ⟨y,huy,_⟩:=(ho u rfl).msg wR (by simpa using hr);rw [hvx,huy,zkf];simp [zaM]
   grind
theorem ztD (ha:zaG s a k=true) (hb:zaG s b k=true):zdH (zjM s b a k).Values/\∀n,look (zjM s b a k).Values n=match look b.Values n with
   | some v=>some (zgi s v (look a.Values n) (zv (zp s k) (fldI (zp s k) n)))
   | none=>look a.Values n:=by
 obtain ⟨_,_,ra,ha',_⟩:=zbi ha;obtain ⟨_,_,rb,hb',_⟩:=zbi hb;rw [zll];exact zux ra rb fun v hv=>zrn (zdl (hb' v hv).2) fun u hu=>by
  obtain ⟨e,hm⟩:=zey hu;have:=zdl (ha' u hm).2
  grind
def zxH (g:Int->List UInt8->Msg) (m:Mes) (l:List Th) (i:Int):Vlu:=valO g (zv m i) (accF g (zv m i) i acc0 l)
theorem zqd {s:List Mes} (hs:zcB s) {m:Mes} (hm:m∈s) {g:Int->List UInt8->Msg} {l:List Th} (hr:zdH (zds g m l).Values) (n:Int):
  look (zds g m l).Values n=if 0<=fldI m n/\0<zaM (zxH g m l (fldI m n)) then some (zxH g m l (fldI m n)) else none:=by
 have hmem:∀v,v∈(zds g m l).Values↔∃i:Int,(0<=i/\i<m.Fields.length)/\zxH g m l i=v/\0<zaM v:=fun v=>by
  unfold zds zpK;simp only [xU,xF,zdm,yc];constructor
  ·rintro ⟨⟨i,hi,rfl⟩,h2⟩;exact ⟨i,hi,rfl,h2⟩
  ·rintro ⟨i,hi,rfl,h2⟩;exact ⟨⟨i,hi,rfl⟩,h2⟩
 have hnum:∀i,(zxH g m l i).Number=(zv m i).Number:=fun i=>rfl
 by_cases hc:0<=fldI m n/\0<zaM (zxH g m l (fldI m n))
 ·grind [zcC,zwF,zby]
 ·rw [xx hc];cases hlk:look (zds g m l).Values n with
  | none=>rfl
  | some v=>
   exfalso;obtain ⟨hn,hv⟩:=zey hlk
   grind [zpW]
def comb (f:Fld) (a q:zcu):zcu:=(a.1++q.1,a.2.1|| q.2.1,(if f.Repeated=true then a.2.2.1++q.2.2.1 else if q.2.1=true then q.2.2.1 else a.2.2.1),(if f.Repeated=true then a.2.2.2.1++q.2.2.2.1 else if q.2.1=true then q.2.2.2.1 else a.2.2.2.1),a.2.2.2.2++q.2.2.2.2)
theorem zMo (f:Fld) (a:zcu):comb f a acc0=a:=by
 unfold comb acc0
 grind
theorem zKr (g:Int->List UInt8->Msg) (f:Fld) (a q:zcu) (t:Th):stp g f (comb f a q) t=comb f a (stp g f q t):=by
 unfold stp comb
 grind
theorem zti (g:Int->List UInt8->Msg) (f:Fld) (i:Int) (a:zcu):∀(l:List Th) (q:zcu),accF g f i (comb f a q) l=comb f a (accF g f i q l)
 | [],q=>rfl
 | t::l,q=>by
  rw [accF,accF];split
  ·rw [zKr,zti g f i a l]
  ·rw [zti g f i a l]
theorem zGF (g:Int->List UInt8->Msg) (f:Fld) (a:zcu) (t:Th):(stp g f a t).2.1=true:=by
 unfold stp;split;rfl;split;rfl;split;rfl;split<;>rfl
theorem zyy (g:Int->List UInt8->Msg) (f:Fld) (i:Int):∀(l:List Th) (a:zcu),a.2.1=true->(accF g f i a l).2.1=true
 | [],a,h=>h
 | t::l,a,h=>by
  rw [accF];refine zyy g f i l _ ?_;split
  ·exact zGF g f a t
  ·exact h
theorem zoD (g:Int->List UInt8->Msg) (f:Fld) (i:Int):∀(l:List Th) (a:zcu),(accF g f i a l).2.1=false->accF g f i a l=a
 | [],a,h=>rfl
 | t::l,a,h=>by
  rw [accF] at h|-;split at h
  ·grind [zyy,zGF]
  ·rename_i ht;rw [xx ht];exact zoD g f i l a h
theorem zKs {s:List Mes} {d:Nat} {m:Mes} {f:Fld} {g:Int->List UInt8->Msg} {a:zcu} {t:Th} (ht:OkT s d m t) (hi:0<=t.fi) (hf:zv m t.fi=f) (hr:f.Repeated=false) (wR:f.Kind≠17):
  0<(stp g f a t).2.2.1.length+(stp g f a t).2.2.2.1.length:=by
 have w7:=ht.run hi;rw [hf] at w7;unfold stp;by_cases h1:t.run=true
 ·grind
 ·grind
theorem zyw {s:List Mes} {d:Nat} {m:Mes} {f:Fld} {g:Int->List UInt8->Msg} {i:Int} (hi:0<=i) (hf:zv m i=f) (hr:f.Repeated=false) (wR:f.Kind≠17):∀(l:List Th) (a:zcu),(∀t∈l,OkT s d m t)->
  (a.2.1=true->0<a.2.2.1.length+a.2.2.2.1.length)->(accF g f i a l).2.1=true->0<(accF g f i a l).2.2.1.length+(accF g f i a l).2.2.2.1.length
 | [],a,_,h,hm=>h hm
 | t::l,a,ht,h,hm=>by
  rw [accF] at hm|-;refine zyw hi hf hr wR l _ (fun x hx=>ht x (xA _ hx)) ?_ hm;split
  ·rename_i hti;exact fun _=>zKs (ht t xz) (by omega) (by rw [hti];exact hf) hr wR
  ·exact h
theorem zEJ {s:List Mes} (hs:zcB s):∀(N:Nat) (a z:List UInt8) (d k:Nat),a.length+z.length=N->k<s.length->zS s d k a=none->zS s d k z=none->ofM s k (a++z)=zjM s (ofM s k z) (ofM s k a) k:=by
 intro N
 induction N using Nat.strongRecOn with
 | _ N IH=>
  intro a z d k hN hk hva hvz;have hmm:zp s (k:Int)∈s:=by rw [zci hk];exact xH hk
  have hvaz:=(zgZ s d k z hva).2 hvz;have hra:=(zgr hs _ a d k rfl hk hva).1;have hrz:=(zgr hs _ z d k rfl hk hvz).1;have hraz:=(zgr hs _ (a++z) d k rfl hk hvaz).1;obtain ⟨j1,j2⟩:=ztD hra hrz;obtain ⟨_,_,ra,_,_⟩:=zbi hra;obtain ⟨_,_,rz,_,_⟩:=zbi hrz;obtain ⟨_,_,raz,_,_⟩:=zbi hraz;have hta:=zzL hva;have htz:=zzL hvz;have hwa:=znY (zp s (k:Int)) a;have hwz:=znY (zp s (k:Int)) z;have haz:=zxA hva hvz;have hvals:(ofM s k (a++z)).Values=(zjM s (ofM s k z) (ofM s k a) k).Values:=by
   refine zwE raz j1 fun n=>?_
   rw [j2 n];rw [ziu] at raz ra rz;rw [ziu s k (a++z),ziu s k z,ziu s k a,zqd hs hmm raz,zqd hs hmm rz,zqd hs hmm ra,haz]
   generalize zp s (k:Int)=m at hmm hta htz hwa hwz
   rcases zcC m n with ⟨hf,_⟩| ⟨j,hj,hf,hjn,_⟩
   ·grind
   ·rw [hf];have hj0:(0:Int)<=(j:Int):=by omega
    simp only [hj0,qr];have hfm:zv m (j:Int)∈m.Fields:=by rw [zby hj];exact xH hj
    unfold zxH
    generalize hff:zv m (j:Int)=f at hfm
    have hsub:f.Kind=17->∀v:List UInt8,v.length+1<=N->∀e,zS s e f.Of v=none->zaG s (ofM s f.Of v) f.Of=true/\dM (ofM s f.Of v)<=e:=fun wR v _ e he=>by
     have hof:=(hs.fld _ hmm f hfm).sub wR;obtain ⟨q,hq⟩:∃q:Nat,f.Of=q:=⟨f.Of.toNat,by omega⟩;rw [hq] at he|-;exact zgr hs v.length v e q rfl (by omega) he
    have ha1:=zvc (g:=ofM s) hj0 hff acc0 (ths m a) (zzW s d f) hta (fun t ht wR e he hv=>hsub wR _ (by have:=zpQ ht;omega) e hv);have hz1:=zvc (g:=ofM s) hj0 hff acc0 (ths m z) (zzW s d f) htz (fun t ht wR e he hv=>hsub wR _ (by have:=zpQ ht;omega) e hv);have hca:=zti (ofM s) f j (accF (ofM s) f j acc0 (ths m a)) (ths m z) acc0;rw [zMo] at hca;rw [zlP,hca];have hma:=zoD (ofM s) f j (ths m a) acc0;have hmz:=zoD (ofM s) f j (ths m z) acc0;have hnz:=fun hr wR=>zyw (g:=ofM s) hj0 hff hr wR (ths m z) acc0 htz (fun hh=>nomatch hh)
    have hja:=(zrc (ofM s) f j acc0 (ths m a)).2;have hjz:=(zrc (ofM s) f j acc0 (ths m z)).2;have j0:wJ acc0=0:=rfl;rw [j0] at hja hjz
    generalize accF (ofM s) f j acc0 (ths m a)=q1 at ha1 hma hja
    generalize accF (ofM s) f j acc0 (ths m z)=q2 at hz1 hmz hnz hjz
    have e0:zaM (valO (ofM s) f acc0)=0:=by unfold zaM valO acc0;simp
    cases hm2:q2.2.1 with
    | false=>
     rw [hmz hm2,zMo,e0,xx (show ¬(0<0) by omega)]
    | true=>
     cases hr:f.Repeated with
     | true=>
      have v1:valO (ofM s) f q1=⟨f.Number,q1.2.2.1,q1.2.2.2.1,q1.2.2.2.2⟩:=by unfold valO;rw [xx (fun hh=>by rw [hr] at hh;cases hh.2.2)]
      have v2:valO (ofM s) f q2=⟨f.Number,q2.2.2.1,q2.2.2.2.1,q2.2.2.2.2⟩:=by unfold valO;rw [xx (fun hh=>by rw [hr] at hh;cases hh.2.2)]
      have v12:valO (ofM s) f (comb f q1 q2)=⟨f.Number,q1.2.2.1++q2.2.2.1,q1.2.2.2.1++q2.2.2.2.1,q1.2.2.2.2++q2.2.2.2.2⟩:=by
       unfold valO;rw [xx (fun hh=>by rw [hr] at hh;cases hh.2.2)];unfold comb;simp [hr]
      rw [v1,v2,v12];have nil2:∀(x y w:Nat),x+y+w=0->x=0/\y=0/\w=0:=by omega
      grind [zaM,zhv]
     | false=>
      have s1:=(ha1.one hr).2.2;have s2:=(hz1.one hr).2.2;by_cases wR:f.Kind=17
      ·have nw:∀q:zcu,zvI s d f q->q.2.2.1=[]/\q.2.2.2.1=[]:=fun q hq=>by
        constructor
        ·cases hw:q.2.2.1 with
         | nil=>rfl
         | cons w l=>
          have:=hq.words w (by rw [hw];exact xz);unfold ziN at this;rw [wR] at this;simp [kNum] at this
        ·cases hw:q.2.2.2.1 with
         | nil=>rfl
         | cons w l=>
          have:=hq.texts w (by rw [hw];exact xz);unfold zkr at this
          grind
       obtain ⟨a1,a2⟩:=nw q1 ha1;obtain ⟨z1,z2⟩:=nw q2 hz1;have v2:valO (ofM s) f q2=⟨f.Number,[],[],[ofM s f.Of q2.1]⟩:=by unfold valO;rw [xy ⟨hm2,wR,hr⟩,z1,z2]
       have m2:0<zaM (⟨f.Number,[],[],[ofM s f.Of q2.1]⟩:Vlu):=by simp [zaM]
       rw [v2,xy m2];simp only;cases hm1:q1.2.1 with
       | false=>
        grind [valO,comb,acc0,zhv]
       | true=>
        have v1:valO (ofM s) f q1=⟨f.Number,[],[],[ofM s f.Of q1.1]⟩:=by unfold valO;rw [xy ⟨hm1,wR,hr⟩,a1,a2]
        have v12:valO (ofM s) f (comb f q1 q2)=⟨f.Number,[],[],[ofM s f.Of (q1.1++q2.1)]⟩:=by
         unfold valO comb;simp [hm1,hm2,wR,hr,z1,z2]
        obtain ⟨e,he⟩:=hz1.met hm2 wR;have jv1:=ha1.join wR e he;have jv2:=hz1.join wR e he;rw [wJ,xy hm1] at hja;rw [wJ,xy hm2] at hjz;have hof:=(hs.fld _ hmm f hfm).sub wR;obtain ⟨q,hq⟩:∃q:Nat,f.Of=q:=⟨f.Of.toNat,by omega⟩;have hih:ofM s f.Of (q1.1++q2.1)=zjM s (ofM s f.Of q2.1) (ofM s f.Of q1.1) f.Of:=by
         grind
        rw [v1,v12,xy (by simp [zaM]),xy (by simp [zaM]),zhv];simp only;rw [xx (by rw [hr];simp),xy wR,zkf,hih]
      grind [valO,comb,zaM,zhv]
  grind [zds,unkO,zll,ziu]
def zqQ (s:List Mes) (root:Int) (l:List Msg):Int:=if zmg s root≠0 then zmg s root else if l.all (fun x=>zaG s x root)=true then 0 else 12
mutual
/-- Kept or left by ways. -/
def zsr (s:List Mes):Msg->Int->List zaC->Bool->Msg
 | ⟨vs,u⟩,k,w,keep=>⟨zix s vs (zp s k) w keep,if keep=true then [] else u⟩
def zix (s:List Mes):List Vlu->Mes->List zaC->Bool->List Vlu
 | [],_,_,_=>[]
 | v::l,m,w,keep=>zwZ s v (zv m (fldI m v.Number)) w keep++zix s l m w keep
def zwZ (s:List Mes):Vlu->Fld->List zaC->Bool->List Vlu
 | ⟨n,a,t,sub⟩,f,w,keep=>if zoc w n=false/\zmv w n≠[]/\f.Kind=17/\f.Repeated=false then [⟨n,[],[],zpn s sub f.Of (zmv w n) keep⟩]
  else if zoc w n=keep then [⟨n,a,t,sub⟩] else []
def zpn (s:List Mes):List Msg->Int->List zaC->Bool->List Msg
 | [],_,_,_=>[]
 | x::_,k,w,keep=>[zsr s x k w keep]
end
theorem zwX (s:List Mes) (x:Msg) (k:Int) (w:List zaC) (keep:Bool):zsr s x k w keep=⟨zix s x.Values (zp s k) w keep,if keep=true then [] else x.Unknown⟩:=by cases x;rw [zsr]
theorem zss (s:List Mes) (v:Vlu) (f:Fld) (w:List zaC) (keep:Bool):zwZ s v f w keep=if zoc w v.Number=false/\zmv w v.Number≠[]/\f.Kind=17/\f.Repeated=false then [⟨v.Number,[],[],zpn s v.Subs f.Of (zmv w v.Number) keep⟩]
  else if zoc w v.Number=keep then [v] else []:=by cases v;rw [zwZ]
theorem zHH (s:List Mes) (v:Vlu) (f:Fld) (w:List zaC) (keep:Bool):(zwZ s v f w keep).length<=1:=by
 rw [zss];split;simp;split<;>simp
theorem zEr (hv:zgG s v f) (ho:∀u,o=some u->zgG s u f)
  (ih:∀x∈v.Subs,∀y:Msg,zaG s x f.Of=true->zaG s y f.Of=true->zaG s (zjM s x y f.Of) f.Of=true):zgG s (zgi s v o f) f:=by
 have hm:=zrn hv ho;rw [zhv] at hm|-;cases o with
 | none=>exact hv
 | some u=>
  have hu:=ho u rfl;simp only at hm|-;by_cases hr:f.Repeated=true
  ·rw [xy hr] at hm|-;refine ⟨hm,(fun h=>by rw [hr] at h;cases h),hv.kind,fun w hw=>?_,fun w hw=>?_,fun w hw=>?_⟩
   ·rcases xG.1 hw with hw| hw
    ·exact hu.words w hw
    ·exact hv.words w hw
   ·rcases xG.1 hw with hw| hw
    ·exact hu.texts w hw
    ·exact hv.texts w hw
   ·rcases xG.1 hw with hw| hw
    ·exact hu.subs w hw
    ·exact hv.subs w hw
  ·rw [xx hr] at hm|-;by_cases wR:f.Kind=17
   ·rw [xy wR] at hm|-;obtain ⟨x,hvx,hx⟩:=hv.msg wR (by simpa using hr);obtain ⟨y,huy,hy⟩:=hu.msg wR (by simpa using hr);have hvs:v.Subs=[x]:=by rw [hvx]
    have hus:u.Subs=[y]:=by rw [huy]
    rw [hvs,hus,zkf];refine ⟨by simp [zaM],(fun _=>by simp [zaM]),hv.kind,(fun w hw=>nomatch hw),(fun w hw=>nomatch hw),fun w hw=>?_⟩
    grind
   grind
theorem zut :∀(N:Nat) (b a:Msg) (k:Int),szM b<=N->zaG s a k=true->zaG s b k=true->zaG s (zjM s b a k) k=true
 | 0,b,a,k,h,_,_=>by rw [zch] at h;omega
 | N+1,b,a,k,wZ,ha,hb=>by
  obtain ⟨k0,k1,ra,ha',ua⟩:=zbi ha;obtain ⟨_,_,rb,hb',ub⟩:=zbi hb;obtain ⟨j1,j2⟩:=ztD ha hb;rw [zch] at wZ;refine zzz k0 k1 j1 (fun v hv=>?_) fun u hu=>?_
  ·have hl:=zwF j1 hv;rw [j2] at hl;cases hbl:look b.Values v.Number with
   | none=>
    grind [zey]
   | some w=>
    rw [hbl] at hl;simp only at hl;obtain ⟨wn,wm⟩:=zey hbl;obtain ⟨w0,wf⟩:=hb' w wm;rw [wn] at w0 wf;have hfw:=zdl wf;have s1:=zdZ wm;rw [zeO] at s1;refine ⟨w0,zFG ?_⟩;have hvj:zgi s w (look a.Values v.Number) (zv (zp s k) (fldI (zp s k) v.Number))=v:=qI hl;have:=zEr (o:=look a.Values v.Number) hfw (fun u hu=>by
     obtain ⟨un,um⟩:=zey hu;have:=zdl (ha' u um).2;rw [un] at this;exact this) fun x hx y hxr hyr=>by
      have:=zdY hx;exact zut N x y _ (by omega) hyr hxr
    grind
  grind [zll]
mutual
def encM (s:List Mes):Msg->Int->List UInt8
 | ⟨vs,u⟩,k=>zcA s vs (zp s k)++u.flatten
def zcA (s:List Mes):List Vlu->Mes->List UInt8
 | [],_=>[]
 | v::l,m=>encV s v (zv m (fldI m v.Number))++zcA s l m
def encV (s:List Mes):Vlu->Fld->List UInt8
 | ⟨n,w,t,sub⟩,f=>if kNum f.Kind=true then (if f.Repeated=true then put5 f.Number 2 (w.flatMap (sPut f.Kind)) else put5 f.Number (zau f.Kind) (sPut f.Kind (w.headD 0))) else t.flatMap (put5 f.Number 2)++zgh s sub f
def zgh (s:List Mes):List Msg->Fld->List UInt8
 | [],_=>[]
 | x::l,f=>put5 f.Number 2 (encM s x f.Of)++zgh s l f
end
theorem zkz (s:List Mes) (x:Msg) (k:Int):encM s x k=zcA s x.Values (zp s k)++x.Unknown.flatten:=by cases x;rw [encM]
theorem zhC (s:List Mes) (v:Vlu) (f:Fld):encV s v f=if kNum f.Kind=true then (if f.Repeated=true then put5 f.Number 2 (v.Words.flatMap (sPut f.Kind)) else put5 f.Number (zau f.Kind) (sPut f.Kind (v.Words.headD 0))) else v.Texts.flatMap (put5 f.Number 2)++zgh s v.Subs f:=by cases v;rw [encV]
theorem znv (s:List Mes) (m:Mes):∀(l k:List Vlu),zcA s (l++k) m=zcA s l m++zcA s k m
 | [],k=>by rw [xL,zcA,xL]
 | v::l,k=>by rw [yo,zcA,zcA,znv s m l k,yy]
theorem zrN (s:List Mes) (f:Fld):∀(l k:List Msg),zgh s (l++k) f=zgh s l f++zgh s k f
 | [],k=>by rw [xL,zgh,xL]
 | v::l,k=>by rw [yo,zgh,zgh,zrN s f l k,yy]
theorem zAT {n w:Int} (h1:1<=n) (h2:n<=536870911) (hw:0<=w/\w<=7) {v:List UInt8} (hv:v.length<=1048576):(put5 n w v).length<=15+v.length:=by
 grind [tW,zhD,zLs,zim,zgK]
theorem zCo (k:Int):0<=zau k/\zau k<=7:=by unfold zau;split;omega;split;omega;split<;>omega
theorem zoU {k:Int} (hk:zbJ k=true) {n:Int} (h1:1<=n) (h2:n<=536870911):zbL n (zau k)=true:=by
 grind [zau,zdf]
theorem zrR {k:Int}:∀{l:List Int},(∀w∈l,0<=w/\w<=18446744073709551615)->(l.flatMap (sPut k)).length<=10*l.length
 | [],_=>by simp
 | w::l,h=>by
  have h1:=ziD (k:=k) (h w xz);have h2:=zrR (k:=k) fun x hx=>h x (xA _ hx)
  grind
theorem zwn {n:Int} (h1:1<=n) (h2:n<=536870911):∀{l:List Str},(∀t∈l,t.length<=1048576)->(l.flatMap (put5 n 2)).length<=15*(l.map fun t=>1+t.length).sum
 | [],_=>by simp
 | t::l,h=>by
  have h3:=zAT h1 h2 (w:=2) (by omega) (h t xz);have h4:=zwn h1 h2 fun x hx=>h x (xA _ hx)
  grind
theorem zur:∀(l:List Str),l.flatten.length<=(l.map fun t=>1+t.length).sum
 | []=>by simp
 | t::l=>by
  have:=zur l
  grind
theorem zEl {l:List Int} (h:∀x∈l,0<=x/\x<=18446744073709551615):0<=l.headD 0/\l.headD 0<=18446744073709551615:=by
 cases l with
 | nil=>simp
 | cons x l=>exact h x xz
theorem zmE {s:List Mes} (hs:zcB s):∀(N:Nat),(∀(x:Msg) (k:Int),szM x<=N->bdM x->wgM x<=30000->zaG s x k=true->(encM s x k).length+16<=32*wgM x)/\
  ∀(v:Vlu) (f:Fld),szV v<=N->bdV v->wgV v<=30000->1<=f.Number->f.Number<=536870911->ziS s v f=true->(encV s v f).length<=32*wgV v
 | 0=>⟨fun x k h=>by rw [zch] at h;omega,fun v f h=>by rw [zeO] at h;omega⟩
 | N+1=>by
  obtain ⟨ih1,ih2⟩:=zmE hs N;refine ⟨fun x k wZ hb hw hr=>?_,fun v f wZ hb hw n1 n2 hf=>?_⟩
  ·obtain ⟨_,_,b4⟩:=(zja x).1 hb;rw [zch] at wZ;rw [zjv] at hw|-;obtain ⟨k0,k1,_,hv,_⟩:=zbi hr;rw [zkz];have hmm:zp s k∈s:=by
    obtain ⟨n,rfl⟩:∃n:Nat,k=n:=⟨k.toNat,by omega⟩;rw [zci (by omega)];exact xH _
   generalize zp s k=m at hv hmm|-
   have hall:∀l:List Vlu,(∀v∈l,v∈x.Values)->(zcA s l m).length<=32*wgVs l:=by
    intro l
    induction l with
    | nil=>intro _;simp [zcA,wgVs]
    | cons v l ih=>
     intro hl;have hvm:=hl v xz;have i1:=ih fun w hw=>hl w (xA _ hw)
     have s1:=zdZ hvm;have w1:=zpN hvm;obtain ⟨f0,hfit⟩:=hv v hvm;rcases zcC m v.Number with ⟨hf,_⟩| ⟨j,hj,hf,_⟩
     ·omega
     have hfm:zv m (fldI m v.Number)∈m.Fields:=by rw [hf,zby hj];exact xH hj
     have hfo:=hs.fld _ hmm _ hfm;have:=ih2 v (zv m (fldI m v.Number)) (by omega) (zen.1 b4 v hvm) (by omega) hfo.lo hfo.hi hfit;rw [zcA,wgVs,xD];omega
   grind [zur]
  ·obtain ⟨_,⟨_,bw⟩,_,_,b5⟩:=(zhk v).1 hb;rw [zeO] at wZ;rw [ziM] at hw|-;have hfs:=zdl hf;rw [zhC];by_cases hn:kNum f.Kind=true
   ·grind [zrR,zAT,ziD,zEl,zCo]
   ·rw [xx hn,xD];have hts:∀t∈v.Texts,t.length<=1048576:=fun t ht=>by have:=znW ht;omega
    have h1:=zwn n1 n2 hts;have hall:∀l:List Msg,(∀x∈l,x∈v.Subs)->(zgh s l f).length<=32*wgMs l:=by
     intro l
     induction l with
     | nil=>intro _;simp [zgh,wgMs]
     | cons x l ih=>
      intro hl;have hxm:=hl x xz;have i1:=ih fun w hw=>hl w (xA _ hw)
      have s1:=zdY hxm;have w1:=zkc hxm;have h3:=ih1 x f.Of (by omega) (zeE.1 b5 x hxm) (by omega) (hfs.subs x hxm).2;have h4:=zAT n1 n2 (w:=2) (by omega) (v:=encM s x f.Of) (by omega);rw [zgh,wgMs,xD];omega
    grind
theorem zlf (s:List Mes) (m:Mes):∀(l:List Vlu),zcA s l m=l.flatMap fun v=>encV s v (zv m (fldI m v.Number))
 | []=>by rw [zcA];rfl
 | v::l=>by rw [zcA,zlf s m l,xM]
theorem znu (s:List Mes) (f:Fld):∀(l:List Msg),zgh s l f=l.flatMap fun x=>put5 f.Number 2 (encM s x f.Of)
 | []=>by rw [zgh];rfl
 | v::l=>by rw [zgh,znu s f l,xM]
structure zuk (s:List Mes) (d:Nat) (k:Int) (p:List UInt8) (t:Th):Prop where
 ok:zS s d k p=none
 th:ths (zp s k) p=[t]
theorem pieces {s:List Mes} {d:Nat} {k:Int}:∀{ps:List (List UInt8×Th)},(∀p∈ps,zuk s d k p.1 p.2)->zS s d k (ps.flatMap (·.1))=none/\ths (zp s k) (ps.flatMap (·.1))=ps.map (·.2)
 | [],_=>by
  grind [zoN,zms,zei]
 | p::ps,h=>by
  obtain ⟨h1,h2⟩:=pieces fun q hq=>h q (xA _ hq)
  have hp:=h p xz;rw [xM];refine ⟨(zgZ s d k _ hp.ok).2 h1,?_⟩;rw [zxA hp.ok h1,hp.th,h2];rfl
theorem zqi {s:List Mes} {d:Nat} {k:Int} {n w:Int} {v:List UInt8} (hr:zbL n w=true) (hf:zbT w v=true) (hv:v.length<=1048576) {i:Int} {run:Bool} (hvw:vw (zp s k) n w= .inr (i,run)) (hi:0<=i)
  (hl:∀r:Rec,r.At=((put5 n w v).length - v.length:Nat)->r.From=0->zhn (zv (zp s k) i) run (zDh s d) r v=none):zuk s d k (put5 n w v) ⟨i,run,v,put5 n w v⟩:=by
 have hsp:=zLW hr hf hv;have wS:v.length<=(put5 n w v).length:=by rw [zgK];omega
 have hval:valB (put5 n w v) ⟨n,w,0,(((put5 n w v).length - v.length:Nat):Int),((put5 n w v).length:Int)⟩=v:=by
  unfold valB;simp only [xK];rw [show (put5 n w v).length - ((put5 n w v).length - v.length)=v.length by omega];have e:(put5 n w v).drop ((put5 n w v).length - v.length)=v:=by
   have:put5 n w v=(enc (tW n w)++(if w=2 then enc v.length else []))++v:=rfl;have e2:(put5 n w v).length - v.length=(enc (tW n w)++(if w=2 then enc v.length else [])).length:=by rw [this,xD];omega
   grind
  grind
 have hraw:rawB (put5 n w v) ⟨n,w,0,(((put5 n w v).length - v.length:Nat):Int),((put5 n w v).length:Int)⟩=put5 n w v:=by
  unfold rawB;simp
 have wV:zS s d k (put5 n w v)=none:=by
  grind [zcS,zfm,zct]
 refine ⟨wV,?_⟩;rw [zms wV,hsp,qv];unfold thR;have e:vwG (zp s k) ⟨n,w,0,(((put5 n w v).length - v.length:Nat):Int),((put5 n w v).length:Int)⟩=(i,run):=by unfold vwG;simp only [hvw]
 rw [e,hval,hraw]
theorem zHL {s:List Mes} {d:Nat} {k:Int} {u:List UInt8} (h:unkR (zp s k) u=true):∃t,zuk s d k u t/\t.fi<0/\t.raw=u:=by
 unfold unkR at h;simp only [xB,qK,yc] at h;obtain ⟨⟨h1,h2⟩,h3⟩:=h;unfold zcJ at h1 h2 h3;by_cases hu:(0:Int)<0\/(0:Int)>=u.length
 ·grind
 ·rw [xx hu] at h1 h2 h3;simp only [Int.toNat_zero,ya] at h1 h2 h3;rcases zhG u with ⟨c,hc,hcc⟩| ⟨n,w,kk,a,t,hc,_,hr,_,g1,g2,g3,g4,g5,_⟩
  ·grind
  ·rw [hc] at h2 h3;simp only at h2 h3;have ht:t=u.length:=by omega
   have w9:u≠[]:=fun e=>by subst e;simp at hu
   have hsp:spl 0 u=([⟨n,w,((0:Nat):Int),((0+a:Nat):Int),((0+t:Nat):Int)⟩],none):=by
    rw [zcO w9 hc,ht,pw,zei]
   have hvw:vw (zp s k) n w= .inr (-1,false):=by
    unfold vw;rw [xy h3]
   have wV:zS s d k u=none:=by
    grind [zcS,zfm,zct]
   refine ⟨thR (zp s k) u ⟨n,w,((0:Nat):Int),((0+a:Nat):Int),((0+t:Nat):Int)⟩,⟨wV,by rw [zms wV,hsp,qv]⟩,?_,?_⟩
   ·unfold thR vwG;simp only [hvw];omega
   ·unfold thR rawB;simp only [ht];simp
def pcsV (s:List Mes) (f:Fld) (i:Int) (v:Vlu):List (List UInt8×Th):=
 if kNum f.Kind=true then (if f.Repeated=true then [(put5 f.Number 2 (v.Words.flatMap (sPut f.Kind)),⟨i,true,v.Words.flatMap (sPut f.Kind),put5 f.Number 2 (v.Words.flatMap (sPut f.Kind))⟩)]
  else [(put5 f.Number (zau f.Kind) (sPut f.Kind (v.Words.headD 0)),⟨i,false,sPut f.Kind (v.Words.headD 0),put5 f.Number (zau f.Kind) (sPut f.Kind (v.Words.headD 0))⟩)])
 else v.Texts.map (fun t=>(put5 f.Number 2 t,⟨i,false,t,put5 f.Number 2 t⟩))++v.Subs.map (fun x=>(put5 f.Number 2 (encM s x f.Of),⟨i,false,encM s x f.Of,put5 f.Number 2 (encM s x f.Of)⟩))
theorem zJQ (s:List Mes) (f:Fld) (i:Int) (v:Vlu):(pcsV s f i v).flatMap (·.1)=encV s v f:=by
 unfold pcsV;rw [zhC];split
 ·split<;>simp
 ·rw [yH,znu,qw,qw]
theorem zAQ (s:List Mes) (f:Fld) (i:Int) (v:Vlu):∀p∈pcsV s f i v,p.2.fi=i:=by
 grind [pcsV]
theorem zqj {f:Fld} {w:Int} (h:ziN f w=true) (hr:0<=w/\w<=18446744073709551615):kNum f.Kind=true/\zev f.Kind (sPut f.Kind w)=w/\(zna f.Kind (sPut f.Kind w)).1=w/\zbT (zau f.Kind) (sPut f.Kind w)=true:=by
 unfold ziN at h;simp only [xB,qK] at h;obtain ⟨h1,h2⟩:=h;have hc:=zgf f.Kind hr;have hfit:zbT (zau f.Kind) (sPut f.Kind w)=true:=zpv h1 (by omega)
 grind [zEW,zjR]
theorem zFm {f:Fld} (hk:kNum f.Kind=true) {l:List Int} (h:∀w∈l,ziN f w=true) (hr:∀w∈l,0<=w/\w<=18446744073709551615):zas f.Kind (l.flatMap (sPut f.Kind))=(l,0):=by
 unfold zas;rw [xx (by rw [hk];simp),zst hk l hr,xy rfl,yL];have e:l.map (zev f.Kind∘sPut f.Kind)=l:=by
  have:l.map (zev f.Kind∘sPut f.Kind)=l.map id:=y6 fun w hw=>(zqj (h w hw) (hr w hw)).2.1
  simp_all
 rw [e]
theorem zoO (v:List UInt8):zbT 2 v=true:=by unfold zbT;rw [xx (by omega)];simp
theorem zLL {s:List Mes} {d:Nat} {k:Int} {f:Fld} {i:Int} {v:Vlu} (hi:0<=i) (hf:zv (zp s k) i=f) (hn:fldI (zp s k) f.Number=i) (n1:1<=f.Number) (n2:f.Number<=536870911) (hfs:zgG s v f)
  (hw:∀w∈v.Words,0<=w/\w<=18446744073709551615) (hwl:v.Words.length<=30000) (ht:∀t∈v.Texts,t.length<=1048576)
  (hx:∀x∈v.Subs,(encM s x f.Of).length<=1048576/\∃e,d=e+1/\zS s e f.Of (encM s x f.Of)=none):∀p∈pcsV s f i v,zuk s d k p.1 p.2:=by
 intro p hp;have t2:zbL f.Number 2=true:=zdf.2 ⟨n1,n2,.inr (.inr (.inl rfl))⟩;unfold pcsV at hp;by_cases hk:kNum f.Kind=true
 ·rw [xy hk] at hp;by_cases hr:f.Repeated=true
  ·rw [xy hr] at hp;rw [yl.1 hp];have hvw:vw (zp s k) f.Number 2= .inr (i,true):=by
    unfold vw
    grind
   have h1:=zrR (k:=f.Kind) hw;refine zqi t2 (zoO _) (by omega) hvw hi fun r _ _=>?_
   unfold zhn
   grind [zof,zst]
  ·rw [xx hr] at hp;rw [yl.1 hp];have hone:=hfs.one (by simpa using hr);have hnt:=hfs.noTexts (by have:=zfY hk;omega);have hns:=hfs.noSubs (zfY hk).1;unfold zaM at hone;rw [hnt,hns] at hone;simp only [yB,yD] at hone;obtain ⟨w,hwd⟩:∃w,v.Words=[w]:=q7.1 hone;have hwr:=hw w (by rw [hwd];exact xz);have hc:=zqj (hfs.words w (by rw [hwd];exact xz)) hwr;rw [hwd];show zuk s d k (put5 f.Number (zau f.Kind) (sPut f.Kind w)) ⟨i,false,sPut f.Kind w,put5 f.Number (zau f.Kind) (sPut f.Kind w)⟩;have hvw:vw (zp s k) f.Number (zau f.Kind)= .inr (i,false):=by
    unfold vw;rw [hn,xx (by omega),hf,xx (fun hh=>hr hh.1),xx (fun hh=>by rw [hfs.kind] at hh;rcases hh with hh| hh;cases hh;exact hh rfl)]
   have h1:=ziD (k:=f.Kind) hwr;refine zqi (zoU hfs.kind n1 n2) hc.2.2.2 (by omega) hvw hi fun r _ _=>?_
   unfold zhn
   grind [zfY]
 ·rw [xx hk] at hp;have hkk:zau f.Kind=2:=by
   have h1:¬(1<=f.Kind/\f.Kind<=14):=fun hh=>hk (zdS.2 hh)
   have h2:1<=f.Kind/\f.Kind<=17:=by simpa [zbJ] using hfs.kind
   unfold zau;rw [xy (by omega)]
  have hvw:vw (zp s k) f.Number 2= .inr (i,false):=by
   unfold vw;rw [hn,xx (by omega),hf,xx (fun hh=>hk hh.2.1),xx (fun hh=>by rw [hfs.kind,hkk] at hh;rcases hh with hh| hh;cases hh;exact hh rfl)]
  rcases xG.1 hp with hp| hp
  ·obtain ⟨t,htm,rfl⟩:=xF.1 hp;refine zqi t2 (zoO _) (ht t htm) hvw hi fun r _ _=>?_
   have htr:=hfs.texts t htm;unfold zkr at htr;unfold zhn
   grind
  ·obtain ⟨x,hxm,rfl⟩:=xF.1 hp;obtain ⟨x1,e,he,hv⟩:=hx x hxm;have wR:=(hfs.subs x hxm).1;refine zqi t2 (zoO _) x1 hvw hi fun r _ _=>?_
   unfold zhn;rw [xx (by simp),hf,xx (fun hh=>by rw [wR] at hh;cases hh.1),xy wR,he];simp only [zDh,hv]
theorem zpR {g:Int->List UInt8->Msg} {f:Fld} {i:Int}:∀{l:List Th} {a:zcu},(∀t∈l,t.fi≠i)->accF g f i a l=a
 | [],a,_=>rfl
 | t::l,a,h=>by
  rw [accF,xx (h t xz),zpR fun x hx=>h x (xA _ hx)]
theorem zvR {g:Int->List UInt8->Msg} {f:Fld} {i:Int} (hr:f.Repeated=true) (hk:kNum f.Kind=false) (wR:f.Kind≠17) {raw:Str->List UInt8}:∀(ts:List Str) (a:zcu),∃b,accF g f i a (ts.map fun t=>⟨i,false,t,raw t⟩)=(a.1,b,a.2.2.1,a.2.2.2.1++ts,a.2.2.2.2)
 | [],a=>⟨a.2.1,by simp [accF]⟩
 | t::ts,a=>by
  obtain ⟨b,hb⟩:=zvR (raw:=raw) hr hk wR ts (stp g f a ⟨i,false,t,raw t⟩);refine ⟨b,?_⟩;rw [xQ,accF,xy rfl,hb];unfold stp
  grind
theorem zyx {g:Int->List UInt8->Msg} {f:Fld} {i:Int} (hr:f.Repeated=true) (wR:f.Kind=17) {e:Msg->List UInt8} {raw:Msg->List UInt8}:∀(xs:List Msg) (a:zcu),(∀x∈xs,g f.Of (e x)=x)->∃b,accF g f i a (xs.map fun x=>⟨i,false,e x,raw x⟩)=(a.1,b,a.2.2.1,a.2.2.2.1,a.2.2.2.2++xs)
 | [],a,_=>⟨a.2.1,by simp [accF]⟩
 | x::xs,a,h=>by
  obtain ⟨b,hb⟩:=zyx (raw:=raw) hr wR xs (stp g f a ⟨i,false,e x,raw x⟩) fun y hy=>h y (xA _ hy)
  refine ⟨b,?_⟩;have hk:kNum 17=false:=rfl;rw [xQ,accF,xy rfl,hb];unfold stp
  grind
theorem zIr {s:List Mes} {g:Int->List UInt8->Msg} {f:Fld} {i:Int} {v:Vlu} (hfs:zgG s v f) (hn:v.Number=f.Number) (hw:∀w∈v.Words,0<=w/\w<=18446744073709551615) (hg:∀x∈v.Subs,g f.Of (encM s x f.Of)=x):
  valO g f (accF g f i acc0 ((pcsV s f i v).map (·.2)))=v:=by
 unfold pcsV;by_cases hk:kNum f.Kind=true
 ·rw [xy hk];have hnt:=hfs.noTexts (by have:=zfY hk;omega);have hns:=hfs.noSubs (zfY hk).1;have wR:=(zfY hk).1;by_cases hr:f.Repeated=true
  ·rw [xy hr,qv,accF,accF,xy rfl];unfold stp;simp only [yr,hr];rw [zFm hk hfs.words hw];unfold valO acc0;simp only [xL];rw [xx (fun hh=>wR hh.2.1),<-hn];obtain ⟨n,w,t,sub⟩:=v
   grind
  ·rw [xx hr,qv,accF,accF,xy rfl];have hone:=hfs.one (by simpa using hr);unfold zaM at hone;rw [hnt,hns] at hone;simp only [yB,yD] at hone;obtain ⟨w,hwd⟩:∃w,v.Words=[w]:=q7.1 hone;have hc:=zqj (hfs.words w (by rw [hwd];exact xz)) (hw w (by rw [hwd];exact xz));unfold stp;rw [xx (by simp),xy hk,xx hr,xx hr,hwd];unfold valO acc0;simp only [xL,pn];rw [xx (fun hh=>wR hh.2.1),hc.2.2.1,<-hn];obtain ⟨n,w',t,sub⟩:=v
   grind
 ·have hk':kNum f.Kind=false:=by simpa using hk
  rw [xx hk];have hnw:=hfs.noWords hk';by_cases wR:f.Kind=17
  ·have hnt:=hfs.noTexts (by omega);rw [hnt,yQ,xL,yL];by_cases hr:f.Repeated=true
   ·obtain ⟨b,hb⟩:=zyx (g:=g) (i:=i) (e:=fun x=>encM s x f.Of) (raw:=fun x=>put5 f.Number 2 (encM s x f.Of)) hr wR v.Subs acc0 hg;have hb':accF g f i acc0 (List.map ((fun x:List UInt8×Th=>x.2)∘fun x=>(put5 f.Number 2 (encM s x f.Of),(⟨i,false,encM s x f.Of,put5 f.Number 2 (encM s x f.Of)⟩:Th))) v.Subs)=_:=hb;rw [hb'];unfold valO acc0;simp only [xL];rw [xx (fun hh=>by rw [hr] at hh;cases hh.2.2),<-hn];obtain ⟨n,w,t,sub⟩:=v
    grind
   ·have hr':f.Repeated=false:=by simpa using hr
    obtain ⟨x,hv,hx⟩:=hfs.msg wR hr';have hsub:v.Subs=[x]:=by rw [hv]
    have hgx:=hg x (by rw [hsub];exact xz);have e17:kNum 17=false:=rfl;rw [hsub,qv];show valO g f (accF g f i acc0 [⟨i,false,encM s x f.Of,put5 f.Number 2 (encM s x f.Of)⟩])=v;rw [accF,accF,xy rfl];unfold stp valO acc0
    grind
  ·have hns:=hfs.noSubs wR;rw [hns,yQ,xW,yL];by_cases hr:f.Repeated=true
   ·obtain ⟨b,hb⟩:=zvR (g:=g) (i:=i) (raw:=fun t=>put5 f.Number 2 t) hr hk' wR v.Texts acc0;have hb':accF g f i acc0 (List.map ((fun x:List UInt8×Th=>x.2)∘fun t=>(put5 f.Number 2 t,(⟨i,false,t,put5 f.Number 2 t⟩:Th))) v.Texts)=_:=hb;rw [hb'];unfold valO acc0;simp only [xL];rw [xx (fun hh=>wR hh.2.1),<-hn];obtain ⟨n,w,t,sub⟩:=v
    grind
   ·have hr':f.Repeated=false:=by simpa using hr
    have hone:=hfs.one hr';unfold zaM at hone;rw [hnw,hns] at hone;simp only [yB,yD,xR] at hone;obtain ⟨t,htd⟩:∃t,v.Texts=[t]:=q7.1 hone;rw [htd,qv];show valO g f (accF g f i acc0 [⟨i,false,t,put5 f.Number 2 t⟩])=v;rw [accF,accF,xy rfl];unfold stp valO acc0;simp [wR,hk',hr'];obtain ⟨n,w,t',sub⟩:=v
    grind
theorem zxG {s:List Mes} {d:Nat} {k:Int}:∀{us:List Str},(∀u∈us,unkR (zp s k) u=true)->∃ps:List (List UInt8×Th),(∀p∈ps,zuk s d k p.1 p.2/\p.2.fi<0/\p.2.raw=p.1)/\ps.map (·.1)=us
 | [],_=>⟨[],(fun p hp=>nomatch hp),rfl⟩
 | u::us,h=>by
  obtain ⟨t,h1,h2,h3⟩:=zHL (d:=d) (h u xz);obtain ⟨ps,h4,h5⟩:=zxG (d:=d) fun x hx=>h x (xA _ hx)
  refine ⟨(u,t)::ps,fun p hp=>?_,by rw [xQ,h5]⟩
  grind
theorem zBV {m:Mes} {a b:Int} (ha:0<=fldI m a) (h:fldI m a=fldI m b):a=b:=by
 grind [zcC]
theorem zyz {s:List Mes} {g:Int->List UInt8->Msg} {m:Mes} {n:Int} (hj:0<=fldI m n):∀{l:List Vlu},zdH l->(∀v∈l,0<=fldI m v.Number)->
  accF g (zv m (fldI m n)) (fldI m n) acc0 ((l.flatMap fun v=>pcsV s (zv m (fldI m v.Number)) (fldI m v.Number) v).map (·.2))=match look l n with
   | some v=>accF g (zv m (fldI m n)) (fldI m n) acc0 ((pcsV s (zv m (fldI m n)) (fldI m n) v).map (·.2))
   | none=>acc0
 | [],_,_=>rfl
 | v::l,hr,hp=>by
  obtain ⟨r1,r2⟩:=yg.1 hr;rw [xM,yN,zlP,zcI];by_cases hv:v.Number=n
  ·rw [xy hv,hv];refine zpR fun t ht=>?_
   obtain ⟨p,hp',rfl⟩:=xF.1 ht
   grind [zAQ,zBV]
  ·rw [xx hv];have:accF g (zv m (fldI m n)) (fldI m n) acc0 ((pcsV s (zv m (fldI m v.Number)) (fldI m v.Number) v).map (·.2))=acc0:=by
    refine zpR fun t ht=>?_
    obtain ⟨p,hp',rfl⟩:=xF.1 ht
    grind [zAQ,zBV]
   rw [this];exact zyz hj r2 fun u hu=>hp u (xA _ hu)
theorem zuo {s:List Mes} (hs:zcB s):∀(N:Nat) (x:Msg) (k:Int) (d:Nat),szM x<=N->bdM x->wgM x<=30000->zaG s x k=true->dM x<=d->zS s d k (encM s x k)=none/\ofM s k (encM s x k)=x
 | 0,x,k,d,h,_,_,_,_=>by rw [zch] at h;omega
 | N+1,x,k,d,wZ,hb,hw,hr,hd=>by
  obtain ⟨b1,⟨b2,_⟩,b4⟩:=(zja x).1 hb;have hsz':=wZ;rw [zch] at hsz';have hw':=hw;rw [zjv] at hw';rw [zFy] at hd;obtain ⟨k0,k1,hrise,hv,hu⟩:=zbi hr;obtain ⟨n0,rfl⟩:∃n:Nat,k=n:=⟨k.toNat,by omega⟩;have hn0:n0<s.length:=by omega
  have hmm:zp s (n0:Int)∈s:=by rw [zci hn0];exact xH hn0
  obtain ⟨ups,hup,hue⟩:=zxG (d:=d) hu
  -- what is kc of each value
  have hval:∀v∈x.Values,(∀p∈pcsV s (zv (zp s (n0:Int)) (fldI (zp s (n0:Int)) v.Number)) (fldI (zp s (n0:Int)) v.Number) v,zuk s d n0 p.1 p.2)/\
    (∀y∈v.Subs,ofM s (zv (zp s (n0:Int)) (fldI (zp s (n0:Int)) v.Number)).Of (encM s y (zv (zp s (n0:Int)) (fldI (zp s (n0:Int)) v.Number)).Of)=y):=fun v hvm=>by
   obtain ⟨f0,hfit⟩:=hv v hvm;have hfs:=zdl hfit;have hbv:=zen.1 b4 v hvm;obtain ⟨_,⟨_,bw⟩,_,_,b5⟩:=(zhk v).1 hbv;have s1:=zdZ hvm;have w1:=zpN hvm;have d1:=zvf hvm;rw [zeO] at s1;rw [ziM] at w1;rw [zBN] at d1;rcases zcC (zp s (n0:Int)) v.Number with ⟨hf,_⟩| ⟨j,hj,hf,hjn,_⟩
   ·omega
   have hfm:zv (zp s (n0:Int)) (fldI (zp s (n0:Int)) v.Number)∈(zp s (n0:Int)).Fields:=by rw [hf,zby hj];exact xH hj
   have hfo:=hs.fld _ hmm _ hfm;have hnum:(zv (zp s (n0:Int)) (fldI (zp s (n0:Int)) v.Number)).Number=v.Number:=by rw [hf,zby hj];exact hjn
   have hsub:∀y∈v.Subs,(encM s y (zv (zp s (n0:Int)) (fldI (zp s (n0:Int)) v.Number)).Of).length<=1048576/\(∃e,d=e+1/\zS s e (zv (zp s (n0:Int)) (fldI (zp s (n0:Int)) v.Number)).Of (encM s y (zv (zp s (n0:Int)) (fldI (zp s (n0:Int)) v.Number)).Of)=none)/\
     ofM s (zv (zp s (n0:Int)) (fldI (zp s (n0:Int)) v.Number)).Of (encM s y (zv (zp s (n0:Int)) (fldI (zp s (n0:Int)) v.Number)).Of)=y:=fun y hy=>by
    have s2:=zdY hy;have w2:=zkc hy;have d2:=zAq hy;have hyr:=(hfs.subs y hy).2;have hby:=zeE.1 b5 y hy;have hle:=(zmE hs (szM y)).1 y _ (xE _) hby (by omega) hyr;obtain ⟨c1,c2⟩:=zuo hs N y _ (d - 1) (by omega) hby (by omega) hyr (by omega);exact ⟨by omega,⟨d - 1,by omega,c1⟩,c2⟩
   refine ⟨zLL f0 rfl (by rw [hnum]) hfo.lo hfo.hi hfs bw (by omega) (fun t ht=>by have:=znW ht;omega) (fun y hy=>⟨(hsub y hy).1,(hsub y hy).2.1⟩),fun y hy=>(hsub y hy).2.2⟩
  have hall:∀p∈(x.Values.flatMap fun v=>pcsV s (zv (zp s (n0:Int)) (fldI (zp s (n0:Int)) v.Number)) (fldI (zp s (n0:Int)) v.Number) v)++ups,zuk s d n0 p.1 p.2:=fun p hp=>by
   grind
  obtain ⟨p1,p2⟩:=pieces hall;have henc:((x.Values.flatMap fun v=>pcsV s (zv (zp s (n0:Int)) (fldI (zp s (n0:Int)) v.Number)) (fldI (zp s (n0:Int)) v.Number) v)++ups).flatMap (·.1)=encM s x n0:=by
   rw [zkz,zlf,yH,List.flatMap_assoc]
   grind [zJQ]
  rw [henc] at p1 p2;refine ⟨p1,?_⟩;have hmr:=(zgr hs _ (encM s x n0) d n0 rfl hn0 p1).1;obtain ⟨_,_,hrise2,_,_⟩:=zbi hmr;have hvals:(ofM s n0 (encM s x n0)).Values=x.Values:=by
   refine zwE hrise2 hrise fun n=>?_
   rw [ziu] at hrise2|-;rw [zqd hs hmm hrise2,p2];by_cases hj:0<=fldI (zp s (n0:Int)) n
   ·have ha:=zyz (s:=s) (g:=ofM s) hj hrise fun v hvm=>(hv v hvm).1
    have hskip:accF (ofM s) (zv (zp s (n0:Int)) (fldI (zp s (n0:Int)) n)) (fldI (zp s (n0:Int)) n) acc0 (((x.Values.flatMap fun v=>pcsV s (zv (zp s (n0:Int)) (fldI (zp s (n0:Int)) v.Number)) (fldI (zp s (n0:Int)) v.Number) v)++ups).map (·.2))=accF (ofM s) (zv (zp s (n0:Int)) (fldI (zp s (n0:Int)) n)) (fldI (zp s (n0:Int)) n) acc0 ((x.Values.flatMap fun v=>pcsV s (zv (zp s (n0:Int)) (fldI (zp s (n0:Int)) v.Number)) (fldI (zp s (n0:Int)) v.Number) v).map (·.2)):=by
     grind [zlP,zpR]
    unfold zxH;rw [hskip,ha];cases hlk:look x.Values n with
    | none=>
     grind [zaM,valO,acc0]
    | some v=>
     obtain ⟨hvn,hvm⟩:=zey hlk;have hfit:=zdl (hv v hvm).2;have hsub:=(hval v hvm).2;rw [hvn] at hfit hsub;have hbv:=zen.1 b4 v hvm;obtain ⟨_,⟨_,bw⟩,_,_,_⟩:=(zhk v).1 hbv;have hnum:v.Number=(zv (zp s (n0:Int)) (fldI (zp s (n0:Int)) n)).Number:=by
      grind [zcC,zby]
     simp only;rw [zIr hfit hnum bw hsub,xy ⟨hj,hfit.many⟩]
   ·rw [xx (fun hh=>hj hh.1)];cases hlk:look x.Values n with
    | none=>rfl
    | some v=>
     obtain ⟨hvn,hvm⟩:=zey hlk
     grind
  have hunk:(ofM s n0 (encM s x n0)).Unknown=x.Unknown:=by
   rw [ziu,p2];unfold zds unkO;simp only;rw [yN,uu,yN];have e1:((x.Values.flatMap fun v=>pcsV s (zv (zp s (n0:Int)) (fldI (zp s (n0:Int)) v.Number)) (fldI (zp s (n0:Int)) v.Number) v).map (·.2)).filter (fun t=>decide (t.fi<0))=[]:=by
    rw [List.filter_eq_nil_iff];intro t ht;obtain ⟨p,hp,rfl⟩:=xF.1 ht
    grind [zAQ]
   have e2:(ups.map (·.2)).filter (fun t=>decide (t.fi<0))=ups.map (·.2):=by
    rw [List.filter_eq_self]
    grind
   rw [e1,e2,yQ,xL,yL,<-hue];exact y6 fun p hp=>(hup p hp).2.2
  generalize ofM s n0 (encM s x n0)=y at hvals hunk
  cases x;cases y
  grind
theorem zOa {m:Mes} {e:Option (Nat×Int)} (b:List UInt8):∀(base:Nat) (l:List UInt8),l=b.drop base->base<=b.length->(((vws m e (spl base l).1).1.map (thOf b)).map fun t=>t.raw.length).sum<=l.length:=by
 intro base l;refine zhd (fun base l=>l=b.drop base->base<=b.length->(((vws m e (spl base l).1).1.map (thOf b)).map fun t=>t.raw.length).sum<=l.length) ?_ ?_ ?_ base l
 ·intro base _ _;rw [zei];simp [vws]
 ·intro base l c hl h _ _ _;rw [zgb hl h];simp [vws]
 ·intro base l n w a t hl h _ g1 g2 g3 ih hld hbase;have wS:l.length=b.length - base:=by rw [hld];simp
  have ih':=ih (by rw [hld,yA]) (by omega);rw [zcO hl h,vws];cases hv:vw m n w with
  | inl c=>simp
  | inr p=>
   simp only [xQ,y7,thOf,yi] at ih'|-
   grind [rawB]
theorem zNW (m:Mes) (b:List UInt8):((ths m b).map fun t=>t.raw.length).sum<=b.length:=by
 grind [ths,zaZ,vwR,sb,wrap_i64,zOa]
theorem zLZ (m:Mes) (b:List UInt8):∀t∈ths m b,t.val.length+1<=t.raw.length:=by
 intro t ht;unfold ths at ht;obtain ⟨r,hr,rfl⟩:=xF.1 ht;obtain ⟨h1,h2,h3,h4⟩:=zBx hr;show (valB b r.R).length+1<=(rawB b r.R).length;unfold valB rawB;simp;omega
def ri (i:Int):List Th->Nat
 | []=>0
 | t::l=>(if t.fi=i then 2*t.raw.length else 0)+ri i l
def ru:List Th->Nat
 | []=>0
 | t::l=>(if t.fi<0 then 2*t.raw.length else 0)+ru l
theorem zGI (x:Int) (y:Nat):∀(o:List Int),o.Nodup->(o.map fun i=>if x=i then y else 0).sum<=y/\(x∉o->(o.map fun i=>if x=i then y else 0).sum=0)
 | [],_=>by simp
 | i::o,h=>by
  obtain ⟨h1,h2⟩:=pL.1 h;obtain ⟨i1,i2⟩:=zGI x y o h2
  grind
theorem zGH (f g:Int->Nat):∀(o:List Int),(o.map fun i=>f i+g i).sum=(o.map f).sum+(o.map g).sum
 | []=>rfl
 | i::o=>by simp only [xQ,y7,zGH f g o];omega
theorem zKa {o:List Int} (hd:o.Nodup) (h0:∀i∈o,0<=i):∀(l:List Th),(o.map fun i=>ri i l).sum+ru l<=2*(l.map fun t=>t.raw.length).sum
 | []=>by
  have:(o.map fun _=>(0:Nat)).sum=0:=by
   clear hd h0
   induction o with
   | nil=>rfl
   | cons i o ih=>rw [xQ,y7,ih]
  have e:(o.map fun i=>ri i [])=o.map fun _=>(0:Nat):=y6 fun i _=>rfl
  rw [e,this];simp [ru]
 | t::l=>by
  have ih:=zKa hd h0 l;have e:(o.map fun i=>ri i (t::l))=o.map fun i=>(if t.fi=i then 2*t.raw.length else 0)+ri i l:=rfl
  obtain ⟨s1,s2⟩:=zGI t.fi (2*t.raw.length) o hd;rw [e,zGH,ru,xQ,y7]
  grind
theorem zuM:∀(a b:List Msg),wgMs (a++b)=wgMs a+wgMs b
 | [],b=>by simp [wgMs]
 | x::a,b=>by rw [yo,wgMs,wgMs,zuM a b];omega
def wv (a:zcu):Nat:=a.2.2.1.length+(a.2.2.2.1.map fun t=>1+t.length).sum+wgMs a.2.2.2.2+2*a.1.length
theorem zNO {g:Int->List UInt8->Msg} {f:Fld} {t:Th} (hg:f.Kind=17->wgM (g f.Of t.val)<=2*t.val.length+1) {c:Nat} (hc:c<=1\/c=2/\f.Kind=17/\f.Repeated=false) (a:zcu):wv (stp g f a t)+c<=wv a+(2*t.val.length+2):=by
 have h1:(if f.Repeated=true then a.2.2.1 else []).length<=a.2.2.1.length:=by split<;>simp
 have h2:((if f.Repeated=true then a.2.2.2.1 else []).map fun t=>1+t.length).sum<=(a.2.2.2.1.map fun t=>1+t.length).sum:=by split<;>simp
 have h3:=zui f.Kind t.val;have h4:kNum f.Kind=false->(zas f.Kind t.val).1=[]:=fun h=>by unfold zas;rw [xy h]
 unfold stp wv;by_cases c1:t.run=true
 ·grind
 ·rw [xx c1];by_cases c2:kNum f.Kind=true
  ·grind [zfY]
  ·rw [xx c2];by_cases c3:f.Kind=17/\f.Repeated=true
   ·rw [xy c3];have:=hg c3.1;rcases hc with hc| ⟨_,_,hr⟩
    ·simp only [zuM,wgMs];omega
    grind
   grind
theorem zzX {g:Int->List UInt8->Msg} {f:Fld} {i:Int} {c:Nat} (hc:c<=1\/c=2/\f.Kind=17/\f.Repeated=false):∀(l:List Th) (a:zcu),(∀t∈l,t.val.length+1<=t.raw.length)->(f.Kind=17->∀t∈l,wgM (g f.Of t.val)<=2*t.val.length+1)->
  wv (accF g f i a l)+(if (accF g f i a l).2.1=true then c else 0)<=wv a+(if a.2.1=true then c else 0)+ri i l
 | [],a,_,_=>by simp only [accF,ri,yD];exact xE _
 | t::l,a,h1,h2=>by
  rw [accF,ri];have ih:=zzX (g:=g) (i:=i) hc l (if t.fi=i then stp g f a t else a) (fun x hx=>h1 x (xA _ hx)) fun h x hx=>h2 h x (xA _ hx)
  have ht:=h1 t xz;by_cases hi:t.fi=i
  ·rw [xy hi] at ih|-;rw [xy hi];have hs:=zNO (g:=g) (f:=f) (t:=t) (fun h=>h2 h t xz) hc a
   grind
  grind
theorem zMe {g:Int->List UInt8->Msg} {f:Fld} {i:Int} {l:List Th} (h1:∀t∈l,t.val.length+1<=t.raw.length) (h2:f.Kind=17->∀t∈l,wgM (g f.Of t.val)<=2*t.val.length+1)
  (hj:f.Kind=17->wgM (g f.Of (accF g f i acc0 l).1)<=2*(accF g f i acc0 l).1.length+1) (hm:0<zaM (valO g f (accF g f i acc0 l))):wgV (valO g f (accF g f i acc0 l))<=ri i l:=by
 have hmet:(accF g f i acc0 l).2.1=true:=by
  cases h:(accF g f i acc0 l).2.1 with
  | true=>rfl
  | false=>
   grind [zaM,valO,acc0,zoD]
 have w0:wv acc0=0:=rfl;have m0:acc0.2.1=false:=rfl;have k1:=zzX (g:=g) (f:=f) (i:=i) (c:=1) (.inl (xE _)) l acc0 h1 h2;rw [w0,m0,hmet] at k1;simp only [yr,qg,yC] at k1;rw [ziM];by_cases hc:f.Kind=17/\f.Repeated=false
 ·have k2:=zzX (g:=g) (f:=f) (i:=i) (c:=2) (.inr ⟨rfl,hc⟩) l acc0 h1 h2;rw [w0,m0,hmet] at k2;simp only [yr,qg,yC] at k2;have hjj:=hj hc.1
  generalize accF g f i acc0 l=q at hmet k2 hjj
  unfold valO;rw [xy ⟨hmet,hc⟩];unfold wv at k2;simp only [wgMs];omega
 ·grind [valO,wv]
theorem zKd:∀(l:List Th),(∀t∈l,t.val.length+1<=t.raw.length)->((unkO l).map fun t=>1+t.length).sum<=ru l
 | [],_=>by simp [unkO,ru]
 | t::l,h=>by
  have ih:=zKd l fun x hx=>h x (xA _ hx)
  have ht:=h t xz;unfold unkO at ih|-;rw [yI,ru]
  grind
theorem zNy (s:List Mes):∀(N:Nat) (b:List UInt8) (k:Int),b.length=N->wgM (ofM s k b)<=2*b.length+1:=by
 intro N
 induction N using Nat.strongRecOn with
 | _ N IH=>
  intro b k hN;have hwt:=znY (zp s k) b;have hwr:=zNW (zp s k) b;have hraw:=zLZ (zp s k) b;rw [ziu]
  generalize ths (zp s k) b=l at hwt hwr hraw
  generalize zp s k=m
  have hg:∀(f:Fld) (v:List UInt8),v.length+1<=b.length->wgM (ofM s f.Of v)<=2*v.length+1:=fun f v hv=>IH v.length (by omega) v f.Of rfl
  have hval:∀i,0<zaM (valO (ofM s) (zv m i) (accF (ofM s) (zv m i) i acc0 l))->wgV (valO (ofM s) (zv m i) (accF (ofM s) (zv m i) i acc0 l))<=ri i l:=fun i hp=>by
   refine zMe hraw (fun _ t ht=>hg _ _ (by have:=zpQ ht;omega)) (fun _=>?_) hp;have hw:=(zrc (ofM s) (zv m i) i acc0 l).2;have j0:wJ acc0=0:=rfl;rw [j0] at hw;cases hm:(accF (ofM s) (zv m i) i acc0 l).2.1 with
   | true=>
    rw [wJ,xy hm] at hw
    grind
   | false=>
    grind [zaM,valO,acc0,zoD]
  have hsum:∀o:List Int,wgVs ((o.map fun i=>valO (ofM s) (zv m i) (accF (ofM s) (zv m i) i acc0 l)).filter fun v=>decide (0<zaM v))<=(o.map fun i=>ri i l).sum:=by
   intro o
   induction o with
   | nil=>simp [wgVs]
   | cons i o ih=>
    rw [xQ,yI,xQ,y7];by_cases hp:0<zaM (valO (ofM s) (zv m i) (accF (ofM s) (zv m i) i acc0 l))
    ·rw [xy (by simpa using hp),wgVs]
     grind
    grind
  have h1:=hsum (zeN (zeV m) m.Fields.length);have hnd:(zeN (zeV m) m.Fields.length).Nodup:=(znV (zeV m) m.Fields.length).imp fun {a b} h e=>by
   rw [e] at h;exact zAd h h
  have h2:=zKa hnd (fun i hi=>(zdm.1 hi).1) l
  grind [zds,zpK,zKd,zjv]
theorem zjj:∀(y x:Nat),x<=y->lenN x<=lenN y:=by
 intro y
 induction y using Nat.strongRecOn with
 | _ y ih=>
  intro x h;by_cases hy:y<128
  ·grind [zdA]
  ·rw [zdd hy];by_cases hx:x<128
   ·rw [zdA hx];have:=zmM (y/128);omega
   ·rw [zdd hx];have:=ih (y/128) (by omega) (x/128) (by omega);omega
theorem zty:∀(x:Nat),lenN (x+1)<=lenN x+1:=by
 intro x
 induction x using Nat.strongRecOn with
 | _ x ih=>
  by_cases h:x+1<128
  ·rw [zdA h];omega
  ·rw [zdd h];by_cases hx:x<128
   ·rw [zdA hx,zdA (by omega)];omega
   ·rw [zdd hx];have h1:=zjj (x/128+1) ((x+1)/128) (by omega)
    grind
theorem zJt:∀(n x y:Nat),x+y=n->lenN (x+y)<=lenN x+lenN y:=by
 intro n
 induction n using Nat.strongRecOn with
 | _ n ih=>
  intro x y hn;have px:=zmM x;have py:=zmM y;by_cases h:x+y<128
  ·rw [zdA h];omega
  ·rw [zdd h];by_cases hx:x<128
   ·by_cases hy:y<128
    ·rw [zdA (n:=(x+y)/128) (by omega)];omega
    ·rw [zdd hy];have h1:=zjj (y/128+1) ((x+y)/128) (by omega);have h2:=zty (y/128);omega
   ·rw [zdd hx];by_cases hy:y<128
    ·have h1:=zjj (x/128+1) ((x+y)/128) (by omega);have h2:=zty (x/128);omega
    ·rw [zdd hy];have h1:=zjj (x/128+y/128+1) ((x+y)/128) (by omega)
     grind [zty]
theorem zsv (n:Int) (v:List UInt8):(put5 n 2 v).length=lenN (tW n 2)+lenN v.length+v.length:=by
 rw [zgK,xy rfl,zhD,zhD]
theorem ztM (n:Int) {z x y:List UInt8} (h:z.length<=x.length+y.length):(put5 n 2 z).length<=(put5 n 2 x).length+(put5 n 2 y).length:=by
 rw [zsv,zsv,zsv];have h1:=zjj _ _ h;have h2:=zJt _ x.length y.length rfl;omega
def lenF (s:List Mes) (f:Fld) (o:Option Vlu):Nat:=match o with
 | some u=>(encV s u f).length
 | none=>0
theorem zHd {s:List Mes} {v:Vlu} {o:Option Vlu} {f:Fld} (hv:zgG s v f) (ho:∀u,o=some u->zgG s u f)
  (ih:∀x∈v.Subs,∀y:Msg,zaG s x f.Of=true->zaG s y f.Of=true->(encM s (zjM s x y f.Of) f.Of).length<=(encM s x f.Of).length+(encM s y f.Of).length):
  (encV s (zgi s v o f) f).length<=(encV s v f).length+lenF s f o:=by
 rw [zhv];cases o with
 | none=>exact Nat.le_add_right _ _
 | some u=>
  have hu:=ho u rfl;simp only [lenF];by_cases hr:f.Repeated=true
  ·rw [xy hr,zhC,zhC,zhC];by_cases hk:kNum f.Kind=true
   ·simp only [xy hk,xy hr,yH];have:=ztM f.Number (z:=u.Words.flatMap (sPut f.Kind)++v.Words.flatMap (sPut f.Kind)) (x:=u.Words.flatMap (sPut f.Kind)) (y:=v.Words.flatMap (sPut f.Kind)) (by rw [xD];exact xE _);omega
   grind [zrN]
  ·rw [xx hr];by_cases wR:f.Kind=17
   ·rw [xy wR];obtain ⟨x,hvx,hx⟩:=hv.msg wR (by simpa using hr);obtain ⟨y,huy,hy⟩:=hu.msg wR (by simpa using hr);have hvs:v.Subs=[x]:=by rw [hvx]
    have hus:u.Subs=[y]:=by rw [huy]
    have hnk:¬kNum f.Kind=true:=fun h=>(zfY h).1 wR
    have hvt:v.Texts=[]:=by rw [hvx]
    have hut:u.Texts=[]:=by rw [huy]
    rw [zhC,zhC,zhC,xx hnk,xx hnk,xx hnk,hvs,hus,hvt,hut,zkf];simp only [zgh,qo,xL,xW];have h1:=ih x (by rw [hvs];exact xz) y hx hy;have:=ztM f.Number h1;omega
   grind
def ztz (s:List Mes) (m:Mes) (o:Option Vlu):Nat:=match o with
 | some u=>(encV s u (zv m (fldI m u.Number))).length
 | none=>0
theorem zCP {s:List Mes} {m:Mes} {v:Vlu}:∀{d:Bool} {l:List Vlu},zdH l->(zcA s (putL v d l) m).length+ztz s m (look l v.Number)<=(zcA s l m).length+(if d=true then 0 else (encV s v (zv m (fldI m v.Number))).length)
 | d,[],_=>by
  rw [putL];cases d
  ·simp [zcA,look,ztz]
  ·simp [zcA,look,ztz]
 | d,u::l,h=>by
  obtain ⟨h1,h2⟩:=yg.1 h;have ih:=zCP (s:=s) (m:=m) (v:=v) (d:=d|| decide (v.Number<=u.Number)) h2;rw [putL,znv,znv,zcI,zcA,xD,xD,xD];by_cases hn:u.Number=v.Number
  ·rw [xy hn,xy hn];rw [zqc fun x hx=>by have:=h1 x hx;omega] at ih;have hle:v.Number<=u.Number:=by omega
   simp only [hle,decide_true,pm,yr,ztz] at ih|-;cases d
   ·rw [xy ⟨rfl,trivial⟩];simp only [zcA,xD,yB,qg,yC];omega
   ·rw [xx (fun hh=>by cases hh.1)];simp only [zcA,yB,yr];omega
  ·rw [xx hn,xx hn];have e2:(zcA s [u] m).length=(encV s u (zv m (fldI m u.Number))).length:=by rw [zcA,zcA,xW]
   have e3:(zcA s [v] m).length=(encV s v (zv m (fldI m v.Number))).length:=by rw [zcA,zcA,xW]
   rw [e2];cases d
   ·by_cases hle:v.Number<=u.Number
    ·grind
    ·have eb:(false|| decide (v.Number<=u.Number))=false:=by simp [hle]
     rw [eb] at ih|-;rw [xx (by simp)] at ih;rw [xx (fun hh=>hle hh.2),xx (by simp)];simp only [zcA,yB];omega
   ·rw [Bool.true_or] at ih|-;rw [xy rfl] at ih;rw [xx (fun hh=>by cases hh.1),xy rfl];simp only [zcA,yB];omega
theorem zwv {s:List Mes} {a:Msg} {m:Mes}:∀{l acc:List Vlu},zdH acc->zdH l->(∀v∈l,0<zaM (zgi s v (look a.Values v.Number) (zv m (fldI m v.Number))))->
  (∀v∈l,look acc v.Number=look a.Values v.Number)->(∀v∈l,(encV s (zgi s v (look a.Values v.Number) (zv m (fldI m v.Number))) (zv m (fldI m v.Number))).length<=(encV s v (zv m (fldI m v.Number))).length+ztz s m (look a.Values v.Number))->
  (zcA s (zhm s l a m acc) m).length<=(zcA s acc m).length+(zcA s l m).length
 | [],acc,_,_,_,_,_=>by rw [zhm];simp [zcA]
 | v::l,acc,h1,h2,h3,h4,h5=>by
  obtain ⟨l1,l2⟩:=yg.1 h2;have hm:=h3 v xz;have hnum:=ztw s v (look a.Values v.Number) (zv m (fldI m v.Number));have hl:=h5 v xz;have hla:=h4 v xz;rw [zhm,zcA,xD];have hput:putM ⟨acc,[]⟩ (zgi s v (look a.Values v.Number) (zv m (fldI m v.Number)))=⟨putL (zgi s v (look a.Values v.Number) (zv m (fldI m v.Number))) false acc,[]⟩:=by
   unfold putM;have:decide (zaM (zgi s v (look a.Values v.Number) (zv m (fldI m v.Number)))=0)=false:=ye (by omega);rw [this]
  rw [hput];have hpe:=zCP (s:=s) (m:=m) (v:=zgi s v (look a.Values v.Number) (zv m (fldI m v.Number))) (d:=false) h1;rw [hnum,hla] at hpe;simp only [qg,yC] at hpe
  have ih:=zwv (s:=s) (a:=a) (m:=m) (l:=l) (acc:=putL (zgi s v (look a.Values v.Number) (zv m (fldI m v.Number))) false acc) (zlZ h1) l2 (fun u hu=>h3 u (xA _ hu))
   (fun u hu=>by
    have:=l1 u hu;rw [zsk h1,hnum,xx (by omega)];exact h4 u (xA _ hu)) fun u hu=>h5 u (xA _ hu)
  simp only;omega
theorem zCn {s:List Mes}:∀(N:Nat) (b a:Msg) (k:Int),szM b<=N->zaG s a k=true->zaG s b k=true->(encM s (zjM s b a k) k).length<=(encM s b k).length+(encM s a k).length
 | 0,b,a,k,h,_,_=>by rw [zch] at h;omega
 | N+1,b,a,k,wZ,ha,hb=>by
  obtain ⟨k0,k1,ra,ha',ua⟩:=zbi ha;obtain ⟨_,_,rb,hb',ub⟩:=zbi hb;rw [zch] at wZ;have fit:∀n u,look a.Values n=some u->zgG s u (zv (zp s k) (fldI (zp s k) n)):=fun n u hu=>by
   obtain ⟨e,hm⟩:=zey hu;have:=zdl (ha' u hm).2
   grind
  rw [zll,zkz,zkz,zkz];have:=zwv (s:=s) (a:=a) (m:=zp s k) ra rb (fun v hv=>zrn (zdl (hb' v hv).2) fun u hu=>fit _ u hu) (fun _ _=>rfl) (fun v hv=>by
   have h:=zHd (zdl (hb' v hv).2) (o:=look a.Values v.Number) (fun u hu=>fit _ u hu) fun x hx y hxr hyr=>by
    have s1:=zdZ hv;rw [zeO] at s1;have s2:=zdY hx;exact zCn N x y _ (by omega) hyr hxr
   refine yn h (Nat.add_le_add_left ?_ _);cases hl:look a.Values v.Number with
   | none=>exact xP _
   | some u=>
    have e:=(zey hl).1;unfold ztz lenF;simp only [e];exact xE _)
  grind
def zbn (s:List Mes) (k:Int) (b:List UInt8):List UInt8:=encM s (ofM s k b) k
theorem zCV (b:List UInt8) (r:Rec):(rawB b r).length<=b.length:=by unfold rawB;simp;omega
theorem zIA {k w:Int} (h:0<=w/\w<=18446744073709551615):zbs k w<=w\/2147483648<=w:=by
 unfold zbs;split
 ·unfold zqX sgnS;split
  ·rw [xy (by omega)];omega
  ·rw [xx (by omega)];omega
 ·split
  ·omega
  ·split
   ·split<;>omega
   ·omega
theorem zzr {k:Int} (hk:kNum k=true) {p:List UInt8} (hf:zbT (zau k) p=true):(sPut k (zev k p)).length<=2*p.length:=by
 have hr:=znQ k (b:=p);have h1:=zdS.1 hk;unfold zev;rw [zEV hr];have hc:=zgf k hr;unfold sPut ziC;by_cases h12:12<=k
 ·rw [xy h12,zbb];have:zau k=1:=by unfold zau;rw [xx (by omega),xy h12]
  rw [this] at hf;unfold zbT at hf;rw [xx (by omega)] at hf;have:=yv hf;omega
 ·rw [xx h12];by_cases h9:9<=k
  ·rw [xy h9,zbb];have:zau k=5:=by unfold zau;rw [xx (by omega),xx h12,xy h9]
   rw [this] at hf;unfold zbT at hf;rw [xx (by omega)] at hf;have:=yv hf;omega
  ·rw [xx h9,zhD];have h0:zau k=0:=by unfold zau;rw [xx (by omega),xx h12,xx h9]
   rw [h0] at hf;unfold zbT at hf;rw [xy rfl] at hf;obtain ⟨f1,f2⟩:=yv hf;have hraw:rawW k p=(rd p).1:=by unfold rawW;rw [xy h0]
   rw [hraw] at hr hc|-;have hm:=zAu (l:=p) (k:=p.length) (by rw [<-f1,<-f2]);rw [zhD] at hm;rcases zIA (k:=k) hr with hle| hge
   ·have:=zjj (rd p).1.toNat (zbs k (rd p).1).toNat (by omega);omega
   ·have h5:=zjj (rd p).1.toNat 2147483648 (by omega);have e5:lenN 2147483648=5:=by
     rw [zdd (by omega),zdd (by omega),zdd (by omega),zdd (by omega),zdA (by omega)]
    have h10:=zsd (n:=(zbs k (rd p).1).toNat) (by omega);omega
theorem zsu {k:Int} (hk:kNum k=true):∀{ps:List (List UInt8)},(∀p∈ps,zbT (zau k) p=true)->((ps.map (zev k)).flatMap (sPut k)).length<=2*ps.flatten.length
 | [],_=>by simp
 | p::ps,h=>by
  have h1:=zzr hk (h p xz);have h2:=zsu hk fun q hq=>h q (xA _ hq)
  rw [xQ,xM,xD,qm,xD];omega
theorem zuN {k:Int} (hk:kNum k=true) (v:List UInt8):((zas k v).1.flatMap (sPut k)).length<=2*v.length:=by
 unfold zas;rw [xx (by rw [hk];simp)];by_cases h:(pcs k v).2=0
 ·rw [xy h];have h1:=zsu hk (ps:=(pcs k v).1) fun p hp=>(zxa hk v p hp).1
  rw [zCM k v h] at h1;exact h1
 ·rw [xx h];simp
theorem zJu {n w:Int} (h:1<=n) (h0:0<=w/\w<=7):lenN (tW n 2)=lenN (tW n w):=by
 have key:∀(q a b:Nat),a<8->b<8->lenN (8*q+a)=lenN (8*q+b):=by
  intro q a b ha hb;by_cases hq:8*q+8<=128
  ·rw [zdA (by omega),zdA (by omega)]
  ·rw [zdd (n:=8*q+a) (by omega),zdd (n:=8*q+b) (by omega)];have:(8*q+a)/128=(8*q+b)/128:=by omega
   rw [this]
 have:=key n.toNat 2 w.toNat (by omega) (by omega);have e1:tW n 2=8*n.toNat+2:=by unfold tW;omega
 have e2:tW n w=8*n.toNat+w.toNat:=by unfold tW;omega
 rw [e1,e2];exact this
theorem zxc (n:Int) {z v:List UInt8} (h:z.length<=2*v.length):(put5 n 2 z).length<=2*(put5 n 2 v).length:=by
 have:=ztM n (z:=z) (x:=v) (y:=v) (by omega);omega
theorem zIL {s:List Mes} {d:Nat} {m:Mes} {t:Th} {g:Int->List UInt8->Msg} {f:Fld} (ht:OkT s d m t) (h0:0<=t.fi) (hf:zv m t.fi=f) (hn:1<=f.Number) {R:Nat}
  (hR1:t.run=true->(put5 f.Number 2 t.val).length<=R) (hR2:t.run=false->(put5 f.Number (zau f.Kind) t.val).length<=R) (hg:f.Kind=17->(encM s (g f.Of t.val) f.Of).length<=2*t.val.length):
  (encV s (valO g f (stp g f acc0 t)) f).length<=2*R:=by
 have w7:=ht.run h0;have hone:=ht.one h0;rw [hf] at w7 hone;have hz1:(if f.Repeated=true then acc0.2.2.1 else [])=[]:=by split<;>rfl
 have hz2:(if f.Repeated=true then acc0.2.2.2.1 else [])=[]:=by split<;>rfl
 by_cases hr:t.run=true
 ·obtain ⟨hk,hrep,_⟩:=w7 hr;have wR:=(zfY hk).1;have hw:=zuN hk t.val;have:=zxc f.Number hw;have:=hR1 hr;rw [zhC,xy hk,xy hrep];unfold stp valO;rw [xy hr,hz1];simp only [xL];omega
 ·have hr':t.run=false:=by simpa using hr
  obtain ⟨hkr,hfit,_,_⟩:=hone hr';have hR:=hR2 hr';by_cases hk:kNum f.Kind=true
  ·have hp:=zjR hk hfit;have hpt:=zzr hk hfit;have wR:=(zfY hk).1;rw [zhC,xy hk];have e:(valO g f (stp g f acc0 t)).Words=[zev f.Kind t.val]:=by
    unfold stp valO;rw [xx hr,xy hk,hz1,hp];rfl
   rw [e];have htg:=zJu (n:=f.Number) (w:=zau f.Kind) hn (zCo _);have htp:=zmM (tW f.Number (zau f.Kind));have hkw:zau f.Kind≠2:=by
    have:=zdS.1 hk;unfold zau;rw [xx (by omega)];split;omega;split<;>omega
   rw [zgK,xx hkw,zhD] at hR;have hsl:=ziD (k:=f.Kind) (w:=zev f.Kind t.val) (zgf _ (znQ _));by_cases hrep:f.Repeated=true
   ·rw [xy hrep,zsv,htg];have e2:[zev f.Kind t.val].flatMap (sPut f.Kind)=sPut f.Kind (zev f.Kind t.val):=by simp
    rw [e2];have:lenN (sPut f.Kind (zev f.Kind t.val)).length=1:=zdA (by omega);omega
   ·rw [xx hrep];show (put5 f.Number (zau f.Kind) (sPut f.Kind (zev f.Kind t.val))).length<=_;rw [zgK,xx hkw,zhD];omega
  ·have hkk:zau f.Kind=2:=by
    have h1:¬(1<=f.Kind/\f.Kind<=14):=fun hh=>hk (zdS.2 hh)
    have h2:1<=f.Kind/\f.Kind<=17:=by simpa [zbJ] using hkr
    unfold zau;rw [xy (by omega)]
   rw [hkk] at hR;rw [zhC,xx hk];by_cases wR:f.Kind=17
   ·have:=zxc f.Number (hg wR);have e1:(valO g f (stp g f acc0 t)).Texts=[]:=by
     unfold stp valO;rw [xx hr,xx hk];by_cases hrep:f.Repeated=true
     ·rw [xy ⟨wR,hrep⟩,hz2]
     ·rw [xx (fun hh=>hrep hh.2),xy wR,hz2]
    have e2:(valO g f (stp g f acc0 t)).Subs=[g f.Of t.val]:=by
     unfold stp valO;rw [xx hr,xx hk];by_cases hrep:f.Repeated=true
     ·rw [xy ⟨wR,hrep⟩];simp only;rw [xx (fun hh=>by rw [hrep] at hh;cases hh.2.2)];rfl
     ·rw [xx (fun hh=>hrep hh.2),xy wR];simp only;rw [xy ⟨trivial,wR,by simpa using hrep⟩];rfl
    rw [e1,e2];simp only [qo,xL,zgh,xW];omega
   ·have e1:(valO g f (stp g f acc0 t)).Texts=[t.val]:=by
     unfold stp valO;rw [xx hr,xx hk,xx (fun hh=>wR hh.1),xx wR,hz2];rfl
    have e2:(valO g f (stp g f acc0 t)).Subs=[]:=by
     unfold stp valO;rw [xx hr,xx hk,xx (fun hh=>wR hh.1),xx wR];simp only;rw [xx (fun hh=>wR hh.2.1)];rfl
    rw [e1,e2];simp only [pt,zgh,xW];omega
theorem zrl {s:List Mes} (hs:zcB s):∀(N:Nat) (b:List UInt8) (d k:Nat),b.length=N->k<s.length->zS s d k b=none->(zbn s k b).length<=2*b.length:=by
 intro N
 induction N using Nat.strongRecOn with
 | _ N IH=>
  intro b d k hN hk hv;have hmm:zp s (k:Int)∈s:=by rw [zci hk];exact xH hk
  have hv':=hv;rw [zfm,zct] at hv';by_cases w9:b=[]
  ·subst w9;unfold zbn;have e:ofM s k []=⟨[],[]⟩:=by
    rw [ziu,zms hv,zei];unfold zds zpK unkO;have:∀o:List Int,(o.map fun i=>valO (ofM s) (zv (zp s (k:Int)) i) (accF (ofM s) (zv (zp s (k:Int)) i) i acc0 [])).filter (fun v=>decide (0<zaM v))=[]:=by
     intro o;rw [List.filter_eq_nil_iff];intro v hv;obtain ⟨i,_,rfl⟩:=xF.1 hv;simp [accF,zaM,valO,acc0]
    simp only [yQ,List.filter_nil,this]
   rw [e,zkz];simp [zcA]
  ·rcases zhG b with ⟨c,hc,_⟩| ⟨n,w,kk,a,t,hc,_,htr,_,g1,g2,g3,g4,g5,_⟩
   ·rw [zgb w9 hc] at hv';cases hv'.2
   ·have hrv:=zxf hc;have hrl:(b.take t).length=t:=by simp;omega
    have hrn:b.take t≠[]:=fun e=>by
     rw [e,yB] at hrl;omega
    have hsr:spl 0 (b.take t)=([⟨n,w,((0:Nat):Int),((0+a:Nat):Int),((0+t:Nat):Int)⟩],none):=by
     have hd:(b.take t).drop t=[]:=yK (by omega);rw [zcO hrn (ztO hc),hd,zei]
    have hval:valB (b.take t) ⟨n,w,((0:Nat):Int),((0+a:Nat):Int),((0+t:Nat):Int)⟩=(b.drop a).take (t - a):=by
     unfold valB;simp only [xK,xR];rw [qq,qi,Nat.min_self]
    have hstep:=hv'.1 ⟨n,w,((0:Nat):Int),((0+a:Nat):Int),((0+t:Nat):Int)⟩ (by rw [zcO w9 hc];exact xz);have hr:zS s d k (b.take t)=none:=by
     rw [zfm,zct,hsr];refine ⟨fun r hr=>?_,rfl⟩;rw [yl.1 hr];refine (zsI (b:=b) (b':=b.take t) rfl rfl ?_).2 hstep;rw [hval];unfold valB;simp only [xK,xR]
    have hz:zS s d k (b.drop t)=none:=by
     have:=zgZ s d k (b.drop t) hr;rw [qx] at this;exact this.1 hv
    have hone:(zbn s k (b.take t)).length<=2*t:=by
     have hth:=zzL hr;have hmr:=(zgr hs _ (b.take t) d k rfl hk hr).1;obtain ⟨_,_,hrise,_,_⟩:=zbi hmr;have hths:ths (zp s (k:Int)) (b.take t)=[thR (zp s k) (b.take t) ⟨n,w,((0:Nat):Int),((0+a:Nat):Int),((0+t:Nat):Int)⟩]:=by rw [zms hr,hsr];rfl
     have hraw:(thR (zp s (k:Int)) (b.take t) ⟨n,w,((0:Nat):Int),((0+a:Nat):Int),((0+t:Nat):Int)⟩).raw.length<=t:=by
      have:=zCV (b.take t) ⟨n,w,((0:Nat):Int),((0+a:Nat):Int),((0+t:Nat):Int)⟩;rw [hrl] at this;exact this
     have hput:=hrv.2.2;rw [<-hval] at hput;unfold zbn;rw [ziu] at hrise|-;rw [hths] at hrise hth|-;have hu:=hth _ xz
     have hvw:vwG (zp s (k:Int)) ⟨n,w,((0:Nat):Int),((0+a:Nat):Int),((0+t:Nat):Int)⟩=match vw (zp s (k:Int)) n w with
      | .inl _=>(-1,false)
      | .inr p=>p:=rfl
     have hfi:(thR (zp s (k:Int)) (b.take t) ⟨n,w,((0:Nat):Int),((0+a:Nat):Int),((0+t:Nat):Int)⟩).fi=(vwG (zp s (k:Int)) ⟨n,w,((0:Nat):Int),((0+a:Nat):Int),((0+t:Nat):Int)⟩).1:=rfl;have w7:(thR (zp s (k:Int)) (b.take t) ⟨n,w,((0:Nat):Int),((0+a:Nat):Int),((0+t:Nat):Int)⟩).run=(vwG (zp s (k:Int)) ⟨n,w,((0:Nat):Int),((0+a:Nat):Int),((0+t:Nat):Int)⟩).2:=rfl;have hvl:(thR (zp s (k:Int)) (b.take t) ⟨n,w,((0:Nat):Int),((0+a:Nat):Int),((0+t:Nat):Int)⟩).val=valB (b.take t) ⟨n,w,((0:Nat):Int),((0+a:Nat):Int),((0+t:Nat):Int)⟩:=rfl;have hvlen:(valB (b.take t) ⟨n,w,((0:Nat):Int),((0+a:Nat):Int),((0+t:Nat):Int)⟩).length=t - a:=by rw [hval];exact hrv.2.1
     rw [hvw] at hfi w7
     generalize thR (zp s (k:Int)) (b.take t) ⟨n,w,((0:Nat):Int),((0+a:Nat):Int),((0+t:Nat):Int)⟩=u at hraw hu hfi w7 hvl hrise|-
     rw [<-hvl] at hput hvlen
     -- values: of the record's field alone
     have hmem:∀v∈(zds (ofM s) (zp s (k:Int)) [u]).Values,0<=u.fi/\v=valO (ofM s) (zv (zp s (k:Int)) u.fi) (stp (ofM s) (zv (zp s (k:Int)) u.fi) acc0 u):=fun v hv=>by
      unfold zds zpK at hv;obtain ⟨h1,h2⟩:=xU.1 hv;obtain ⟨i,hi,rfl⟩:=xF.1 h1;have hi0:=(zdm.1 hi).1;by_cases hui:u.fi=i
      ·rw [accF,accF,xy hui,<-hui];exact ⟨by omega,rfl⟩
      ·exfalso;rw [accF,accF,xx hui] at h2;simp [zaM,valO,acc0] at h2
     rw [zkz];rcases zec (zp s (k:Int)) n w with hvv| ⟨hvv,_⟩| ⟨i,run,hvv,hfii,hil⟩
     ·rw [hvv] at hfi;simp only at hfi;have hnil:(zds (ofM s) (zp s (k:Int)) [u]).Values=[]:=by
       cases hvs:(zds (ofM s) (zp s (k:Int)) [u]).Values with
       | nil=>rfl
       | cons v l=>have:=(hmem v (by rw [hvs];exact xz)).1;omega
      rw [hnil];have:(zds (ofM s) (zp s (k:Int)) [u]).Unknown=[u.raw]:=by
       unfold zds unkO;simp only;rw [yI,xy (by simp;omega)];rfl
      rw [this];simp [zcA];omega
     ·rw [hvv] at hfi;simp only at hfi;have hnil:(zds (ofM s) (zp s (k:Int)) [u]).Values=[]:=by
       cases hvs:(zds (ofM s) (zp s (k:Int)) [u]).Values with
       | nil=>rfl
       | cons v l=>have:=(hmem v (by rw [hvs];exact xz)).1;omega
      rw [hnil];have:(zds (ofM s) (zp s (k:Int)) [u]).Unknown=[u.raw]:=by
       unfold zds unkO;simp only;rw [yI,xy (by simp;omega)];rfl
      rw [this];simp [zcA];omega
     ·rw [hvv] at hfi w7;simp only at hfi w7;have hunk:(zds (ofM s) (zp s (k:Int)) [u]).Unknown=[]:=by
       unfold zds unkO;simp only;rw [yI,xx (by simp;omega)];rfl
      rw [hunk];have hfm:zv (zp s (k:Int)) u.fi∈(zp s (k:Int)).Fields:=by rw [hfi,zby hil];exact xH hil
      have hfo:=hs.fld _ hmm _ hfm;have hnum:(zv (zp s (k:Int)) u.fi).Number=n:=by
       rcases zcC (zp s (k:Int)) n with ⟨hf,_⟩| ⟨j,hj,hf,hjn,_⟩
       ·omega
       ·have:j=i:=by omega
        subst this;rw [hfi,zby hj,hjn]
      have hb1:(encV s (valO (ofM s) (zv (zp s (k:Int)) u.fi) (stp (ofM s) (zv (zp s (k:Int)) u.fi) acc0 u)) (zv (zp s (k:Int)) u.fi)).length<=2*t:=by
       refine zIL hu (by omega) rfl hfo.lo (fun hr=>?_) (fun hr=>?_) fun wR=>?_
       ·rw [hr] at w7;have:=(zBs (by rw [hvv,<-w7])).2.2;rw [hnum,<-this];exact hput
       ·rw [hr] at w7;have hkw:zau (zv (zp s (k:Int)) u.fi).Kind=w:=by
         unfold vw at hvv;rw [hfii,<-hfi] at hvv;split at hvv
         ·rename_i wP;omega
         ·split at hvv
          ·have:=congrArg (fun q:Int⊕(Int×Bool)=>match q with| .inl _=>false| .inr p=>p.2) hvv;simp only at this;rw [<-w7] at this;cases this
          ·split at hvv
           ·cases hvv
           ·rename_i h4;by_cases hq:zau (zv (zp s (k:Int)) u.fi).Kind=w
            ·exact hq
            ·exact absurd (.inr hq) h4
        rw [hnum,hkw];exact hput
       ·have hrf:u.run=false:=by
         cases hrr:u.run with
         | false=>rfl
         | true=>
          have:=(hu.run (by omega) hrr).1;rw [wR] at this;cases this
        obtain ⟨e,he,hve⟩:=(hu.one (by omega) hrf).2.2.2 wR;have hof:=hfo.sub wR;obtain ⟨q,hq⟩:∃q:Nat,(zv (zp s (k:Int)) u.fi).Of=q:=⟨(zv (zp s (k:Int)) u.fi).Of.toNat,by omega⟩;rw [hq] at hve|-;exact IH u.val.length (by omega) u.val e q rfl (by omega) hve
      have hkn:0<=fldI (zp s (k:Int)) (zv (zp s (k:Int)) u.fi).Number:=by rw [hnum];omega
      have hfld:zv (zp s (k:Int)) (fldI (zp s (k:Int)) (zv (zp s (k:Int)) u.fi).Number)=zv (zp s (k:Int)) u.fi:=by rw [hnum,hfii,hfi]
      cases hvs:(zds (ofM s) (zp s (k:Int)) [u]).Values with
      | nil=>simp [zcA]
      | cons v l=>
       rw [hvs] at hrise hmem;obtain ⟨r1,_⟩:=yg.1 hrise;have hl:l=[]:=by
        cases l with
        | nil=>rfl
        | cons v2 l=>
         have h1:=(hmem v xz).2;have h2:=(hmem v2 (xA _ xz)).2;have:=r1 v2 xz;rw [h1,h2] at this;omega
       have hv1:=(hmem v xz).2;rw [hl,zcA,zcA,hv1];have hnn:(valO (ofM s) (zv (zp s (k:Int)) u.fi) (stp (ofM s) (zv (zp s (k:Int)) u.fi) acc0 u)).Number=(zv (zp s (k:Int)) u.fi).Number:=rfl;rw [hnn,hfld];simp only [xW,List.flatten_nil];exact hb1
    have hap:=zEJ hs _ (b.take t) (b.drop t) d k rfl hk hr hz;rw [qx] at hap;have hra:=(zgr hs _ (b.take t) d k rfl hk hr).1;have hrz:=(zgr hs _ (b.drop t) d k rfl hk hz).1;have hj:=zCn _ (ofM s k (b.drop t)) (ofM s k (b.take t)) k (xE _) hra hrz;have hzl:(b.drop t).length=b.length - t:=by simp
    have hih:=IH (b.drop t).length (by omega) (b.drop t) d k rfl hk hz;unfold zbn at hih hone|-;rw [hap];omega
theorem zGS:∀(N:Nat) (x:Msg),szM x<=N->szM x<=wgM x
 | 0,x,h=>by rw [zch] at h;omega
 | N+1,x,h=>by
  rw [zch] at h;have hv:∀v∈x.Values,szV v<=wgV v:=fun v hv=>by
   have h1:=zdZ hv;have he:=zeO v;have:∀l:List Msg,(∀y∈l,y∈v.Subs)->szMs l<=wgMs l:=by
    intro l
    induction l with
    | nil=>intro _;rw [szMs];omega
    | cons y l ih=>
     intro hl;have hy:=hl y xz;have h2:=zdY hy;have:=zGS N y (by omega);have:=ih fun z hz=>hl z (xA _ hz)
     rw [szMs,wgMs];omega
   have:=this v.Subs fun y hy=>hy
   rw [he,ziM];omega
  have:∀l:List Vlu,(∀v∈l,v∈x.Values)->szVs l<=wgVs l:=by
   intro l
   induction l with
   | nil=>intro _;rw [szVs];omega
   | cons v l ih=>
    intro hl;have:=hv v (hl v xz);have:=ih fun z hz=>hl z (xA _ hz)
    rw [szVs,wgVs];omega
  have:=this x.Values fun v hv=>hv
  rw [zch,zjv];omega
theorem zML:∀(N:Nat) (x:Msg),szM x<=N->wgM x<=1048576->smM x
 | 0,x,h,_=>by rw [zch] at h;omega
 | N+1,x,h,hw=>by
  rw [zch] at h;rw [zjv] at hw;have hl:=zDE x.Values;have hu:=zBi (l:=x.Unknown);refine (zxt _).2 ⟨by omega,⟨by omega,fun t ht=>by have:=znW ht;omega⟩,znf.2 fun v hv=>?_⟩;have h1:=zdZ hv;have h2:=zpN hv;rw [zeO] at h1;rw [ziM] at h2;have ht:=zBi (l:=v.Texts);have hs:=zDC v.Subs;refine (zxu _).2 ⟨by omega,⟨by omega,fun t ht=>by have:=znW ht;omega⟩,by omega,zne.2 fun y hy=>?_⟩;have h3:=zdY hy;have h4:=zkc hy;exact zML N y (by omega) (by omega)
theorem ztd:∀(l m:List Vlu),wgVs (l++m)=wgVs l+wgVs m
 | [],m=>by rw [xL,wgVs];omega
 | v::l,m=>by rw [yo,wgVs,wgVs,ztd l m];omega
theorem zDB:∀(l m:List Msg),wgMs (l++m)=wgMs l+wgMs m
 | [],m=>by rw [xL,wgMs];omega
 | v::l,m=>by rw [yo,wgMs,wgMs,zDB l m];omega
def wgO:Option Vlu->Nat
 | none=>0
 | some u=>wgV u
theorem zJV (v:Vlu):∀(d:Bool) (l:List Vlu),zdH l->wgVs (putL v d l)+wgO (look l v.Number)<=wgVs l+(if d=true then 0 else wgV v)
 | d,[],_=>by
  rw [putL];cases d
  ·show wgVs [v]+0<=_;simp [wgVs]
  ·show wgVs []+0<=_;simp
 | d,u::l,h=>by
  obtain ⟨h1,h2⟩:=yg.1 h;have ih:=zJV v (d|| decide (v.Number<=u.Number)) l h2;rw [putL,ztd,ztd,zcI,wgVs];by_cases he:u.Number=v.Number
  ·rw [xy he,xy he];have hn:look l v.Number=none:=zqc fun x hx=>by have:=h1 x hx;omega
   rw [hn] at ih;have hle:decide (v.Number<=u.Number)=true:=by simp;omega
   rw [hle,pm,xy rfl] at ih;simp only [wgO,wgVs,hle,pm] at ih|-;cases d
   ·rw [xy ⟨rfl,by omega⟩,wgVs,wgVs];simp;omega
   ·rw [xx (by simp),wgVs];simp;omega
  ·rw [xx he,xx he,wgVs,wgVs];cases d
   ·by_cases hv:v.Number<=u.Number
    ·rw [xy ⟨rfl,hv⟩,wgVs,wgVs];simp only [hv,decide_true,pm,yr,qg,yC] at ih|-;omega
    ·rw [xx (fun hh=>hv hh.2),wgVs];simp only [hv,decide_false,pr,qg,yC] at ih|-;omega
   ·rw [xx (by simp),wgVs];simp only [Bool.true_or,yr] at ih|-;omega
theorem zyZ :∀(l acc:List Vlu),zdH l->zdH acc->(∀v∈l,look acc v.Number=look a.Values v.Number)->(∀v∈l,wgV (zgi s v (look a.Values v.Number) (zv m (fldI m v.Number)))<=wgV v+wgO (look a.Values v.Number))->wgVs (zhm s l a m acc)<=wgVs acc+wgVs l
 | [],acc,_,_,_,_=>by rw [zhm];omega
 | v::l,acc,hl,ha,he,hw=>by
  obtain ⟨l1,l2⟩:=yg.1 hl;have hv:=he v xz;have hwv:=hw v xz;have hn:=ztw s v (look a.Values v.Number) (zv m (fldI m v.Number));rw [zhm]
  generalize zgi s v (look a.Values v.Number) (zv m (fldI m v.Number))=v' at hn hwv|-
  have hp:=zJV v' (decide (zaM v'=0)) acc ha;have ih:=zyZ (s:=s) (a:=a) (m:=m) l (putM ⟨acc,[]⟩ v').Values l2 (zlZ ha) (fun u hu=>by
   show look (putL v' _ acc) u.Number=_;have:=l1 u hu;rw [zsk ha,xx (by omega)];exact he u (xA _ hu)) (fun u hu=>hw u (xA _ hu))
  have hq:wgVs (putM ⟨acc,[]⟩ v').Values=wgVs (putL v' (decide (zaM v'=0)) acc):=rfl;rw [hn,hv] at hp;rw [wgVs];split at hp<;>omega
theorem zFQ :∀(N:Nat) (b a:Msg) (k:Int),szM b<=N->zaG s a k=true->zaG s b k=true->wgM (zjM s b a k)<=wgM a+wgM b
 | 0,b,a,k,h,_,_=>by rw [zch] at h;omega
 | N+1,b,a,k,wZ,ha,hb=>by
  obtain ⟨_,_,ra,ha',_⟩:=zbi ha;obtain ⟨_,_,rb,hb',_⟩:=zbi hb;rw [zch] at wZ;have:=zyZ (s:=s) (a:=a) (m:=zp s k) b.Values a.Values rb ra (fun _ _=>rfl) fun v hv=>by
   rw [zhv];cases hla:look a.Values v.Number with
   | none=>simp only [wgO];omega
   | some u=>
    obtain ⟨hun,hum⟩:=zey hla;have hve:=ziM v;have hue:=ziM u;simp only [wgO];split
    ·rw [ziM];simp only [xD,yN,List.sum_append,zDB];omega
    ·split
     ·rename_i hrep wR;have ov:=zdl (hb' v hv).2;have ou:=zdl (ha' u hum).2;rw [hun] at ou;have hsv:=zdZ hv;rw [zeO] at hsv;rw [ziM];simp only [yB,yQ,List.sum_nil];cases hvs:v.Subs with
      | nil=>rw [zkf,wgMs];omega
      | cons y ys=>
       cases hus:u.Subs with
       | nil=>rw [zkf,wgMs];omega
       | cons z zs=>
        rw [zkf];have hy:y∈v.Subs:=by rw [hvs];exact xz
        have hz:z∈u.Subs:=by rw [hus];exact xz
        have hsy:=zdY hy;have hj:=zFQ N y z _ (by omega) (ou.subs z hz).2 (ov.subs y hy).2;have w1:=zkc hy;have w2:=zkc hz;rw [wgMs,wgMs];omega
     ·omega
  rw [zll,zjv,zjv,zjv];simp only [yN,List.sum_append];omega
theorem zGu :∀(N:Nat) (x:Msg) (k:Int) (w:List zaC) (keep:Bool),szM x<=N->wgM (zsr s x k w keep)<=wgM x
 | 0,x,k,w,keep,h=>by rw [zch] at h;omega
 | N+1,x,k,w,keep,wZ=>by
  rw [zch] at wZ;have key:∀v∈x.Values,∀f:Fld,wgVs (zwZ s v f w keep)<=wgV v:=fun v hv f=>by
   have hsv:=zdZ hv;rw [zeO] at hsv;have hve:=ziM v;rw [zss];split
   ·cases hs:v.Subs with
    | nil=>
     rw [zpn,wgVs,wgVs,ziM];simp only [yB,yQ,List.sum_nil];rw [wgMs];omega
    | cons y ys=>
     have hy:y∈v.Subs:=by rw [hs];exact xz
     have hsy:=zdY hy;have hwy:=zkc hy;have:=zGu (s:=s) N y f.Of (zmv w v.Number) keep (by omega);rw [zpn,wgVs,wgVs,ziM];simp only [yB,yQ,List.sum_nil];rw [wgMs,wgMs];omega
   ·split
    ·rw [wgVs,wgVs];omega
    ·rw [wgVs];omega
  have all:∀l:List Vlu,(∀v∈l,v∈x.Values)->wgVs (zix s l (zp s k) w keep)<=wgVs l:=by
   intro l
   induction l with
   | nil=>intro _;rw [zix];exact xE _
   | cons v l ih=>
    intro h;have i2:=ih fun u hu=>h u (xA _ hu)
    have k2:=key v (h v xz) (zv (zp s k) (fldI (zp s k) v.Number));rw [zix,ztd,wgVs];omega
  have:=all x.Values fun v hv=>hv
  rw [zwX,zjv,zjv];simp only;cases keep<;>simp<;>omega
theorem zDQ (s:List Mes) (root d:Int):argS s root d=0\/argS s root d=2\/argS s root d=9:=by
 unfold argS;split
 ·omega
 ·split<;>omega
theorem zAk (s:List Mes) (root:Int) (b:List UInt8) (d:Int):0<=(zba s root b d).2/\(zba s root b d).2<=9:=by
 unfold zba;by_cases h:argS s root d=0
 ·rw [xx (by simpa using h)];cases hf:zS s d.toNat root b with
  | none=>simp
  | some p=>
   have:=zli s d.toNat root b p.1 p.2 hf;simp only [pf];omega
 ·rw [xy h];rcases zDQ s root d with h| h| h<;>rw [h]<;>simp
structure V18 (s:List Mes) (d k:Nat) (b:List UInt8):Prop where
 bd:bdM (ofM s k b)
 sm:smM (ofM s k b)
 right:zaG s (ofM s k b) k=true
 depth:dM (ofM s k b)<=d
 wg:wgM (ofM s k b)<=2*b.length+1
 sz:szM (ofM s k b)<=2*b.length+1
 valid:zS s d k (zbn s k b)=none
 means:ofM s k (zbn s k b)=ofM s k b
 twice:(zbn s k b).length<=2*b.length
 stays:zbn s k (zbn s k b)=zbn s k b
theorem zKH {s:List Mes} (hs:zcB s) {d k:Nat} (hk:k<s.length) {b:List UInt8} (hb:b.length<=14000) (h:zS s d k b=none):V18 s d k b:=by
 obtain ⟨p1,p2⟩:=zJL hs _ b k rfl (by omega) hk;obtain ⟨p3,p4⟩:=zgr hs _ b d k rfl hk h;have p5:=zNy s _ b k rfl;have p6:=zGS _ (ofM s k b) (xE _);obtain ⟨p7,p8⟩:=zuo hs _ (ofM s k b) k d (xE _) p1 (by omega) p3 p4;exact ⟨p1,p2,p3,p4,p5,by omega,p7,p8,zrl hs _ b d k rfl hk h,by unfold zbn at*;rw [p8]⟩
theorem zIU {s:List Mes} {d e k:Nat} {a b:List UInt8} (ha:V18 s d k a) (hb:V18 s e k b):zbn s k a=zbn s k b↔ofM s k a=ofM s k b:=
 ⟨fun h=>by rw [<-ha.means,h,hb.means],fun h=>by unfold zbn;rw [h]⟩
def zvk (s:List Mes) (root:Int) (b:List UInt8) (d:Int):List UInt8×Int:=if (zba s root b d).2≠0 then ([],(zba s root b d).2) else (zbn s root b,0)
theorem zjJ {s:List Mes} {root:Int} {b:List UInt8} {d:Int} (h:(zba s root b d).2≠0):zvk s root b d=([],(zba s root b d).2):=xy h
theorem zlj {s:List Mes} {root:Int} {b:List UInt8} {d:Int} (h:(zba s root b d).2=0):zvk s root b d=(zbn s root b,0):=xx (fun g=>g h)
def zvF (s:List Mes) (root:Int) (a b:List UInt8) (d:Int):Bool×Int:=if (zba s root a d).2≠0 then (false,(zba s root a d).2) else if (zba s root b d).2≠0 then (false,(zba s root b d).2) else (zbn s root a==zbn s root b,0)
theorem zzA (hg:∀v u,g v=some u->u.Number=v.Number):∀{l:List Vlu},zdH l->zdH (l.filterMap g)
 | [],_=> .nil
 | v::l,h=>by
  obtain ⟨h1,h2⟩:=yg.1 h;have ih:=zzA hg h2;cases e:g v with
  | none=>rw [List.filterMap_cons_none e];exact ih
  | some u=>
   rw [List.filterMap_cons_some e];refine yg.2 ⟨fun w hw=>?_,ih⟩;obtain ⟨w',hw',e'⟩:=List.mem_filterMap.1 hw;rw [hg _ _ e,hg _ _ e'];exact h1 w' hw'
def goB (m:Mes) (w:List zaC) (v:Vlu):Bool:= !zoc w v.Number&&decide (zmv w v.Number≠[])&&decide ((zv m (fldI m v.Number)).Kind=17)&& !(zv m (fldI m v.Number)).Repeated
theorem zAx :goB m w v=true↔zoc w v.Number=false/\zmv w v.Number≠[]/\(zv m (fldI m v.Number)).Kind=17/\(zv m (fldI m v.Number)).Repeated=false:=by
 unfold goB;simp only [xB,xY,yc,and_assoc]
def inV (s:List Mes) (m:Mes) (w:List zaC) (keep:Bool) (v:Vlu):Vlu:=⟨v.Number,[],[],zpn s v.Subs (zv m (fldI m v.Number)).Of (zmv w v.Number) keep⟩
def zwY (s:List Mes) (m:Mes) (w:List zaC) (keep:Bool) (v:Vlu):Option Vlu:=if goB m w v=true then some (inV s m w keep v) else if zoc w v.Number=keep then some v else none
theorem zzo (v u:Vlu) (h:zwY s m w keep v=some u):u.Number=v.Number:=by
 unfold zwY at h;split at h
 ·cases h;rfl
 ·split at h
  ·cases h;rfl
  ·cases h
theorem zzp (s:List Mes) (m:Mes) (w:List zaC) (keep:Bool):∀l:List Vlu,zix s l m w keep=l.filterMap (zwY s m w keep)
 | []=>by rw [zix];rfl
 | v::l=>by
  rw [zix,zzp s m w keep l,zss];by_cases hg:goB m w v=true
  ·rw [xy (zAx.1 hg),List.filterMap_cons_some (b:=inV s m w keep v) (by unfold zwY;rw [xy hg])];rfl
  ·rw [xx (fun h=>hg (zAx.2 h))];by_cases hk:zoc w v.Number=keep
   ·rw [xy hk,List.filterMap_cons_some (b:=v) (by unfold zwY;rw [xx hg,xy hk])];rfl
   ·rw [xx hk,List.filterMap_cons_none (by unfold zwY;rw [xx hg,xx hk])];rfl
theorem zLi (hg:goB m w v=true) (hf:zgG s v (zv m (fldI m v.Number))):∃y,v=⟨v.Number,[],[],[y]⟩/\zaG s y (zv m (fldI m v.Number)).Of=true/\∀keep,inV s m w keep v=⟨v.Number,[],[],[zsr s y (zv m (fldI m v.Number)).Of (zmv w v.Number) keep]⟩:=by
 obtain ⟨_,_,h3,h4⟩:=zAx.1 hg;obtain ⟨y,e,hy⟩:=hf.msg h3 h4;have hs:v.Subs=[y]:=by rw [e]
 refine ⟨y,e,hy,fun keep=>?_⟩;unfold inV;rw [hs,zpn]
theorem zIR (hf:zgG s ⟨n,[],[],[y]⟩ f) (hz:zaG s z f.Of=true):zgG s ⟨k,[],[],[z]⟩ f:=
 ⟨by simp [zaM],(fun _=>by simp [zaM]),hf.kind,(fun w hw=>nomatch hw),(fun w hw=>nomatch hw),fun w hw=>by rw [yl.1 hw];exact ⟨(hf.subs y xz).1,hz⟩⟩
theorem zNS (hv:v∈x.Values) (e:v=⟨v.Number,[],[],[y]⟩):szM y<szM x:=by
 have s1:=zdZ hv;rw [zeO] at s1;have hs:v.Subs=[y]:=by rw [e]
 have s2:szM y<=szMs v.Subs:=zdY (by rw [hs];exact xz);rw [zch x];omega
theorem zuB :∀(N:Nat) (x:Msg) (k:Int) (w:List zaC) (keep:Bool),szM x<=N->zaG s x k=true->zaG s (zsr s x k w keep) k=true
 | 0,x,k,w,keep,h,_=>by rw [zch] at h;omega
 | N+1,x,k,w,keep,wZ,hx=>by
  obtain ⟨k0,k1,rx,hx',ux⟩:=zbi hx;rw [zwX,zzp];refine zzz k0 k1 (zzA zzo rx) (fun v hv=>?_) fun u hu=>?_
  ·obtain ⟨v0,hv0,e⟩:=List.mem_filterMap.1 hv;obtain ⟨w0,wf⟩:=hx' v0 hv0;have hn:=zzo _ _ e;unfold zwY at e;by_cases hg:goB (zp s k) w v0=true
   ·rw [xy hg] at e;have hf:=zdl wf;obtain ⟨y,e1,hy,hin⟩:=zLi hg hf;rw [hin] at e;have hsy:=zNS hv0 e1;rw [hn];refine ⟨w0,zFG ?_⟩;rw [<-qI e];rw [e1] at hf;exact zIR hf (zuB N y _ _ _ (by omega) hy)
   ·rw [xx hg] at e;by_cases hk:zoc w v0.Number=keep
    ·rw [xy hk] at e;rw [<-qI e];exact ⟨w0,wf⟩
    ·rw [xx hk] at e;cases e
  ·cases keep with
   | true=>exact absurd hu (by simp)
   | false=>exact ux u hu
theorem zww (s:List Mes) (a:Msg) (m:Mes):∀(l acc:List Vlu),(zhm s l a m acc).length<=acc.length+l.length
 | [],acc=>by rw [zhm];simp
 | v::l,acc=>by
  rw [zhm];have h1:=zww s a m l (putM ⟨acc,[]⟩ (zgi s v (look a.Values v.Number) (zv m (fldI m v.Number)))).Values;have h2:=zJT acc [] (zgi s v (look a.Values v.Number) (zv m (fldI m v.Number)));simp only [yk];omega
theorem zFP :∀(N:Nat) (b a:Msg) (k:Int),szM b<=N->zaG s a k=true->zaG s b k=true->bdM a->bdM b->smM a->smM b->bdM (zjM s b a k)
 | 0,b,a,k,h,_,_,_,_,_,_=>by rw [zch] at h;omega
 | N+1,b,a,k,wZ,ha,hb,ba,bb,sa,sb'=>by
  obtain ⟨_,_,ra,ha',_⟩:=zbi ha;obtain ⟨_,_,rb,hb',_⟩:=zbi hb;obtain ⟨j1,j2⟩:=ztD ha hb;obtain ⟨a1,⟨a2,a3⟩,a4⟩:=(zja a).1 ba;obtain ⟨b1,⟨b2,b3⟩,b4⟩:=(zja b).1 bb;obtain ⟨sa1,⟨sa2,sa3⟩,sa4⟩:=(zxt a).1 sa;obtain ⟨sb1,⟨sb2,sb3⟩,sb4⟩:=(zxt b).1 sb';rw [zch] at wZ;have wS:(zjM s b a k).Values.length<=a.Values.length+b.Values.length:=by rw [zll];exact zww s a _ _ _
  have hun:(zjM s b a k).Unknown=a.Unknown++b.Unknown:=by rw [zll]
  refine (zja _).2 ⟨by omega,⟨by rw [hun];simp;omega,fun t ht=>by
   rw [hun] at ht;rcases xG.1 ht with h| h
   ·exact a3 t h
   ·exact b3 t h⟩,zen.2 fun x hx=>?_⟩
  have hl:=zwF j1 hx;rw [j2] at hl;cases hlb:look b.Values x.Number with
  | none=>rw [hlb] at hl;exact zen.1 a4 x (zey hl).2
  | some v=>
   rw [hlb] at hl;have e:x=zgi s v (look a.Values x.Number) (zv (zp s k) (fldI (zp s k) x.Number)):=(qI hl).symm;obtain ⟨hvn,hvm⟩:=zey hlb;have bv:=zen.1 b4 v hvm;have sv:=znf.1 sb4 v hvm;rw [e,zhv];cases hla:look a.Values x.Number with
   | none=>exact bv
   | some u=>
    obtain ⟨hun',hum⟩:=zey hla;have bu:=zen.1 a4 u hum;have su:=znf.1 sa4 u hum;obtain ⟨v1,⟨v2,v3⟩,⟨v4,v5⟩,v6,v7⟩:=(zhk v).1 bv;obtain ⟨u1,⟨u2,u3⟩,⟨u4,u5⟩,u6,u7⟩:=(zhk u).1 bu;obtain ⟨q1,⟨q2,q3⟩,q4,q5⟩:=(zxu v).1 sv;obtain ⟨r1,⟨r2,r3⟩,r4,r5⟩:=(zxu u).1 su;simp only;split
    ·refine (zhk _).2 ⟨v1,⟨by simp;omega,fun w hw=>?_⟩,⟨by simp;omega,fun w hw=>?_⟩,by simp;omega,zeE.2 fun w hw=>?_⟩
     ·rcases xG.1 hw with h| h
      ·exact u3 w h
      ·exact v3 w h
     ·rcases xG.1 hw with h| h
      ·exact u5 w h
      ·exact v5 w h
     ·rcases xG.1 hw with h| h
      ·exact zeE.1 u7 w h
      ·exact zeE.1 v7 w h
    ·split
     ·rename_i hrep wR;have fv:=hb' v hvm;have fu:=ha' u hum;rw [hvn] at fv;rw [hun'] at fu;have ov:=zdl fv.2;have ou:=zdl fu.2;refine (zhk _).2 ⟨v1,⟨by simp,by simp⟩,⟨by simp,by simp⟩,?_⟩;cases hvs:v.Subs with
      | nil=>rw [zkf];exact ⟨by simp,by rw [bdMs];trivial⟩
      | cons y ys=>
       cases hus:u.Subs with
       | nil=>rw [zkf];exact ⟨by simp,by rw [bdMs];trivial⟩
       | cons z zs=>
        rw [zkf];simp only;have hy:y∈v.Subs:=by rw [hvs];exact xz
        have hz:z∈u.Subs:=by rw [hus];exact xz
        have hsv:=zdZ hvm;rw [zeO] at hsv;have hsy:=zdY hy;have hj:=zFP N y z _ (by omega) (ou.subs z hz).2 (ov.subs y hy).2 (zeE.1 u7 z hz) (zeE.1 v7 y hy) (zne.1 r5 z hz) (zne.1 q5 y hy);exact ⟨by simp,by rw [bdMs,bdMs];exact ⟨hj,trivial⟩⟩
     ·exact bv
theorem zuJ:∀(l m:List Vlu),szVs (l++m)=szVs l+szVs m
 | [],m=>by rw [xL,szVs];omega
 | v::l,m=>by rw [yo,szVs,szVs,zuJ l m];omega
theorem zGt :∀(N:Nat) (x:Msg) (k:Int) (w:List zaC) (keep:Bool),szM x<=N->bdM x->bdM (zsr s x k w keep)/\szM (zsr s x k w keep)<=szM x
 | 0,x,k,w,keep,h,_=>by rw [zch] at h;omega
 | N+1,x,k,w,keep,wZ,hb=>by
  obtain ⟨b1,⟨b2,b3⟩,b4⟩:=(zja x).1 hb;rw [zch] at wZ;have key:∀v∈x.Values,∀f:Fld,(∀u∈zwZ s v f w keep,bdV u)/\szVs (zwZ s v f w keep)<=szV v:=fun v hv f=>by
   have bv:=zen.1 b4 v hv;obtain ⟨v1,v2,v3,v6,v7⟩:=(zhk v).1 bv;have hsv:=zdZ hv;have hve:=zeO v;rw [zss];split
   ·cases hs:v.Subs with
    | nil=>
     rw [zpn];refine ⟨fun u hu=>?_,?_⟩
     ·rw [yl.1 hu];exact (zhk _).2 ⟨v1,⟨by simp,by simp⟩,⟨by simp,by simp⟩,by simp,by rw [bdMs];trivial⟩
     ·rw [szVs,szVs,zeO];simp only;rw [szMs];omega
    | cons y ys=>
     have hy:y∈v.Subs:=by rw [hs];exact xz
     have hsy:=zdY hy;obtain ⟨p1,p2⟩:=zGt N y f.Of (zmv w v.Number) keep (by omega) (zeE.1 v7 y hy);rw [zpn];refine ⟨fun u hu=>?_,?_⟩
     ·rw [yl.1 hu];exact (zhk _).2 ⟨v1,⟨by simp,by simp⟩,⟨by simp,by simp⟩,by simp,by rw [bdMs,bdMs];exact ⟨p1,trivial⟩⟩
     ·rw [szVs,szVs,zeO];simp only;rw [szMs,szMs];omega
   ·split
    ·refine ⟨(fun u hu=>by rw [yl.1 hu];exact bv),?_⟩;rw [szVs,szVs];omega
    ·exact ⟨(fun u hu=>by cases hu),(by rw [szVs];omega)⟩
  have all:∀l:List Vlu,(∀v∈l,v∈x.Values)->(∀u∈zix s l (zp s k) w keep,bdV u)/\szVs (zix s l (zp s k) w keep)<=szVs l/\(zix s l (zp s k) w keep).length<=l.length:=by
   intro l
   induction l with
   | nil=>intro _;rw [zix];exact ⟨(fun u hu=>by cases hu),xE _,xE _⟩
   | cons v l ih=>
    intro h;obtain ⟨i1,i2,i3⟩:=ih fun u hu=>h u (xA _ hu)
    obtain ⟨k1,k2⟩:=key v (h v xz) (zv (zp s k) (fldI (zp s k) v.Number));have k3:=zHH s v (zv (zp s k) (fldI (zp s k) v.Number)) w keep;rw [zix];refine ⟨fun u hu=>?_,?_,?_⟩
    ·rcases xG.1 hu with hu| hu
     ·exact k1 u hu
     ·exact i1 u hu
    ·rw [zuJ,szVs];omega
    ·rw [xD,yk];omega
  obtain ⟨a1,a2,a3⟩:=all x.Values fun v hv=>hv
  rw [zwX];refine ⟨(zja _).2 ⟨by simp only;omega,⟨?_,?_⟩,zen.2 a1⟩,by rw [zch,zch];simp only;omega⟩
  ·simp only;cases keep<;>simp<;>omega
  ·simp only;cases keep with
   | true=>intro t ht;cases ht
   | false=>exact b3
theorem zEB (h:zqQ s root l=0):zcB s/\0<=root/\root<s.length/\∀x∈l,zaG s x root=true:=by
 unfold zqQ at h;by_cases h0:zmg s root=0
 ·rw [xx (show ¬zmg s root≠0 from fun hh=>hh h0)] at h;obtain ⟨h1,h2,h3⟩:=zBC h0;by_cases ha:l.all (fun x=>zaG s x root)=true
  ·exact ⟨h1,h2,h3,xI.1 ha⟩
  ·rw [xx ha] at h;cases h
 ·rw [xy h0] at h;exact absurd h h0
theorem zJC {s:List Mes} {root:Int} {l:List Msg} (h1:zhI s=true) (h2:0<=root/\root<s.length) (h:∀x∈l,zaG s x root=true):zqQ s root l=0:=by
 have h0:zmg s root=0:=by unfold zmg;rw [h1,xx (by simp),xx (by omega)]
 unfold zqQ;rw [xx (show ¬zmg s root≠0 from fun hh=>hh h0),xy (xI.2 h)]
structure Gd (s:List Mes) (root:Int) (n:Nat) (x:Msg):Prop where
 r:zaG s x root=true
 b:bdM x
 w:wgM x<=n
theorem Gd.s {s:List Mes} {root:Int} {n:Nat} {x:Msg} (h:Gd s root n x) (hn:n<=1048576):smM x:=zML _ x (xE _) (yn h.w hn)
theorem Gd.z {s:List Mes} {root:Int} {n fuel:Nat} {x:Msg} (h:Gd s root n x) (hn:n<fuel):szM x<fuel:=Nat.lt_of_le_of_lt (yn (zGS _ x (xE _)) h.w) hn
theorem Gd.join {s:List Mes} {root:Int} {n m:Nat} {a b:Msg} (ha:Gd s root n a) (hb:Gd s root m b) (hn:n<=1048576) (hm:m<=1048576):Gd s root (n+m) (zjM s b a root):=
 ⟨zut _ b a root (xE _) ha.r hb.r,zFP _ b a root (xE _) ha.r hb.r ha.b hb.b (ha.s hn) (hb.s hm),yn (zFQ _ b a root (xE _) ha.r hb.r) (Nat.add_le_add ha.w hb.w)⟩
theorem Gd.part {s:List Mes} {root:Int} {n:Nat} {a:Msg} (ha:Gd s root n a) (w:List zaC) (keep:Bool):Gd s root n (zsr s a root w keep):=
 ⟨zuB _ a root w keep (xE _) ha.r,(zGt _ a root w keep (xE _) ha.b).1,yn (zGu _ a root w keep (xE _)) ha.w⟩
def zpC (s:List Mes) (root:Int) (b:List UInt8) (d:Int):Msg×Int:=if (zba s root b d).2≠0 then (⟨[],[]⟩,(zba s root b d).2) else (ofM s root b,0)
theorem zrJ (h:(zba s root b d).2=0):argS s root d=0:=by
 unfold zba at h;by_cases h0:argS s root d=0
 ·exact h0
 ·rw [xy h0] at h;exact h
theorem zBy {s:List Mes} {d:Nat} {k:Int} {b:List UInt8} (h:zS s d k b=none):zaZ (zp s k) b=((spl 0 b).1.map (fun r=>⟨r,(vwG (zp s k) r).1,(vwG (zp s k) r).2⟩),0,0):=by
 rw [zfm,zct] at h;unfold zaZ;rw [h.2,zFk fun r hr=>zBf (h.1 r hr)];rfl
theorem zDS {s:List Mes} {root d:Int} (h:argS s root d=0):zhI s=true:=by
 unfold argS at h;cases hr:zhI s with
 | true=>rfl
 | false=>rw [xy hr] at h;omega
theorem zqL {s:List Mes} {root:Int} {b:List UInt8} {d:Int} (h:(zba s root b d).2=0):argS s root d=0/\zS s d.toNat root b=none:=zmI.1 (by unfold is11;simpa using h)
theorem zEf {s:List Mes} {root:Int} {b:List UInt8} {d:Int} (h:argS s root d=0) (hf:zS s d.toNat root b=none):(zba s root b d).2=0:=by
 have:=(zmI (s:=s) (root:=root) (b:=b) (d:=d)).2 ⟨h,hf⟩;unfold is11 at this;simpa using this
theorem zqK (s:List Mes) (root:Int) (b:List UInt8) (d:Int):0<=(zba s root b d).2/\(zba s root b d).2<=255:=by
 have:=zAk s root b d;omega
end Go.Proofs.YtaglemhabeipfaaGreat
