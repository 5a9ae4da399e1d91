/-
  What the plain functions are. No condition.
-/
import Derived.Test.YtaglemhabeipfaaGreatx2P1
import Derived.Test.YtaglemhabeipfaaGreatx2S1
import Derived.Test.YtaglemhabeipfaaGreatx2K3
import Derived.Test.YtaglemhabeipfaaGreatx2K1
set_option autoImplicit true
set_option relaxedAutoImplicit true
namespace Go.Proofs.YtaglemhabeipfaaGreat
open Go.IntKind (i64 u32 u64)
open Go
set_option linter.unusedVariables false
theorem zMr:∀n:Nat,(∀x:Msg,szM x<=n->dM x<szM x)/\(∀l:List Msg,szMs l<=n->dMs l<=szMs l)/\(∀v:Vlu,szV v<=n->dV v<szV v)/\∀l:List Vlu,szVs l<=n->dVs l<=szVs l
 | 0=>⟨fun x h=>by rw [zch] at h;omega,fun l h=>by
   cases l with
   | nil=>simp [dMs]
   | cons x l=>rw [szMs,zch] at h;omega,fun v h=>by rw [zeO] at h;omega,fun l h=>by
   cases l with
   | nil=>simp [dVs]
   | cons x l=>rw [szVs,zeO] at h;omega⟩
 | n+1=>by
  obtain ⟨i1,i2,i3,i4⟩:=zMr n;have h2:∀l:List Msg,szMs l<=n->dMs l<=szMs l:=i2;have h4:∀l:List Vlu,szVs l<=n->dVs l<=szVs l:=i4;have k1:∀x:Msg,szM x<=n+1->dM x<szM x:=fun x h=>by rw [zch] at h|-;rw [zFy];have:=h4 x.Values (by omega);omega
  have k3:∀v:Vlu,szV v<=n+1->dV v<szV v:=fun v h=>by rw [zeO] at h|-;rw [zBN];have:=h2 v.Subs (by omega);omega
  refine ⟨k1,fun l=>?_,k3,fun l=>?_⟩
  ·induction l with
   | nil=>intro _;simp [dMs]
   | cons x l ih=>intro h;rw [szMs] at h|-;rw [dMs];have:=ih (by omega);have:=k1 x (by omega);omega
  ·induction l with
   | nil=>intro _;simp [dVs]
   | cons x l ih=>intro h;rw [szVs] at h|-;rw [dVs];have:=ih (by omega);have:=k3 x (by omega);omega
theorem zFz (x:Msg):dM x<szM x:=(zMr (szM x)).1 x (xE _)
theorem zGK:∀(fuel:Nat) (x:Msg) (ki:Nat),szM x<fuel->bdM x->dM x<=ki->ki<=1048576->zfp fuel x ki=some ((dM x:Nat):Int)
 | 0,x,_,h,_,_,_=>by omega
 | fuel+1,x,ki,hs,hb,hd,hm=>by
  obtain ⟨b1,_,b4⟩:=(zja x).1 hb;rw [zch] at hs;rw [zFy] at hd|-;show ziJ (zfp fuel) x ki=_;unfold ziJ;have inner:∀(v:Vlu),v∈x.Values->∀(c i d:Nat),i+c=v.Subs.length->d<=ki->zgv ki (zfp fuel) v d i=some (.inl ((max d (dMs (v.Subs.drop i)):Nat):Int)):=by
   intro v hv c;have wZ:=zdZ hv;have hdv:=zvf hv;obtain ⟨_,_,_,c1,c2⟩:=(zhk _).1 (zen.1 b4 _ hv);rw [zeO] at wZ;rw [zBN] at hdv
   induction c with
   | zero=>
    intro i d hi hdm;have e:v.Subs.drop i=[]:=yK (by omega);rw [e,dMs];refine zsO ?_;unfold zfr;rw [uN,Nat.max_zero]
   | succ c ih=>
    intro i d hi hdm;have hil:i<v.Subs.length:=by omega
    have hm2:=xH hil;have s2:=zdY hm2;have d2:=zAq hm2;rw [yF hil,dMs];have hr:=zGK fuel v.Subs[i] (ki - 1) (by omega) (zeE.1 c2 _ hm2) (by omega) (by omega);have hmost:i64.wrap ((ki:Int) - 1)=((ki - 1:Nat):Int):=by rw [uO];omega
    have hw:i64.wrap (1+((dM v.Subs[i]:Nat):Int))=1+((dM v.Subs[i]:Nat):Int):=by rw [uO]
    have hmax:(if (d:Int)<1+((dM v.Subs[i]:Nat):Int) then 1+((dM v.Subs[i]:Nat):Int) else (d:Int))=((max d (1+dM v.Subs[i]):Nat):Int):=by
     split<;>omega
    refine (zsN (deep3':=((max d (1+dM v.Subs[i]):Nat):Int)) (v3':=((i+1:Nat):Int)) ?_).trans ?_
    ·unfold zfr;rw [uM,zag rfl hil,sb,uN,hmost,hr,sb,hw,hmax,uN,uO];push_cast;rfl
    ·rw [ih (i+1) (max d (1+dM v.Subs[i])) (by omega) (by omega)];congr 3;omega
  have outer:∀(c i d:Nat),i+c=x.Values.length->d<=ki->zgu ki (zfp fuel) x d i=some (.inl ((max d (dVs (x.Values.drop i)):Nat):Int)):=by
   intro c
   induction c with
   | zero=>
    intro i d hi hdm;have e:x.Values.drop i=[]:=yK (by omega);rw [e,dVs];refine zsM ?_;unfold zfq;rw [uN,Nat.max_zero]
   | succ c ih=>
    intro i d hi hdm;have hil:i<x.Values.length:=by omega
    have hmem:=xH hil;have hdv:=zvf hmem;rw [yF hil,dVs];have h2:=inner x.Values[i] hmem (x.Values[i]).Subs.length 0 d (xR _) hdm;rw [ya,<-zBN] at h2;have h2':zgv ki (zfp fuel) x.Values[i] d 0=_:=h2;refine (zsL (deep':=((max d (dV x.Values[i]):Nat):Int)) (v':=((i+1:Nat):Int)) ?_).trans ?_
    ·unfold zfq;rw [uM,zag rfl hil,sb,h2',sb,uO];push_cast;rfl
    ·rw [ih (i+1) (max d (dV x.Values[i])) (by omega) (by omega)];congr 3;omega
  have h:=outer x.Values.length 0 0 (xR _) (xP _);have h':zgu ki (zfp fuel) x 0 0=_:=h;rw [h',sb,ya,Nat.zero_max]
theorem zIb (hf:szM x<fuel) (hb:bdM x) (hd:dM x<=131072):zlC fuel x=some ((dM x:Nat):Int):=by
 unfold zlC;have h:=zGK fuel x 131072 hf hb hd (by omega);have h':zfp fuel x 131072=_:=h;rw [h',sb]
theorem zxy (hf:szM x<fuel) (hb:bdM x) (hd:dM x<=131072):zjs fuel x=some true:=by
 unfold zjs;rw [zIb hf hb hd,sb];congr 1;simp;omega
theorem zHf (ha:a.length<=1152921504606846976):zbD a b=some (decide (a=b)):=by
 unfold zbD;by_cases hl:a.length=b.length
 ·rw [itF (by simp [hl])];have h:=znT a b (fun i=>zaV a b i) hl (by
    refine zer ?_;unfold zaF;rw [uL])
   (fun i hi hi'=>by
    by_cases hp:a[i]=b[i]
    ·rw [xy hp];refine zhr ?_;unfold zaF;rw [uM,zag rfl hi,sb,zag rfl hi',sb,itF (by simp [hp]),uO];push_cast;rfl
    ·rw [xx hp];refine zer ?_;unfold zaF;rw [uM,zag rfl hi,sb,zag rfl hi',sb,itT (by simp [hp])])
   a.length 0 (by omega)
  have h':zaV a b 0=_:=h;rw [h',sb];simp only [ya];by_cases e:a=b
  ·rw [xy e];simp [e]
  ·rw [xx e];simp [e]
 ·rw [uM];have:a≠b:=fun e=>hl (by rw [e])
  simp [this]
theorem zyI (ha:a.length<=1152921504606846976):zbl a b=some (decide (a=b)):=by
 unfold zbl;by_cases hl:a.length=b.length
 ·rw [itF (by simp [hl])];have h:=znT a b (fun i=>zaU a b i) hl (by
    refine zeq ?_;unfold zaE;rw [uL])
   (fun i hi hi'=>by
    by_cases hp:a[i]=b[i]
    ·rw [xy hp];refine zhq ?_;unfold zaE;rw [uM,zag rfl hi,sb,zag rfl hi',sb,itF (by simp [hp]),uO];push_cast;rfl
    ·rw [xx hp];refine zeq ?_;unfold zaE;rw [uM,zag rfl hi,sb,zag rfl hi',sb,itT (by simp [hp])])
   a.length 0 (by omega)
  have h':zaU a b 0=_:=h;rw [h',sb];simp only [ya];by_cases e:a=b
  ·rw [xy e];simp [e]
  ·rw [xx e];simp [e]
 ·rw [uM];have:a≠b:=fun e=>hl (by rw [e])
  simp [this]
section
open Classical
theorem zeh {α:Type} {x y:α} (h:x≠y):znb x y=false:=by
 cases hq:znb x y with
 | false=>rfl
 | true=>exact absurd (zgs.1 hq) h
theorem zGM:∀(fuel:Nat),(∀x y:Msg,2*szM x<fuel->bdM x->zfI fuel x y=some (znb x y))/\(∀v u:Vlu,2*szV v<fuel->bdV v->zdi fuel v u=some (znb v u))/\
  (∀a b:List Vlu,2*szVs a+1<fuel->a.length<=1152921504606846976->bdVs a->zE fuel a b=some (znb a b))/\
  ∀a b:List Msg,2*szMs a+1<fuel->a.length<=1152921504606846976->bdMs a->zN fuel a b=some (znb a b)
 | 0=>⟨fun x y h=>by omega,fun v u h=>by omega,fun a b h=>by omega,fun a b h=>by omega⟩
 | fuel+1=>by
  obtain ⟨ih1,ih2,ih3,ih4⟩:=zGM fuel;refine ⟨fun x y hs hb=>?_,fun v u hs hb=>?_,fun a b hs hl hb=>?_,fun a b hs hl hb=>?_⟩
  ·obtain ⟨b1,⟨b2,b3⟩,b4⟩:=(zja x).1 hb;rw [zch] at hs;show zjZ (zfI fuel) (zdi fuel) (zE fuel) (zN fuel) x y=_;unfold zjZ;rw [ih3 x.Values y.Values (by omega) (by omega) b4,sb];by_cases e1:x.Values=y.Values
   ·rw [zgs.2 e1,uJ,zyI (by omega),sb,sb];by_cases e2:x.Unknown=y.Unknown
    ·rw [xV e2,zgs.2 (by cases x;cases y;simp only at e1 e2;rw [e1,e2])]
    ·rw [ye e2,zeh fun e=>e2 (by rw [e])]
   ·rw [zeh e1,uK,sb,zeh fun e=>e1 (by rw [e])]
  ·obtain ⟨b0,⟨b1,_⟩,⟨b2,b3⟩,b4,b5⟩:=(zhk v).1 hb;rw [zeO] at hs;show zfJ (zfI fuel) (zdi fuel) (zE fuel) (zN fuel) v u=_;unfold zfJ;by_cases e0:v.Number=u.Number
   ·rw [itT (by simp [e0]),zHf (by omega),sb];by_cases e1:v.Words=u.Words
    ·rw [itT (by simp [e1]),zyI (by omega),sb];by_cases e2:v.Texts=u.Texts
     ·rw [itT (by simp [e2]),ih4 v.Subs u.Subs (by omega) (by omega) b5,sb,sb];by_cases e3:v.Subs=u.Subs
      ·rw [zgs.2 e3,zgs.2 (by cases v;cases u;simp only at e0 e1 e2 e3;rw [e0,e1,e2,e3])]
      ·rw [zeh e3,zeh fun e=>e3 (by rw [e])]
     ·rw [itF (by simp [e2]),sb,zeh fun e=>e2 (by rw [e])]
    ·rw [itF (by simp [e1]),sb,zeh fun e=>e1 (by rw [e])]
   ·rw [itF (by simp [e0]),sb,zeh fun e=>e0 (by rw [e])]
  ·show zJ (zfI fuel) (zdi fuel) (zE fuel) (zN fuel) a b=_;unfold zJ;by_cases hll:a.length=b.length
   ·rw [itF (by simp [hll])];have hv:∀(i:Nat) (hi:i<a.length) (hi':i<b.length),zdi fuel a[i] b[i]=some (znb a[i] b[i]):=fun i hi hi'=>by
     have hm:=xH hi;have:=zdZ hm;exact ih2 _ _ (by omega) (zen.1 hb _ hm)
    have h:=znT a b (fun i=>zD (zdi fuel) a b i) hll (by
      refine zay ?_;unfold zz;rw [uL])
     (fun i hi hi'=>by
      by_cases hp:a[i]=b[i]
      ·rw [xy hp];refine zbt ?_;unfold zz;rw [uM,zag rfl hi,sb,zag rfl hi',sb,hv i hi hi',sb,itF (by rw [zgs.2 hp];rfl),uO];push_cast;rfl
      ·rw [xx hp];refine zay ?_;unfold zz;rw [uM,zag rfl hi,sb,zag rfl hi',sb,hv i hi hi',sb,itT (by rw [zeh hp];rfl)])
     a.length 0 (by omega)
    have h':zD (zdi fuel) a b 0=_:=h;rw [h',sb];simp only [ya];by_cases e:a=b
    ·rw [xy e,zgs.2 e]
    ·rw [xx e,zeh e]
   ·rw [uM,zeh fun e=>hll (by rw [e])]
  ·show zT (zfI fuel) (zdi fuel) (zE fuel) (zN fuel) a b=_;unfold zT;by_cases hll:a.length=b.length
   ·rw [itF (by simp [hll])];have hv:∀(i:Nat) (hi:i<a.length) (hi':i<b.length),zfI fuel a[i] b[i]=some (znb a[i] b[i]):=fun i hi hi'=>by
     have hm:=xH hi;have:=zdY hm;exact ih1 _ _ (by omega) (zeE.1 hb _ hm)
    have h:=znT a b (fun i=>zK (zfI fuel) a b i) hll (by
      refine zaN ?_;unfold zF;rw [uL])
     (fun i hi hi'=>by
      by_cases hp:a[i]=b[i]
      ·rw [xy hp];refine zbV ?_;unfold zF;rw [uM,zag rfl hi,sb,zag rfl hi',sb,hv i hi hi',sb,itF (by rw [zgs.2 hp];rfl),uO];push_cast;rfl
      ·rw [xx hp];refine zaN ?_;unfold zF;rw [uM,zag rfl hi,sb,zag rfl hi',sb,hv i hi hi',sb,itT (by rw [zeh hp];rfl)])
     a.length 0 (by omega)
    have h':zK (zfI fuel) a b 0=_:=h;rw [h',sb];simp only [ya];by_cases e:a=b
    ·rw [xy e,zgs.2 e]
    ·rw [xx e,zeh e]
   ·rw [uM,zeh fun e=>hll (by rw [e])]
end
theorem zDo (y:Msg) (hf:2*szM x<fuel) (hb:bdM x) (hd:dM x<=131072):zkU fuel x y=some (znb x y):=by
 unfold zkU;rw [zxy (by omega) hb hd,sb,uJ,(zGM fuel).1 x y hf hb,sb,sb]
theorem zEh (h:a.length*80<=140737488355328):zcf a=some a:=by
 unfold zcf;rw [zeD (by simp;omega),sb,xL]
theorem zEg (h:a.length*48<=140737488355328):zcR a=some a:=by
 unfold zcR;rw [zeD (by simp;omega),sb,xL]
theorem zyF (h:a.length*16<=140737488355328):zco a=some a:=by
 unfold zco;rw [zeD (by simp;omega),sb,xL]
theorem zHc (h:a.length*8<=140737488355328):zdW a=some a:=by
 unfold zdW;rw [zeD (by simp;omega),sb,xL]
theorem zxq {α:Type}:∀(l:List α) (i:Nat) (h:i<l.length),l.set i l[i]=l
 | [],i,h=>by simp at h
 | x::l,0,h=>rfl
 | x::l,i+1,h=>by simp only [List.set_cons_succ,uv];rw [zxq l i (by simpa using h)]
theorem zGJ:∀(fuel:Nat),(∀x:Msg,szM x<fuel->bdM x->zib fuel x=some x)/\∀v:Vlu,szV v<fuel->bdV v->zfF fuel v=some v
 | 0=>⟨fun x h=>by omega,fun v h=>by omega⟩
 | fuel+1=>by
  obtain ⟨ih1,ih2⟩:=zGJ fuel;refine ⟨fun x hs hb=>?_,fun v hs hb=>?_⟩
  ·obtain ⟨b1,⟨b2,b3⟩,b4⟩:=(zja x).1 hb;rw [zch] at hs;show zmu (zib fuel) (zfF fuel) x=_;unfold zmu;have hloop:∀(c i:Nat),i+c=x.Values.length->zfG (zfF fuel) x.Values x.Values i=some x.Values:=by
    intro c
    induction c with
    | zero=>
     intro i hi;refine zrx ?_;unfold zgQ;rw [uN]
    | succ c ih=>
     intro i hi;have hil:i<x.Values.length:=by omega
     have hm:=xH hil;have:=zdZ hm;refine (zrw (v':=x.Values) (v2':=((i+1:Nat):Int)) ?_).trans (ih (i+1) (by omega));unfold zgQ;rw [uM,zag rfl hil,sb,ih2 _ (by omega) (zen.1 b4 _ hm),sb,sb,uO,xK,zxq _ _ hil];push_cast;rfl
   have h:=hloop x.Values.length 0 (xR _);have h':zfG (zfF fuel) x.Values x.Values 0=_:=h;rw [zEh (by omega),sb,zyF (by omega),sb,h',sb];cases x;rfl
  ·obtain ⟨b0,⟨b1,_⟩,⟨b2,b3⟩,b4,b5⟩:=(zhk v).1 hb;rw [zeO] at hs;show zhM (zib fuel) (zfF fuel) v=_;unfold zhM;have hloop:∀(c i:Nat),i+c=v.Subs.length->zdo (zib fuel) v.Subs v.Subs i=some v.Subs:=by
    intro c
    induction c with
    | zero=>
     intro i hi;refine znj ?_;unfold zes;rw [uN]
    | succ c ih=>
     intro i hi;have hil:i<v.Subs.length:=by omega
     have hm:=xH hil;have:=zdY hm;refine (zni (v2':=v.Subs) (v3':=((i+1:Nat):Int)) ?_).trans (ih (i+1) (by omega));unfold zes;rw [uM,zag rfl hil,sb,ih1 _ (by omega) (zeE.1 b5 _ hm),sb,sb,uO,xK,zxq _ _ hil];push_cast;rfl
   have h:=hloop v.Subs.length 0 (xR _);have h':zdo (zib fuel) v.Subs v.Subs 0=_:=h;rw [zHc (by omega),sb,zyF (by omega),sb,zEg (by omega),sb,h',sb];cases v;rfl
theorem zKx (hf:szM x<fuel) (hb:bdM x) (hd:dM x<=131072):ztY fuel x=some x:=by
 unfold ztY;rw [zxy hf hb hd,sb,uK,(zGJ fuel).1 x hf hb,sb]
theorem zLI:∀a<256,zsX ((a:Nat):Int)=some (if a<128 then (1,(a:Int)) else if a/32=6 then (2,((a%32:Nat):Int)) else if a/16=14 then (3,((a%16:Nat):Int)) else if a/8=30 then (4,((a%8:Nat):Int)) else (0,0)):=by decide+kernel
theorem zBb (w k:Nat) (h:k<=32):shrI .u32 (w:Int) (k:Int)=((w/2^k:Nat):Int):=zsG (k:= .u32) (a:=w) (b:=k) (by simpa [IntKind.bits] using h)
theorem zvt (w:Nat):znm (w:Int)=some (if w<128 then 1 else if w<2048 then 2 else if 55296<=w/\w<=57343 then 0 else if w<65536 then 3 else if w<=1114111 then 4 else 0):=by
 unfold znm;have e7:shrI .u32 (w:Int) 7=((w/128:Nat):Int):=zBb w 7 (by omega);have e11:shrI .u32 (w:Int) 11=((w/2048:Nat):Int):=zBb w 11 (by omega);have e16:shrI .u32 (w:Int) 16=((w/65536:Nat):Int):=zBb w 16 (by omega);rw [e7,e11,e16];by_cases h1:w<128
 ·rw [uM,xy h1]
 ·rw [uN,xx h1];by_cases h2:w<2048
  ·rw [uM,xy h2]
  ·rw [uN,xx h2];by_cases h3:55296<=w/\w<=57343
   ·rw [uM,xy h3]
   ·rw [uN,xx h3];by_cases h4:w<65536
    ·rw [uM,xy h4]
    ·rw [uN,xx h4];by_cases h5:w<=1114111
     ·rw [uM,xy h5]
     ·rw [uN,xx h5]
theorem zHu:∀c<256,shrI .u8 ((c:Nat):Int) 6=((c/64:Nat):Int)/\u32.wrap (andI .u8 ((c:Nat):Int) 63)=((c%64:Nat):Int):=by decide+kernel
theorem zkN {v:List UInt8} {w i:Nat} (h:i<v.length) (hv:v.length<=1000) (hw:w<=1000000):
  zcq v w i=if cont v[i] then zcq v ((64*w+v[i].toNat%64:Nat):Int) ((i+1:Nat):Int) else some (.inr ()):=by
 have hc:=v[i].toNat_lt;obtain ⟨e1,e2⟩:=zHu v[i].toNat (by omega);have hb:zfO v w i=if cont v[i] then some (.inl (((64*w+v[i].toNat%64:Nat):Int),((i+1:Nat):Int))) else some (.inr (.inr ())):=by
  unfold zfO;rw [uM,zag rfl h,sb,e1,e2];by_cases hk:cont v[i]=true
  ·rw [xy hk];unfold cont at hk;simp only [yc] at hk;rw [uN,uO];have e3:shlI .u32 (w:Int) 6=((w*64:Nat):Int):=by
    have:shlI .u32 (w:Int) 6=((w*64%4294967296:Nat):Int):=by simp [shlI,IntKind.bits,zDL]
    rw [this,qF (by omega)]
   rw [e3,zvx rfl (by simp [IntKind.bits];omega) (by simp [IntKind.bits];omega),pN,zwU _ w 6 (by omega)];have e4:v[i].toNat%64+w*2^6=64*w+v[i].toNat%64:=by omega
   rw [e4];rfl
  ·rw [xx hk];unfold cont at hk;simp only [yc] at hk;rw [uM]
 by_cases hk:cont v[i]=true
 ·rw [xy hk] at hb|-;exact zuY hb
 ·rw [xx hk] at hb|-;exact zon hb
theorem zsb (h:v.length<=i):zcq v w i=some (.inl (w:Int)):=by
 refine zon ?_;unfold zfO;rw [uN]
theorem zOp {w:Nat} {b:UInt8} (hw:w<=100):zcq [b] w 0=if cont b then some (.inl ((64*w+b.toNat%64:Nat):Int)) else some (.inr ()):=by
 have h:=zkN (v:=[b]) (w:=w) (i:=0) (by simp) (by simp) (by omega);refine Eq.trans h ?_;simp only [uw];rw [zsb (by simp)]
theorem zOq {w:Nat} {b c:UInt8} (hw:w<=100):zcq [b,c] w 0=if cont b then (if cont c then some (.inl ((64*(64*w+b.toNat%64)+c.toNat%64:Nat):Int)) else some (.inr ())) else some (.inr ()):=by
 have h:=zkN (v:=[b,c]) (w:=w) (i:=0) (by simp) (by simp) (by omega);refine Eq.trans h ?_;rw [zkN (i:=0+1) (by simp) (by simp) (by omega)];simp only [uw,uv,xR];rw [zsb (by simp)]
theorem zOr {w:Nat} {b c d:UInt8} (hw:w<=100):zcq [b,c,d] w 0=if cont b then (if cont c then (if cont d then some (.inl ((64*(64*(64*w+b.toNat%64)+c.toNat%64)+d.toNat%64:Nat):Int)) else some (.inr ())) else some (.inr ())) else some (.inr ()):=by
 have h:=zkN (v:=[b,c,d]) (w:=w) (i:=0) (by simp) (by simp) (by omega);refine Eq.trans h ?_;rw [zkN (i:=0+1) (by simp) (by simp) (by omega),zkN (i:=0+1+1) (by simp) (by simp) (by omega)];simp only [uw,uv,xR];rw [zsb (by simp)]
theorem zJK (n:Nat) (h:∀m,m≠n->isN m l=false):nxt l=if isN n l then n else 0:=by
 by_cases hn:isN n l=true
 ·rw [xy hn,zNx hn]
 ·rw [xx hn];by_cases h0:nxt l=0
  ·exact h0
  ·have h1:=zvv h0;by_cases h2:nxt l=n
   ·rw [h2] at h1;exact absurd h1 hn
   ·rw [h _ h2] at h1;cases h1
theorem zmR (n:Nat) (h:n=1/\a.toNat<128\/n=2/\192<=a.toNat/\a.toNat<224\/n=3/\224<=a.toNat/\a.toNat<240\/n=4/\240<=a.toNat):nxt (a::t)=if isN n (a::t) then n else 0:=by
 refine zJK n fun m hm=>?_
 cases hh:isN m (a::t) with
 | false=>rfl
 | true=>
  obtain ⟨a',t',e,_,g⟩:=zmJ hh;cases e;omega
theorem zFW (b:List UInt8):znl b=some ((nxt b:Nat):Int):=by
 cases b with
 | nil=>rfl
 | cons a t=>
  have ha:=a.toNat_lt;unfold znl;have e00:idx (a::t) (0:Int)=some a:=zag (n:=0) rfl (by simp);rw [uN,e00,sb];rw [zLI _ (by omega),sb];by_cases h1:a.toNat<128
  ·rw [zmR 1 (.inl ⟨rfl,h1⟩),xy h1];simp only;rw [uN,zhl (i:=1) (j:=1) (a:=1) (b:=1) rfl rfl (by omega) (by simp),sb];have e0:zcq (((a::t).drop 1).take (1 - 1)) (a.toNat:Int) 0=some (.inl (a.toNat:Int)):=zsb (i:=0) (by simp);rw [e0,sb];simp only;rw [zvt,sb,xy h1,uK];simp [isN,is1,h1]
  ·rw [xx h1];by_cases h2:a.toNat/32=6
   ·rw [zmR 2 (.inr (.inl ⟨rfl,by omega,by omega⟩)),xy h2];simp only
    match t with
    | []=>rw [itT (by simp)];rfl
    | b::t=>
     rw [uN,zhl (i:=1) (j:=2) (a:=1) (b:=2) rfl rfl (by omega) (by simp),sb];have e0:=zOp (w:=a.toNat%32) (b:=b) (by omega);have e0':zcq (((a::b::t).drop 1).take (2 - 1)) ((a.toNat%32:Nat):Int) 0=_:=e0;rw [e0'];have hb:=b.toNat_lt;by_cases c1:cont b=true
     ·rw [xy c1,sb];simp only;have hn:=zvt (64*(a.toNat%32)+b.toNat%64);simp only [isN,is2,c1,qJ,yc];simp only [cont,yc] at c1;by_cases h:194<=a.toNat
      ·rw [xx (by omega),xy (by omega)] at hn;rw [hn,sb,uK,xy (by omega)];rfl
      ·rw [xy (by omega)] at hn;rw [hn,sb,uJ,xx (by omega)];rfl
     ·rw [xx c1,sb];simp only;simp [isN,is2,c1]
   ·rw [xx h2];by_cases h3:a.toNat/16=14
    ·rw [zmR 3 (.inr (.inr (.inl ⟨rfl,by omega,by omega⟩))),xy h3];simp only
     match t with
     | []=>rw [itT (by simp)];rfl
     | [b]=>rw [itT (by simp)];rfl
     | b::c::t=>
      rw [uN,zhl (i:=1) (j:=3) (a:=1) (b:=3) rfl rfl (by omega) (by simp),sb];have e0:=zOq (w:=a.toNat%16) (b:=b) (c:=c) (by omega);have e0':zcq (((a::b::c::t).drop 1).take (3 - 1)) ((a.toNat%16:Nat):Int) 0=_:=e0;rw [e0'];have hb:=b.toNat_lt;have hc:=c.toNat_lt;by_cases c1:cont b=true
      ·rw [xy c1];by_cases c2:cont c=true
       ·rw [xy c2,sb];simp only;have hn:=zvt (64*(64*(a.toNat%16)+b.toNat%64)+c.toNat%64);simp only [isN,is3,c1,c2,qr,yc];simp only [cont,yc] at c1 c2;by_cases h:(a.toNat=224->160<=b.toNat)/\(a.toNat=237->b.toNat<160)
        ·rw [xx (by omega),xx (by omega),xx (by omega),xy (by omega)] at hn;rw [hn,sb,uK,xy (by omega)];rfl
        ·by_cases g:64*(64*(a.toNat%16)+b.toNat%64)+c.toNat%64<2048
         ·by_cases g':64*(64*(a.toNat%16)+b.toNat%64)+c.toNat%64<128
          ·rw [xy g'] at hn;rw [hn,sb,uJ,xx (by omega)];rfl
          ·rw [xx g',xy g] at hn;rw [hn,sb,uJ,xx (by omega)];rfl
         ·rw [xx (by omega),xx g,xy (by omega)] at hn;rw [hn,sb,uJ,xx (by omega)];rfl
       ·rw [xx c2,sb];simp only;simp [isN,is3,c2]
      ·rw [xx c1,sb];simp only;simp [isN,is3,c1]
    ·rw [xx h3];by_cases h4:a.toNat/8=30
     ·rw [zmR 4 (.inr (.inr (.inr ⟨rfl,by omega⟩))),xy h4];simp only
      match t with
      | []=>rw [itT (by simp)];rfl
      | [b]=>rw [itT (by simp)];rfl
      | [b,c]=>rw [itT (by simp)];rfl
      | b::c::d::t=>
       rw [uN,zhl (i:=1) (j:=4) (a:=1) (b:=4) rfl rfl (by omega) (by simp),sb];have e0:=zOr (w:=a.toNat%8) (b:=b) (c:=c) (d:=d) (by omega);have e0':zcq (((a::b::c::d::t).drop 1).take (4 - 1)) ((a.toNat%8:Nat):Int) 0=_:=e0;rw [e0'];have hb:=b.toNat_lt;have hc:=c.toNat_lt;have hd:=d.toNat_lt;by_cases c1:cont b=true
       ·rw [xy c1];by_cases c2:cont c=true
        ·rw [xy c2];by_cases c3:cont d=true
         ·rw [xy c3,sb];simp only;have hn:=zvt (64*(64*(64*(a.toNat%8)+b.toNat%64)+c.toNat%64)+d.toNat%64);simp only [isN,is4,c1,c2,c3,qr,yc];simp only [cont,yc] at c1 c2 c3;by_cases h:a.toNat<245/\(a.toNat=240->144<=b.toNat)/\(a.toNat=244->b.toNat<144)
          ·rw [xx (by omega),xx (by omega),xx (by omega),xx (by omega),xy (by omega)] at hn;rw [hn,sb,uK,xy (by omega)];rfl
          ·have hw:¬(65536<=64*(64*(64*(a.toNat%8)+b.toNat%64)+c.toNat%64)+d.toNat%64/\64*(64*(64*(a.toNat%8)+b.toNat%64)+c.toNat%64)+d.toNat%64<=1114111):=by omega
           generalize 64*(64*(64*(a.toNat%8)+b.toNat%64)+c.toNat%64)+d.toNat%64=w at hn hw
           have hx:∃x:Int,znm w=some x/\x≠4:=⟨_,hn,by (repeat' split)<;>omega⟩;obtain ⟨x,hx,h4⟩:=hx;rw [hx,sb,uM,xx (by omega)];rfl
         ·rw [xx c3,sb];simp only;simp [isN,is4,c3]
        ·rw [xx c2,sb];simp only;simp [isN,is4,c2]
       ·rw [xx c1,sb];simp only;simp [isN,is4,c1]
     ·rw [xx h4,uJ];by_cases h5:240<=a.toNat
      ·rw [zmR 4 (.inr (.inr (.inr ⟨rfl,h5⟩)))];cases hh:isN 4 (a::t) with
       | false=>rfl
       | true=>
        match t,hh with
        | b::c::d::t,hh=>simp only [isN,is4,yc] at hh;omega
      ·by_cases h0:nxt (a::t)=0
       ·rw [h0];rfl
       ·obtain ⟨a',t',e,_,g⟩:=zmJ (zvv h0);cases e;omega
theorem zIk (hb:b.length<=1152921504606846976) (l:List UInt8):∀(a c:Nat),c<=a->a<=b.length->l=b.drop a->
  zgU b a c ((nxt l:Nat):Int)=some (((a+(pre4 l).1:Nat):Int),((c+(pre4 l).2:Nat):Int)):=by
 refine zJS (fun l=>∀(a c:Nat),c<=a->a<=b.length->l=b.drop a->zgU b a c ((nxt l:Nat):Int)=some (((a+(pre4 l).1:Nat):Int),((c+(pre4 l).2:Nat):Int))) ?_ ?_ l
 ·intro l h a c hc ha hl;rw [h,zHN h];refine zva ?_;unfold zgT;rw [uK];rfl
 ·intro l h ih a c hc ha hl;subst hl;have h4:=zLG (b.drop a);have hle:=zwN (b.drop a);simp only [yi] at hle;have e1:(b.drop a).drop (nxt (b.drop a))=b.drop (a+nxt (b.drop a)):=by rw [yA]
  refine (zuZ (atv':=((a+nxt (b.drop a):Nat):Int)) (points':=((c+1:Nat):Int)) (size':=((nxt (b.drop (a+nxt (b.drop a))):Nat):Int)) ?_).trans ?_
  ·unfold zgT;rw [uM,uO,zrK (a:=a+nxt (b.drop a)) (by push_cast;rfl) rfl (by omega),sb,zFW,sb,uO];rfl
  ·rw [<-e1,ih (a+nxt (b.drop a)) (c+1) (by omega) (by omega) e1,zLN h];simp only [ph,pO 1]
theorem zKG (hb:b.length<=1152921504606846976):zpH b=some (((pre4 b).1:Int),((pre4 b).2:Int)):=by
 unfold zpH;rw [zFW,sb];have h:=zIk hb b 0 0 (xE _) (xP _) rfl;simp only [xR] at h;have h':zgU b 0 0 ((nxt b:Nat):Int)=some (((pre4 b).1:Int),((pre4 b).2:Int)):=h;rw [h',sb]
theorem zIf (hb:b.length<=1152921504606846976):znk b=some ((pre4 b).1:Int):=by
 unfold znk;rw [zKG hb,sb]
theorem zuf (hb:b.length<=1152921504606846976):zkV b=some (ziB b):=by
 unfold zkV ziB;rw [zIf hb,sb,zFs]
def zNv:List Str:=[[],[105,110,116,51,50],[105,110,116,54,52],[117,105,110,116,51,50],[117,105,110,116,54,52],[115,105,110,116,51,50],[115,105,110,116,54,52],[98,111,111,108],[101,110,117,109],[102,105,120,101,100,51,50],[115,102,105,120,101,100,51,50],[102,108,111,97,116],[102,105,120,101,100,54,52],[115,102,105,120,101,100,54,52],[100,111,117,98,108,101],[115,116,114,105,110,103],[98,121,116,101,115],[109,101,115,115,97,103,101]]
def zJj (k:Int):Str:=(zNv[k.toNat]?).getD []
def kT:List (Int×zw):=[(1,⟨[105,110,116,51,50],0⟩),(2,⟨[105,110,116,54,52],0⟩),(3,⟨[117,105,110,116,51,50],0⟩),(4,⟨[117,105,110,116,54,52],0⟩),(5,⟨[115,105,110,116,51,50],0⟩),(6,⟨[115,105,110,116,54,52],0⟩),(7,⟨[98,111,111,108],0⟩),(8,⟨[101,110,117,109],0⟩),(9,⟨[102,105,120,101,100,51,50],5⟩),(10,⟨[115,102,105,120,101,100,51,50],5⟩),(11,⟨[102,108,111,97,116],5⟩),(12,⟨[102,105,120,101,100,54,52],1⟩),(13,⟨[115,102,105,120,101,100,54,52],1⟩),(14,⟨[100,111,117,98,108,101],1⟩),(15,⟨[115,116,114,105,110,103],2⟩),(16,⟨[98,121,116,101,115],2⟩),(17,⟨[109,101,115,115,97,103,101],2⟩)]
theorem zCs:zln=some kT:=rfl
theorem zuD (h:zbJ k=true):k=1\/k=2\/k=3\/k=4\/k=5\/k=6\/k=7\/k=8\/k=9\/k=10\/k=11\/k=12\/k=13\/k=14\/k=15\/k=16\/k=17:=by
 have:=yv h;omega
theorem zNg (h:zbJ k=true):mget kT k=some ⟨zJj k,zau k⟩:=by
 rcases zuD h with rfl| rfl| rfl| rfl| rfl| rfl| rfl| rfl| rfl| rfl| rfl| rfl| rfl| rfl| rfl| rfl| rfl<;>rfl
theorem zLo (h:e∈kT):zbJ e.1=true/\e.2=⟨zJj e.1,zau e.1⟩:=by
 have:kT.all (fun e=>zbJ e.1&&decide (e.2=⟨zJj e.1,zau e.1⟩))=true:=by decide
 have h1:=xI.1 this e h;simp only [xB,yc] at h1;exact h1
theorem zLp (h:zbJ k=false):mget kT k=none:=by
 cases hg:mget kT k with
 | none=>rfl
 | some x=>
  have mem:∀{m:List (Int×zw)} {x:zw},mget m k=some x->(k,x)∈m:=fun {m x} hg=>by
   induction m with
   | nil=>cases hg
   | cons p m ih=>
    rw [mget] at hg;split at hg
    ·rename_i e;cases hg;rw [e];exact xz
    ·exact xA _ (ih hg)
  have h1:=(zLo (mem hg)).1;simp only at h1;rw [h] at h1;cases h1
theorem zCv (k:Int):zkM k=some (if zbJ k then (zau k,0) else (0,2)):=by
 unfold zkM;rw [zCs,sb];cases h:zbJ k with
 | true=>rw [zNg h];rfl
 | false=>rw [zLp h];rfl
theorem zwy (k:Int):zhU k=some (kNum k):=by
 unfold zhU;rw [zCv,sb];cases h:zbJ k with
 | true=>
  rcases zuD h with rfl| rfl| rfl| rfl| rfl| rfl| rfl| rfl| rfl| rfl| rfl| rfl| rfl| rfl| rfl| rfl| rfl<;>rfl
 | false=>
  have h1:=pS h;have:kNum k=false:=ye (by omega);rw [this];rfl
theorem zLq:zoW=some [1,2,3,4,5,6,7,8,9,10,11,12,13,14,15,16,17]:=by
 have e:zlm kT=some [1,2,3,4,5,6,7,8,9,10,11,12,13,14,15,16,17]:=by
  unfold zlm;rfl
 unfold zoW;rw [zCs,sb,e,sb]
theorem zkL (k:Int) (h:0<=w/\w<=18446744073709551615):zgH k w=some (if kNum k then (zbs k w,0) else (0,2)):=by
 have hs:=zEX w;have hc:=zgf k h;unfold zgH;by_cases h1:k=1\/k=8
 ·have e:(if (k==1)=true then some (k==1) else some (k==8))=some true:=by rcases h1 with rfl| rfl<;>rfl
  have hn:kNum k=true:=xV (by omega);rw [e,sb,itT rfl,zHV,sb,zIl (by omega),sb,hn];unfold zbs;rw [xy h1];rfl
 ·have e:(if (k==1)=true then some (k==1) else some (k==8))=some false:=by rw [uN];simp;omega
  rw [e,sb,itF rfl];by_cases h2:k=3\/k=5\/k=9\/k=10\/k=11
  ·have e2:(if (k==3)=true then some (k==3) else if (k==5)=true then some (k==5) else if (k==9)=true then some (k==9) else if (k==10)=true then some (k==10) else some (k==11))=some true:=by
    rcases h2 with rfl| rfl| rfl| rfl| rfl<;>rfl
   have hn:kNum k=true:=xV (by omega);have hw:u64.wrap (w%4294967296)=w%4294967296:=by rw [wrap_u64];omega
   rw [e2,sb,itT rfl,zCE,sb,hn,hw];unfold zbs;rw [xx h1,xy h2];rfl
  ·have e2:(if (k==3)=true then some (k==3) else if (k==5)=true then some (k==5) else if (k==9)=true then some (k==9) else if (k==10)=true then some (k==10) else some (k==11))=some false:=by
    rw [uN,uN,uN,uN];simp;omega
   rw [e2,sb,itF rfl];by_cases h7:k=7
   ·have hn:kNum k=true:=xV (by omega);rw [itT (by simpa using h7),hn];unfold znA zbs;rw [sb,xx h1,xx h2,xy h7];by_cases h0:0<w
    ·rw [xy h0];by_cases h10:1<w
     ·rw [xy h10];rfl
     ·rw [xx h10,show w=1 by omega];rfl
    ·rw [xx h0,xx (by omega),show w=0 by omega];rfl
   ·rw [itF (by simpa using h7)];by_cases hn:kNum k=true
    ·have hk:=yv hn;have e3:(if (k==2)=true then some (k==2) else if (k==4)=true then some (k==4) else if (k==6)=true then some (k==6) else if (k==12)=true then some (k==12) else if (k==13)=true then some (k==13) else some (k==14))=some true:=by
      have:k=2\/k=4\/k=6\/k=12\/k=13\/k=14:=by omega
      rcases this with rfl| rfl| rfl| rfl| rfl| rfl<;>rfl
     rw [e3,sb,itT rfl,hn];unfold zbs;rw [xx h1,xx h2,xx h7];rfl
    ·have hn:kNum k=false:=by simpa using hn
     have hk:=pS hn;have e3:(if (k==2)=true then some (k==2) else if (k==4)=true then some (k==4) else if (k==6)=true then some (k==6) else if (k==12)=true then some (k==12) else if (k==13)=true then some (k==13) else some (k==14))=some false:=by
      rw [uN,uN,uN,uN,uN];simp;omega
     rw [e3,sb,itF rfl,hn];rfl
def lt7 (c:UInt8):Bool:=decide (97<=c.toNat/\c.toNat<=122\/65<=c.toNat/\c.toNat<=90\/c.toNat=95)
def dg7 (c:UInt8):Bool:=decide (48<=c.toNat/\c.toNat<=57)
theorem zws (c:UInt8):zfC (c.toNat:Int)=some (dg7 c):=by
 unfold zfC dg7;congr 1;rw [yO];simp;omega
theorem zCf (c:UInt8):zgl (c.toNat:Int)=some (lt7 c):=by
 unfold zgl lt7;congr 1;by_cases h1:(c.toNat:Int)>=97<;>by_cases h2:(c.toNat:Int)>=65<;>simp only [h1,h2,decide_true,decide_false,yr,yC,qg]<;>rw [yO]<;>simp<;>omega
theorem zCg (s:List UInt8) (hs:s.length<=1152921504606846976):∀(l:List UInt8) (i:Nat),s.drop i=l->zeA s i=some (if (l.all fun c=>lt7 c|| dg7 c)=true then .inl () else .inr ()):=by
 intro l
 induction l with
 | nil=>
  intro i hd;have:=ztm hd;refine zjT ?_;unfold zdI;rw [uN];rfl
 | cons c l ih=>
  intro i hd;obtain ⟨hi,hc,hd'⟩:=zrg hd;have hb:zdI s i=if (lt7 c|| dg7 c)=true then some (.inl ((i+1:Nat):Int)) else some (.inr (.inr ())):=by
   unfold zdI;rw [uM,zag rfl hi,sb,hc,zCf,sb,sb,zws,uO];cases lt7 c<;>cases dg7 c<;>rfl
  rw [yP];cases hk:(lt7 c|| dg7 c) with
  | false=>
   rw [hk] at hb;rw [zjT hb];rfl
  | true=>
   rw [hk] at hb;rw [zpx hb,ih _ hd',yj]
theorem zGl:∀(l:List UInt8) (i:Nat),0<i->nmA i l=l.all fun c=>lt7 c|| dg7 c
 | [],_,_=>rfl
 | c::l,i,h=>by
  rw [nmA,zGl l (i+1) (by omega),yP];congr 1;unfold nmc lt7 dg7;rw [yO];simp;omega
theorem zyW (hs:s.length<=1152921504606846976):zgt s=some (zho s):=by
 unfold zgt zho;have hl:=zCg s hs s 0 rfl;have hl':zeA s 0=_:=hl;cases s with
 | nil=>rfl
 | cons c l=>
  rw [uL];by_cases h60:((c::l).length:Int)>60
  ·rw [itT (by simpa using h60),sb,itT rfl];have:decide (1<=(c::l).length/\(c::l).length<=60)=false:=by simp only [uH];omega
   rw [this,q8]
  ·have hd:decide (1<=(c::l).length/\(c::l).length<=60)=true:=by simp only [yc];refine ⟨by simp,by omega⟩
   have hc:idx (c::l) 0=some c:=by simp [idx]
   rw [itF (by simpa using h60),hc,sb,zws,sb,sb,hd,q6,hl',sb];have e:nmA 0 (c::l)=(lt7 c&&l.all fun c=>lt7 c|| dg7 c):=by
    rw [nmA,zGl l 1 (by omega)];congr 1;unfold nmc lt7;rw [yO];simp;omega
   have hx:lt7 c=true->dg7 c=false:=by
    unfold lt7 dg7;simp only [yc,uH];omega
   rw [e,yP];cases h1:lt7 c<;>cases h2:dg7 c<;>first| (rw [hx h1] at h2;cases h2;done)| skip
   ·rfl
   ·rfl
   ·cases l.all fun c=>lt7 c|| dg7 c<;>rfl
theorem zIY (hl:l.length<=1152921504606846976) (v:Int):zcN l v=some (zje (fun x=>v==x) l):=by
 unfold zcN;have h:=ztr (fun x=>v==x) l (fun i=>zbz l v i) (zfD (by unfold zbf;rw [uL])) (fun i hi=>by
  by_cases hp:(v==l[i])=true
  ·rw [xy hp];exact zfD (by unfold zbf;rw [uM,zag rfl hi,sb,itT hp])
  ·rw [xx hp];exact zjq (by unfold zbf;rw [uM,zag rfl hi,sb,itF (by simpa using hp),uO];rfl)) l.length 0 (by omega) (fun j _ h=>by omega)
 have h':zbz l v 0=_:=h;rw [h',sb];unfold zje;cases l.findIdx? (fun x=>v==x)<;>rfl
theorem zye {α:Type} (p:α->Bool) (l:List α):decide (zje p l>=0)=l.any p:=by
 cases h:l.findIdx? p with
 | none=>
  rw [zlS h];rw [uG] at h
  symm
  rw [List.any_eq_false.2 fun x hx=>by simpa using h x hx];rfl
 | some i=>
  rw [zlT h];rw [pP] at h;obtain ⟨hi,hp,_⟩:=h
  symm
  rw [List.any_eq_true.2 ⟨l[i],xH hi,hp⟩];simp
theorem zBL (hl:l.length<=1152921504606846976) (v:Int):zcb l v=some (l.any fun x=>v==x):=by
 unfold zcb;rw [zIY hl,sb,zye]
def K17:List Int:=[1,2,3,4,5,6,7,8,9,10,11,12,13,14,15,16,17]
theorem zHr (k:Int):(K17.any fun x=>k==x)=zbJ k:=by
 unfold zbJ K17;rw [yO];simp;omega
def hasN (m:List (zy×Bool)) (i:Int) (n:Str):Bool:=(mget m (⟨i,n⟩:zy)).getD false
def hasU (m:List (zi×Bool)) (i:Int) (n:Int):Bool:=(mget m (⟨i,n⟩:zi)).getD false
theorem zmH (m:List (zy×Bool)) (i j:Int) (n k:Str):hasN (mput m ⟨i,n⟩ true) j k=(decide (j=i/\k=n)|| hasN m j k):=by
 unfold hasN;rw [zez];by_cases h:j=i/\k=n
 ·obtain ⟨rfl,rfl⟩:=h;simp
 ·rw [xx (fun e=>h (by injection e with e1 e2;exact ⟨e1,e2⟩))];simp [h]
theorem zCa (m:List (zi×Bool)) (i j:Int) (n k:Int):hasU (mput m ⟨i,n⟩ true) j k=(decide (j=i/\k=n)|| hasU m j k):=by
 unfold hasU;rw [zez];by_cases h:j=i/\k=n
 ·obtain ⟨rfl,rfl⟩:=h;simp
 ·rw [xx (fun e=>h (by injection e with e1 e2;exact ⟨e1,e2⟩))];simp [h]
theorem zCh (n:Int):zgm n=some (decide ¬(n<1\/n>536870911\/(19000<=n/\n<20000))):=by
 unfold zgm;congr 1;rw [yO];simp;omega
theorem zEC (f:Fld):zgO f=some (f.Repeated&&kNum f.Kind):=by
 unfold zgO;rw [zwy];cases f.Repeated<;>rfl
theorem zJr (n:Int) (K:List Int) (nm:List (zy×Bool)) (nu:List (zi×Bool)) (f:Fld):zeM ⟨n,K,nm,nu⟩ f=some (decide ¬(f.Kind=17/\(f.Of<0\/f.Of>=n)\/f.Kind≠17/\f.Of≠0)):=by
 unfold zeM;by_cases h:f.Kind=17
 ·rw [itT (by simpa using h)];congr 1;rw [yO];simp [h]
 ·rw [itF (by simpa using h)];congr 1;rw [yO];simp [h]
theorem zIO (hf:f.Name.length<=1152921504606846976) (hN:hasN nm i f.Name=prev.any fun g=>g.Name==f.Name) (hU:hasU nu i f.Number=prev.any fun g=>g.Number==f.Number):
  zeL ⟨n,K17,nm,nu⟩ i f=some (zcZ n prev f,if zcZ n prev f=0 then (mput nm ⟨i,f.Name⟩ true,mput nu ⟨i,f.Number⟩ true) else (nm,nu)):=by
 unfold zeL;rw [zyW hf,sb];have e1:(mget nm (⟨i,f.Name⟩:zy)).getD false=hasN nm i f.Name:=rfl;have e2:(mget nu (⟨i,f.Number⟩:zi)).getD false=hasU nu i f.Number:=rfl;simp only [e1,e2,hN,hU];have hz:∀(k:Int) (x y:List (zy×Bool)×List (zi×Bool)),k≠0->(if k=0 then x else y)=y:=fun k x y h=>xx h
 by_cases h1:zho f.Name=false
 ·have hF:zcZ n prev f=5:=by unfold zcZ;rw [xy h1]
  rw [hF,hz 5 _ _ (by decide),itT (by rw [h1];rfl)]
 rw [itF (show (!zho f.Name)=false by simpa using h1)];by_cases h2:(prev.any fun g=>g.Name==f.Name)=true
 ·have hF:zcZ n prev f=6:=by unfold zcZ;rw [xx h1,xy h2]
  rw [hF,hz 6 _ _ (by decide),itT h2]
 have h2':(prev.any fun g=>g.Name==f.Name)=false:=pu h2;rw [itF h2',zCh,sb];by_cases h3:f.Number<1\/f.Number>536870911\/(19000<=f.Number/\f.Number<20000)
 ·have hF:zcZ n prev f=7:=by unfold zcZ;rw [xx h1,xx h2,xy h3]
  rw [hF,hz 7 _ _ (by decide),itT (by rw [ye (fun h=>h h3)];rfl)]
 rw [itF (by rw [xV h3];rfl)];by_cases h4:(prev.any fun g=>g.Number==f.Number)=true
 ·have hF:zcZ n prev f=8:=by unfold zcZ;rw [xx h1,xx h2,xx h3,xy h4]
  rw [hF,hz 8 _ _ (by decide),itT h4]
 have h4':(prev.any fun g=>g.Number==f.Number)=false:=pu h4;rw [itF h4',zBL (by decide),sb,zHr];by_cases h5:zbJ f.Kind=false
 ·have hF:zcZ n prev f=9:=by unfold zcZ;rw [xx h1,xx h2,xx h3,xx h4,xy h5]
  rw [hF,hz 9 _ _ (by decide),itT (by rw [h5];rfl)]
 rw [itF (show (!zbJ f.Kind)=false by simpa using h5),zEC];have hg:(if f.Packed=true then (some (f.Repeated&&kNum f.Kind)>>=fun ke=>some (!ke)) else some false)=some (decide (f.Packed=true/\¬(f.Repeated=true/\kNum f.Kind=true))):=by
  cases f.Packed<;>cases f.Repeated<;>cases kNum f.Kind<;>rfl
 rw [hg,sb];by_cases h6:f.Packed=true/\¬(f.Repeated=true/\kNum f.Kind=true)
 ·have hF:zcZ n prev f=10:=by unfold zcZ;rw [xx h1,xx h2,xx h3,xx h4,xx h5,xy h6]
  rw [hF,hz 10 _ _ (by decide),itT (xV h6)]
 rw [itF (ye h6),zJr,sb];by_cases h7:f.Kind=17/\(f.Of<0\/f.Of>=n)\/f.Kind≠17/\f.Of≠0
 ·have hF:zcZ n prev f=11:=by unfold zcZ;rw [xx h1,xx h2,xx h3,xx h4,xx h5,xx h6,xy h7]
  rw [hF,hz 11 _ _ (by decide),itT (by rw [ye (fun h=>h h7)];rfl)]
 have hF:zcZ n prev f=0:=by unfold zcZ;rw [xx h1,xx h2,xx h3,xx h4,xx h5,xx h6,xx h7]
 rw [hF,xy rfl,itF (by rw [xV h7];rfl)]
theorem zED {n:Int} {nm:List (zy×Bool)} {nu:List (zi×Bool)} {prev:List Mes} {m:Mes} (hm:m.Name.length<=1152921504606846976) (hN:hasN nm (-1) m.Name=prev.any fun g=>g.Name==m.Name):
  zdV ⟨n,K17,nm,nu⟩ m=some (if zho m.Name=false then (2,nm,nu) else if (prev.any fun g=>g.Name==m.Name)=true then (3,nm,nu) else if 200<m.Fields.length then (4,nm,nu) else (0,mput nm ⟨-1,m.Name⟩ true,nu)):=by
 unfold zdV;rw [zyW hm,sb];have e1:(mget nm (⟨(-1),m.Name⟩:zy)).getD false=hasN nm (-1) m.Name:=rfl;simp only [e1,hN];by_cases h1:zho m.Name=false
 ·rw [xy h1,itT (show (!zho m.Name)=true by rw [h1];rfl)]
 rw [xx h1,itF (show (!zho m.Name)=false by simpa using h1)];by_cases h2:(prev.any fun g=>g.Name==m.Name)=true
 ·rw [xy h2,itT h2]
 have h2':(prev.any fun g=>g.Name==m.Name)=false:=pu h2;rw [xx h2,itF h2'];by_cases h3:200<m.Fields.length
 ·rw [xy h3,itT (show decide ((m.Fields.length:Int)>200)=true by simp;omega)]
 rw [xx h3,itF (show decide ((m.Fields.length:Int)>200)=false by simp;omega)]
structure Met (nm:List (zy×Bool)) (nu:List (zi×Bool)) (i:Nat) (prev:List Mes) (p:List Fld):Prop where
 mes:∀n,hasN nm (-1) n=prev.any fun g=>g.Name==n
 nam:∀n,hasN nm i n=p.any fun g=>g.Name==n
 num:∀n,hasU nu i n=p.any fun g=>g.Number==n
 later:∀(j:Nat) n,i<j->hasN nm j n=false
 laterU:∀(j:Nat) n,i<j->hasU nu j n=false
theorem Met.step (h:Met nm nu i prev p) (f:Fld):Met (mput nm ⟨i,f.Name⟩ true) (mput nu ⟨i,f.Number⟩ true) i prev (p++[f]):=by
 refine ⟨fun n=>?_,fun n=>?_,fun n=>?_,fun j n hj=>?_,fun j n hj=>?_⟩
 ·rw [zmH,h.mes,ye (by omega),pU]
 ·rw [zmH,h.nam,uy,Bool.or_comm];congr 1;simp only [uz,List.any_nil,pr];rw [yO];simp;exact eq_comm
 ·rw [zCa,h.num,uy,Bool.or_comm];congr 1;simp only [uz,List.any_nil,pr];rw [yO];simp;exact eq_comm
 ·rw [zmH,h.later j n hj,ye (by omega)];rfl
 ·rw [zCa,h.laterU j n hj,ye (by omega)];rfl
theorem zIG (hb:m.Fields.length<=140737488351232) (hn:∀f∈m.Fields,f.Name.length<=140737488351232):
  ∀(l:List Fld) (k:Nat) (nm:List (zy×Bool)) (nu:List (zi×Bool)),m.Fields.drop k=l->k<=m.Fields.length->Met nm nu i prev (m.Fields.take k)->
   (∃j w,msgF s.length (m.Fields.take k) l=some (j,w)/\zdu K17 s i m k nm nu=some (.inr ((j:Int),w)))\/
   (msgF s.length (m.Fields.take k) l=none/\∃nm' nu',zdu K17 s i m k nm nu=some (.inl (nm',nu'))/\Met nm' nu' i prev m.Fields):=by
 intro l
 induction l with
 | nil=>
  intro k nm nu hd hk hM;have:=ztm hd;have hkl:k=m.Fields.length:=by omega
  subst hkl;refine .inr ⟨rfl,nm,nu,zkq ?_,by simpa using hM⟩;unfold zcz;rw [uL]
 | cons f l ih=>
  intro k nm nu hd hk hM;obtain ⟨hi,hc,hd'⟩:=zrg hd;have hf:=hn f (by rw [<-hc];exact xH hi);have hfld:=zIO (n:=(s.length:Int)) (i:=(i:Int)) (nm:=nm) (nu:=nu) (prev:=m.Fields.take k) (f:=f) (by omega) (hM.nam _) (hM.num _);have htk:m.Fields.take (k+1)=m.Fields.take k++[f]:=by rw [uA hi,hc]
  have wS:(m.Fields.take k).length=k:=by simp;omega
  obtain ⟨bd,_⟩:=zBP (s.length:Int) (m.Fields.take k) f;rw [msgF];by_cases h0:zcZ s.length (m.Fields.take k) f=0
  ·rw [xx (by omega)];rw [h0,xy rfl] at hfld;have hstep:zcz K17 s i m k nm nu=some (.inl (((k+1:Nat):Int),mput nm ⟨i,f.Name⟩ true,mput nu ⟨i,f.Number⟩ true)):=by
    unfold zcz;rw [uM,zag rfl hi,sb,hc,hfld,sb];dsimp only;rw [itF (show ((0:Int) !=0)=false from rfl),uO];rfl
   rw [zqC hstep,<-htk];exact ih (k+1) _ _ hd' (by omega) (by rw [htk];exact hM.step f)
  ·rw [xy (by omega)];rw [xx h0] at hfld;refine .inl ⟨k,_,by rw [wS],zkq ?_⟩;unfold zcz;rw [uM,zag rfl hi,sb,hc,hfld,sb];dsimp only;rw [itT (show (zcZ (s.length:Int) (m.Fields.take k) f !=0)=true by simpa using h0)]
theorem zIF {s:List Mes} (hw:WS s):∀(l:List Mes) (i:Nat) (nm:List (zy×Bool)) (nu:List (zi×Bool)),s.drop i=l->i<=s.length->Met nm nu i (s.take i) []->
  zeY K17 s i nm nu=some (match chkF s.length (s.take i) l with| some (j,k,w)=> .inr ((j:Int),k,w)| none=> .inl ()):=by
 intro l
 induction l with
 | nil=>
  intro i nm nu hd hi hM;have:=ztm hd;refine zep ?_;unfold zbv;rw [uN];rfl
 | cons m l ih=>
  intro i nm nu hd hi hM;obtain ⟨hil,hc,hd'⟩:=zrg hd;obtain ⟨w1,w2⟩:=hw;obtain ⟨m1,m2,m3⟩:=w2 m (by rw [<-hc];exact xH hil);have hmes:=zED (n:=(s.length:Int)) (nm:=nm) (nu:=nu) (prev:=s.take i) (m:=m) (by omega) (hM.mes _);have htk:s.take (i+1)=s.take i++[m]:=by rw [uA hil,hc]
  have wS:(s.take i).length=i:=by simp;omega
  rw [chkF];by_cases h1:zho m.Name=false
  ·rw [xy h1] at hmes|-;refine zep ?_;unfold zbv;rw [uM,zag rfl hil,sb,hc,hmes,sb];dsimp only;rw [itT (show ((2:Int) !=0)=true from rfl),wS]
  rw [xx h1] at hmes|-;by_cases h2:((s.take i).any fun g=>g.Name==m.Name)=true
  ·rw [xy h2] at hmes|-;refine zep ?_;unfold zbv;rw [uM,zag rfl hil,sb,hc,hmes,sb];dsimp only;rw [itT (show ((3:Int) !=0)=true from rfl),wS]
  rw [xx h2] at hmes|-;by_cases h3:200<m.Fields.length
  ·rw [xy h3] at hmes|-;refine zep ?_;unfold zbv;rw [uM,zag rfl hil,sb,hc,hmes,sb];dsimp only;rw [itT (show ((4:Int) !=0)=true from rfl),wS]
  rw [xx h3] at hmes|-;have hM0:Met (mput nm ⟨-1,m.Name⟩ true) nu i (s.take i++[m]) (m.Fields.take 0):=by
   refine ⟨fun n=>?_,fun n=>?_,fun n=>?_,fun j n hj=>?_,fun j n hj=>hM.laterU j n hj⟩
   ·rw [zmH,hM.mes,uy,Bool.or_comm];congr 1;simp only [uz,List.any_nil,pr];rw [yO];simp;exact eq_comm
   ·rw [zmH,hM.nam,ye (by omega)];rfl
   ·rw [hM.num];rfl
   ·rw [zmH,hM.later j n hj,ye (by omega)];rfl
  have hl2:=zIG (s:=s) (i:=i) m2 m3 m.Fields 0 _ nu rfl (by omega) hM0;simp only [po] at hl2;rcases hl2 with ⟨j,w,g1,g2⟩| ⟨g1,nm',nu',g2,g3⟩
  ·rw [g1];refine zep ?_;unfold zbv;have g2':zdu K17 s i m 0 (mput nm ⟨-1,m.Name⟩ true) nu=_:=g2;rw [uM,zag rfl hil,sb,hc,hmes,sb];dsimp only;rw [itF (show ((0:Int) !=0)=false from rfl),g2',sb];simp only [wS]
  ·rw [g1];have hstep:zbv K17 s i nm nu=some (.inl (((i+1:Nat):Int),nm',nu')):=by
    unfold zbv;have g2':zdu K17 s i m 0 (mput nm ⟨-1,m.Name⟩ true) nu=_:=g2;rw [uM,zag rfl hil,sb,hc,hmes,sb];dsimp only;rw [itF (show ((0:Int) !=0)=false from rfl),g2',sb];dsimp only;rw [uO];rfl
   rw [zqB hstep];simp only [];rw [<-htk];refine ih (i+1) nm' nu' hd' (by omega) ⟨fun n=>?_,fun n=>?_,fun n=>?_,fun j n hj=>g3.later j n (by omega),fun j n hj=>g3.laterU j n (by omega)⟩
   ·rw [htk];exact g3.mes n
   ·rw [g3.later (i+1) n (by omega)];rfl
   ·rw [g3.laterU (i+1) n (by omega)];rfl
theorem zIE (hw:WS s):ziH s=some (⟨(zld s).1,(zld s).2.1,(zld s).2.2⟩,if (zld s).2.2=0 then 0 else 9):=by
 unfold ziH zld;by_cases h:s.length=0\/100<s.length
 ·rw [uM,xy h];rfl
 ·rw [uN,xx h,zLq,sb];have hl:=zIF hw s 0 [] [] rfl (by omega) ⟨fun n=>rfl,fun n=>rfl,fun n=>rfl,fun j n _=>rfl,fun j n _=>rfl⟩;simp only [po] at hl;have hl':zeY [1,2,3,4,5,6,7,8,9,10,11,12,13,14,15,16,17] s 0 [] []=_:=hl;rw [hl',sb];cases hc:chkF s.length [] s with
  | none=>rfl
  | some q=>
   obtain ⟨i,k,w⟩:=q;have:=zFv _ _ _ _ _ _ hc;simp only;rw [xx (by omega)]
theorem zCX (hw:WS s):zhc s=some (zhI s):=by
 unfold zhc zhI;rw [zIE hw,sb];by_cases h:(zld s).2.2=0<;>simp [h]
theorem zkd (h:(zas k b).2=0):kNum k=true/\(pcs k b).2=0/\(zas k b).1=(pcs k b).1.map (zev k):=by
 unfold zas at h|-;cases hn:kNum k with
 | false=>rw [hn,xy rfl] at h;simp at h
 | true=>
  rw [hn,xx (by simp)] at h;rw [xx (by simp)];by_cases h0:(pcs k b).2=0
  ·rw [xy h0];exact ⟨rfl,h0,rfl⟩
  ·rw [xx h0] at h;exact absurd h h0
theorem zqu {k:Int} {b:List UInt8} (hn:kNum k=true) (h0:(pcs k b).2=0):zas k b=((pcs k b).1.map (zev k),0):=by
 unfold zas;rw [hn,xx (by simp),xy h0]
theorem zrD (h:(zas k b).2≠0):(zas k b).1=[]/\((zas k b).2=2\/(zas k b).2=3\/(zas k b).2=4):=by
 unfold zas at h|-;by_cases hn:kNum k=false
 ·rw [xy hn];simp
 ·rw [xx hn] at h|-;by_cases h0:(pcs k b).2=0
  ·rw [xy h0] at h;exact absurd rfl h
  ·rw [xx h0];rcases zCL k b with h1| h1| h1
   ·exact absurd h1 h0
   ·rw [h1];simp
   ·rw [h1];simp
theorem zxO (k:Int) (b:List UInt8):(zas k b).1.length<=b.length:=by
 by_cases h:(zas k b).2=0
 ·rw [(zkd h).2.2,qL];exact zAR k b
 ·rw [(zrD h).1];exact xP _
theorem zBu {k:Int} {a b:List UInt8} (ha:(zas k a).2=0):(zas k (a++b)).2=(zas k b).2/\((zas k b).2=0->(zas k (a++b)).1=(zas k a).1++(zas k b).1):=by
 obtain ⟨hn,h0,e⟩:=zkd ha;have hp:=zEO k b a h0;by_cases hb:(pcs k b).2=0
 ·rw [zqu hn (b:=a++b) (by rw [hp];exact hb),zqu hn hb,e,hp];exact ⟨rfl,fun _=>by simp⟩
 ·have:(zas k b).2=(pcs k b).2:=by unfold zas;rw [xx (by rw [hn];simp),xx hb]
  have h2:(zas k (a++b)).2=(pcs k b).2:=by unfold zas;rw [xx (by rw [hn];simp),hp,xx hb]
  rw [this,h2];exact ⟨rfl,fun h=>absurd h hb⟩
theorem zJe {α:Type} (x y:α):(if (true:Bool)=false then x else y)=y:=rfl
def wid (k:Int):Nat:=if 12<=k then 8 else if 9<=k then 4 else 0
theorem ztV (k:Int):zga k=some (if kNum k then ((wid k:Int),0) else (0,2)):=by
 cases hn:kNum k with
 | true=>
  have h:=zdS.1 hn;have hk:k=1\/k=2\/k=3\/k=4\/k=5\/k=6\/k=7\/k=8\/k=9\/k=10\/k=11\/k=12\/k=13\/k=14:=by omega
  rcases hk with rfl| rfl| rfl| rfl| rfl| rfl| rfl| rfl| rfl| rfl| rfl| rfl| rfl| rfl<;>rfl
 | false=>
  have h:=pS hn;unfold zga;have w9:∀c:Int,1<=c->c<=14->(k==c)=false:=fun c h1 h2=>by simp;omega
  simp only [w9 1 (by omega) (by omega),w9 2 (by omega) (by omega),w9 3 (by omega) (by omega),w9 4 (by omega) (by omega),w9 5 (by omega) (by omega),w9 6 (by omega) (by omega),w9 7 (by omega) (by omega),w9 8 (by omega) (by omega),w9 9 (by omega) (by omega),w9 10 (by omega) (by omega),w9 11 (by omega) (by omega),w9 12 (by omega) (by omega),w9 13 (by omega) (by omega),w9 14 (by omega) (by omega)];rfl
theorem zHq (hk:kNum k=true):(zau k=0↔wid k=0)/\(wid k≠0->∀b:List UInt8,zbT (zau k) b=decide (wid k=b.length))/\(wid k=0\/wid k=4\/wid k=8):=by
 have:=zdS.1 hk;unfold zau wid zbT;by_cases h1:12<=k
 ·rw [xx (by omega),xy h1,xy h1];refine ⟨by simp,fun _ b=>?_,by simp⟩;rw [xx (by omega)];simp only [show ((1:Int)=2)=False from by simp,show ((1:Int)=5)=False from by simp,false_or,false_and,xO,qr];simp [eq_comm]
 ·rw [xx (by omega),xx h1,xx h1];by_cases h2:9<=k
  ·rw [xy h2,xy h2];refine ⟨by simp,fun _ b=>?_,by simp⟩;rw [xx (by omega)];simp [eq_comm]
  ·rw [xx h2,xx h2];exact ⟨by simp,fun h=>absurd rfl h,by simp⟩
theorem zHZ (b:List UInt8):ziG b=some (if zbT 0 b then ((rd b).1,0) else (0,12)):=by
 unfold ziG zbT;rw [zvC,sb,xy rfl];by_cases h:(rd b).2.2=0/\(rd b).2.1=(b.length:Int)
 ·rw [itF (by simp [h.1,h.2]),xy (by simpa using h)]
 ·rw [uM,xx (by simpa using h)]
theorem zHW (k:Int) (b:List UInt8):ziF k b=some (if kNum k=false then (0,2) else if zbT (zau k) b=false then (0,12) else (rawW k b,0)):=by
 unfold ziF;rw [ztV,sb];cases hn:kNum k with
 | false=>rw [xy rfl];rfl
 | true=>
  obtain ⟨e0,ef,_⟩:=zHq hn;simp only [yr];rw [uL,xx (show ¬(true=false) by simp)];by_cases h0:wid k=0
  ·have hw:=e0.2 h0;rw [itT (by simp [h0]),zHZ,sb,hw];unfold rawW;cases hf:zbT 0 b with
   | true=>simp [hw]
   | false=>simp
  ·rw [itF (by simpa using h0),ef h0];by_cases hl:wid k=b.length
   ·rw [uN,zMj,sb,xx (by simpa using hl)];unfold rawW;rw [xx (fun h=>h0 (e0.1 h))]
   ·rw [uM,xy (by simpa using hl)]
theorem zKo (k:Int) (b:List UInt8):zjS k b=some (zna k b):=by
 unfold zjS zna;rw [zHW,sb];cases hn:kNum k with
 | false=>rfl
 | true=>
  simp only [zJe];cases hf:zbT (zau k) b with
  | false=>rfl
  | true=>
   simp only [zJe];rw [uK,zkL k (znQ k),sb,hn,xy rfl]
theorem zBd {k w:Int} (h:0<=w/\w<=18446744073709551615):zhJ k w=some (if kNum k then (sPut k w,0) else ([],2)):=by
 have hc:=zgf k h;obtain ⟨c,hcc⟩:∃c:Nat,zbs k w=c:=⟨(zbs k w).toNat,by omega⟩;unfold zhJ;rw [ztV,sb];cases hn:kNum k with
 | false=>rfl
 | true=>
  simp only [yr];rw [uK,zkL k h,sb,hn];simp only [yr];rw [hcc];unfold sPut ziC;rw [hcc,xK];unfold wid;by_cases h1:12<=k
  ·rw [xy h1,xy h1,uK,zzd,sb];rfl
  ·rw [xx h1,xx h1];by_cases h2:9<=k
   ·rw [xy h2,xy h2,uK,zzd,sb];rfl
   ·rw [xx h2,xx h2,uJ,zEQ [] (by omega) (by simp),sb,xL]
theorem zsH (h:0<=w/\w<=18446744073709551615):zfN k w=some (if kNum k then ((sPut k w).length:Int) else 0):=by
 have hc:=zgf k h;obtain ⟨c,hcc⟩:∃c:Nat,zbs k w=c:=⟨(zbs k w).toNat,by omega⟩;unfold zfN;rw [ztV,sb];cases hn:kNum k with
 | false=>rfl
 | true=>
  simp only [yr];unfold sPut ziC;rw [hcc,xK];unfold wid;by_cases h1:12<=k
  ·rw [xy h1,xy h1,uJ,zbb]
  ·rw [xx h1,xx h1];by_cases h2:9<=k
   ·rw [xy h2,xy h2,uJ,zbb]
   ·rw [xx h2,xx h2,uK,zkL k h,sb,hn];simp only [yr];rw [hcc,zJv (by omega),sb,zhD]
theorem zyH {α:Type} {l t:List α} {x:α} {k:Nat} (h:l.drop k=x::t):∃hk:k<l.length,l[k]=x/\l.drop (k+1)=t:=by
 have hk:k<l.length:=by
  rcases yq k l.length with h'| h'
  ·exact h'
  ·rw [yK h'] at h;cases h
 rw [yF hk] at h;injection h with h1 h2;exact ⟨hk,h1,h2⟩
theorem zAl (l:List (List UInt8)) (hl:l.length<=1099511627776):∀(t:List (List UInt8)) (k s:Nat),l.drop k=t->s+t.flatten.length<=1099511627776->
  zbj l s k=some ((s+t.flatten.length:Nat):Int):=by
 intro t
 induction t with
 | nil=>
  intro k s hd _;have hk:l.length<=k:=by have:=congrArg List.length hd;simp at this;omega
  refine zih ?_;unfold zaR;rw [uN];simp
 | cons x t ih=>
  intro k s hd hs;obtain ⟨hk,hx,hd'⟩:=zyH hd;simp only [qm,xD] at hs;refine (zig (size':=((s+x.length:Nat):Int)) (v':=((k+1:Nat):Int)) ?_).trans ?_
  ·unfold zaR;rw [uM,zag rfl hk,sb,hx,uO,uN,uO];push_cast;rfl
  ·rw [ih _ _ hd' (by omega)];simp only [qm,xD];congr 2;omega
theorem zAm (l:List (List UInt8)) (hl:l.length<=1099511627776):∀(t:List (List UInt8)) (k:Nat) (acc:List UInt8),l.drop k=t->acc.length+t.flatten.length<=1099511627776->
  zbk l acc k=some (acc++t.flatten):=by
 intro t
 induction t with
 | nil=>
  intro k acc hd _;have hk:l.length<=k:=by have:=congrArg List.length hd;simp at this;omega
  refine zij ?_;unfold zaS;rw [uN];simp
 | cons x t ih=>
  intro k acc hd hs;obtain ⟨hk,hx,hd'⟩:=zyH hd;simp only [qm,xD] at hs;refine (zii (newslice':=acc++x) (v2':=((k+1:Nat):Int)) ?_).trans ?_
  ·unfold zaS;rw [uM,zag rfl hk,sb,hx,zeD (by omega),sb,uO];push_cast;rfl
  ·rw [ih _ _ hd' (by rw [xD];omega)];simp
theorem zLj {n:Nat} (h:n<=1099511627776):zcx (n:Int)=some []:=by
 unfold zcx;have e:i64.wrap ((n:Int) - i64.wrap (0 - 0))=n:=by rw [wrap_i64 (x:=0 - 0) (by omega),uO];omega
 rw [uL,e];by_cases h0:(n:Int)>0
 ·rw [itT (by simpa using h0),zpc (a:=n) rfl (qt _) (by omega),sb];have e0:cut (List.replicate n (0:UInt8)) 0 0=some []:=zwc (b:=0) rfl (xP _);rw [e0,sb]
 ·rw [itF (by simpa using h0)]
theorem zmz (hl:l.length<=1099511627776) (h:l.flatten.length<=1099511627776):zaw l=some l.flatten:=by
 unfold zaw;have h1:=zAl l hl l 0 0 rfl (by omega);have h1':zbj l 0 0=_:=h1;have h2:=zAm l hl l 0 [] rfl (by simpa using h);have h2':zbk l [] 0=_:=h2;rw [h1',sb,zLj (by omega),sb,h2',sb];simp
def wid9 (k:Int):Int:=if kNum k then (if 12<=k then 8 else if 9<=k then 4 else 1) else 0
theorem zyi (hk:kNum k=true):(((sPut k 0).length:Nat):Int)=(if 12<=k then 8 else if 9<=k then 4 else 1):=by
 have hk':=zdS.1 hk;have hc:(zbs k 0).toNat=0:=by
  have:k=1\/k=2\/k=3\/k=4\/k=5\/k=6\/k=7\/k=8\/k=9\/k=10\/k=11\/k=12\/k=13\/k=14:=by omega
  rcases this with h| h| h| h| h| h| h| h| h| h| h| h| h| h<;>subst h<;>decide
 unfold sPut;rw [hc];unfold ziC;by_cases h1:12<=k
 ·rw [xy h1,xy h1,zbb];rfl
 ·rw [xx h1,xx h1];by_cases h2:9<=k
  ·rw [xy h2,xy h2,zbb];rfl
  ·rw [xx h2,xx h2,zhD];simp [lenN]
theorem zzB (k:Int):zkS k=some (wid9 k):=by
 unfold zkS wid9;rw [zsH (by omega),sb];cases hk:kNum k with
 | false=>rfl
 | true=>simp only [yr];rw [zyi hk]
theorem zGU (hk:kNum k=true):(k<9->wid9 k=1)/\(¬k<9->k<12->wid9 k=4)/\(¬k<12->wid9 k=8):=by
 unfold wid9
 grind
theorem zDG (hk:kNum k=false):wid9 k=0:=by unfold wid9;rw [hk];rfl
theorem zGT (hk:kNum k=true):(wid9 k==0)=false:=by
 obtain ⟨h1,h2,h3⟩:=zGU hk
 grind
theorem zzx (hk:kNum k=true) (b:List UInt8):zmZ (wid9 k) b=some (match ziW k b with| .inl c=>(0,c)| .inr n=>((n:Int),0)):=by
 grind [zmZ,ziW,zGU,zGC,sb,zlu]
def zkb (k:Int) (b:List UInt8):List (List UInt8)×Int:=if kNum k=false then ([],2) else pcs k b
def go9 {σ ρ:Type} (kb:σ->(List UInt8×Int)->Option (σ⊕ρ)):List (List UInt8)->Int->σ->Option (σ⊕ρ)
 | [],c,s=>if c=0 then some (.inl s) else kb s ([],c)
 | p::ps,c,s=>match kb s (p,0) with
  | some (.inl s')=>go9 kb ps c s'
  | some (.inr r)=>some (.inr r)
  | none=>none
theorem zET {σ ρ χ:Type} {kb:σ->χ->Option (σ⊕ρ)} {s:σ} {x:χ} {o:σ⊕ρ} (h:kb s x=some o):∃c,rnd kb (.inl s) x=some (c,o)/\(c=true/\(∃s',o= .inl s')\/c=false/\∃r,o= .inr r):=by
 cases o with
 | inl s'=>exact ⟨true,by simp only [rnd,h],.inl ⟨rfl,s',rfl⟩⟩
 | inr r=>exact ⟨false,by simp only [rnd,h],.inr ⟨rfl,r,rfl⟩⟩
theorem zOz {σ ρ:Type} (kb:σ->(List UInt8×Int)->Option (σ⊕ρ)) {k:Int} (hk:kNum k=true) (b:List UInt8):∀(s:σ) (o:σ⊕ρ),go9 kb (pcs k b).1 (pcs k b).2 s=some o->
  ∃q,zeX (rnd kb) (wid9 k) b (.inl s)=some q/\(q= .inl o\/q= .inr o):=by
 refine zqh k (fun b=>∀(s:σ) (o:σ⊕ρ),go9 kb (pcs k b).1 (pcs k b).2 s=some o->
  ∃q,zeX (rnd kb) (wid9 k) b (.inl s)=some q/\(q= .inl o\/q= .inr o)) ?_ ?_ ?_ b
 ·intro s o h;rw [zjA] at h;have h':some (.inl s)=some o:=h;refine ⟨.inl o,zhp ?_,.inl rfl⟩;unfold zcc
  grind
 ·intro l c hl hu hc s o h;rw [zqg hl hu] at h;have h':kb s ([],c)=some o:=by
   have h2:(if c=0 then some (.inl s) else kb s ([],c))=some o:=h
   grind
  obtain ⟨t,ht,_⟩:=zET h';refine ⟨.inr o,zhp ?_,.inr rfl⟩;have hp:=qZ.2 hl;unfold zcc;rw [uM,zzx hk,sb,hu];simp only;rw [zhl (i:=0) (j:=0) (a:=0) (b:=0) rfl rfl (xE _) (xP _),sb]
  grind
 ·intro l n hl hu g1 g2 g3 ih s o h;rw [ziy hl hu] at h;have hp:=qZ.2 hl;have hbody:∀{t:Bool} {y:σ⊕ρ},rnd kb (.inl s) (l.take n,0)=some (t,y)->zcc (rnd kb) (wid9 k) l (.inl s)=(if t then some (.inl (l.drop n,y)) else some (.inr (.inr y))):=by
   intro t y ht;unfold zcc;rw [uM,zzx hk,sb,hu];simp only;rw [zhl (i:=0) (j:=(n:Int)) (a:=0) (b:=n) rfl rfl (xP _) g2,sb];simp only [ya,qz];rw [ht,sb];cases t with
   | false=>rw [uJ];rfl
   | true=>rw [uK,zrK (a:=n) rfl rfl g2,sb];rfl
  simp only [go9] at h;cases hb:kb s (l.take n,0) with
  | none=>rw [hb] at h;cases h
  | some z=>
   rw [hb] at h;obtain ⟨t,ht,hcase⟩:=zET hb;have hB:=hbody ht;rcases hcase with ⟨rfl,s',rfl⟩| ⟨rfl,r,rfl⟩
   ·obtain ⟨q,hq,hq'⟩:=ih s' o h;exact ⟨q,by rw [zqA hB];exact hq,hq'⟩
   ·have h':some (.inr r)=some o:=h;exact ⟨.inr (.inr r),zhp hB,.inr (by rw [qI h'])⟩
theorem zGR {σ ρ:Type} (kb:σ->(List UInt8×Int)->Option (σ⊕ρ)) (k:Int) (b:List UInt8) {s:σ} {o:σ⊕ρ} (h:go9 kb (zkb k b).1 (zkb k b).2 s=some o):zet k b (rnd kb) (.inl s)=some o:=by
 unfold zet;rw [zzB,sb];unfold zkb at h;cases hk:kNum k with
 | false=>
  rw [hk,xy rfl] at h;have h':kb s ([],2)=some o:=h;obtain ⟨t,ht,_⟩:=zET h';rw [zDG hk,uJ,ht,sb]
 | true=>
  rw [hk,xx (by simp)] at h;have hw:=zGT hk;obtain ⟨q,hq,hq'⟩:=zOz kb hk b s o h
  grind
theorem zxJ (k:Int) (b:List UInt8):(zkb k b).2=(zas k b).2/\((zas k b).2=0->(zkb k b).1=(pcs k b).1)/\(∀p∈(zkb k b).1,zbT (zau k) p=true/\1<=p.length/\p.length<=10)/\(zkb k b).1.length<=b.length/\((zkb k b).1=[]\/kNum k=true):=by
 unfold zkb zas;by_cases hn:kNum k=false
 ·grind
 ·have hk:kNum k=true:=by simpa using hn
  rw [xx hn,xx hn];refine ⟨?_,fun _=>rfl,zxa hk b,zAR k b,.inr hk⟩
  grind
theorem zDJ (hk:kNum k=true) (c:Int):∀(ps:List (List UInt8)) (acc:List Int),(∀p∈ps,zbT (zau k) p=true/\1<=p.length/\p.length<=10)->acc.length+ps.length<=1048576->
  go9 (fun (s:List Int) (x:List UInt8×Int)=>zdM k s x.1 x.2) ps c acc=some (if c=0 then .inl (acc++ps.map (zev k)) else .inr (c,acc++ps.map (zev k)))
 | [],acc,_,hl=>by
  simp only [go9,yQ,xW]
  grind [zdM]
 | p::ps,acc,hf,hl=>by
  simp only [yk] at hl;have h1:zdM k acc p 0=some (.inl (acc++[zev k p])):=by
   unfold zdM
   grind [zKo,sb,zjR,zeD]
  simp only [go9,h1];rw [zDJ hk c ps _ (fun q hq=>hf q (xA _ hq)) (by simp;omega)];simp
theorem zzC (k:Int) {b:List UInt8} (hb:b.length<=1048576):zkR k b=some (zas k b):=by
 obtain ⟨h1,h2,h3,h4,h5⟩:=zxJ k b;unfold zkR zjp;rw [sb];simp only;have hgo:go9 (fun (s:List Int) (x:List UInt8×Int)=>zdM k s x.1 x.2) (zkb k b).1 (zkb k b).2 []=some (if (zkb k b).2=0 then .inl ([]++(zkb k b).1.map (zev k)) else .inr ((zkb k b).2,[]++(zkb k b).1.map (zev k))):=by
  rcases h5 with h5| h5
  ·rw [h5];simp only [go9,yQ,xW]
   grind [zdM]
  ·exact zDJ h5 _ _ _ h3 (by simp;omega)
 grind [zGR,sb,zkd,zrD]
theorem zBM (c:Int):∀(ps:List (List UInt8)) (n:Nat),n+ps.length<=1048576->
  go9 (fun (s:Int) (x:List UInt8×Int)=>zfg s x.1 x.2) ps c (n:Int)=some (if c=0 then .inl ((n+ps.length:Nat):Int) else .inr (c,((n+ps.length:Nat):Int)))
 | [],n,hl=>by
  simp only [go9,yB,yD]
  grind [zfg]
 | p::ps,n,hl=>by
  simp only [yk] at hl;have h1:zfg (n:Int) p 0=some (.inl ((n+1:Nat):Int)):=by
   grind [zfg,sb,wrap_i64]
  simp only [go9,h1];rw [zBM c ps (n+1) (by omega)]
  grind
theorem zHP (k:Int) {b:List UInt8} (hb:b.length<=1048576):zmX k b=some (((zas k b).1.length:Int),(zas k b).2):=by
 obtain ⟨h1,h2,h3,h4,h5⟩:=zxJ k b;unfold zmX zjp;rw [sb];simp only;have hgo:=zBM (zkb k b).2 (zkb k b).1 0 (by omega)
 grind [zGR,sb,zkd,zrD]
theorem zHG {k:Int} (hk:kNum k=true) {l:List Int} (h:∀w∈l,0<=w/\w<=18446744073709551615) (hl:l.length<=1048576):∀(d i:Nat),i+d=l.length->
  zjQ k l ((l.take i).flatMap (sPut k)) i=some (l.flatMap (sPut k)):=by
 intro d
 induction d with
 | zero=>
  intro i hi;refine zuS ?_;unfold zfM
  grind
 | succ d ih=>
  intro i hi;have wP:i<l.length:=by omega
  have hw:=h _ (xH wP);have wS:=ziD (k:=k) hw;have hpre:∀m:List Int,(∀w∈m,0<=w/\w<=18446744073709551615)->(m.flatMap (sPut k)).length<=10*m.length:=by
   intro m hm
   induction m with
   | nil=>simp
   | cons x m ihm=>
    have h1:=ziD (k:=k) (hm x xz);have h2:=ihm (fun w hw=>hm w (xA _ hw))
    grind
  have hp:=hpre (l.take i) (fun w hw=>h w (pW hw));have hti:(l.take i).length=i:=by rw [xZ];omega
  have hb:zfM k l ((l.take i).flatMap (sPut k)) i=some (.inl ((l.take (i+1)).flatMap (sPut k),((i+1:Nat):Int))):=by
   unfold zfM;rw [uM,zag rfl wP,sb,zBd hw,sb,hk,xy rfl];simp only;rw [zeD (by omega),sb,uO,uA wP,yH];simp
  rw [zuR hb]
  grind
theorem zCY (k:Int) {l:List Int} (h:∀w∈l,0<=w/\w<=18446744073709551615) (hl:l.length<=1048576):zmY k l=some (if kNum k then (l.flatMap (sPut k),0) else ([],2)):=by
 unfold zmY;rw [zzB,sb];cases hk:kNum k with
 | false=>rw [zDG hk];rfl
 | true=>
  have hlp:=zHG hk h hl l.length 0 (by omega)
  grind [zGT,sb]
abbrev PVw:=zg
def prV (v:Vw):PVw:=⟨v.R,v.Field,v.Run⟩
def zCT (b:List UInt8) (r:Rec):List UInt8:=(b.drop r.From.toNat).take (r.To.toNat - r.From.toNat)
theorem zxM (m:Mes) (he:∀p c,e=some (p,c)->3<=c/\c<=5):∀(l:List Rec) (p c:Int),(vws m e l).2=some (p,c)->3<=c/\c<=6
 | [],p,c,h=>by
  cases e with
  | none=>cases h
  | some q=>
   simp only [vws,qV,yp,yw] at h;have:=he q.1 q.2 rfl;omega
 | r::l,p,c,h=>by
  rw [vws] at h;rcases zec m r.Number r.Wire with hv| ⟨hv,_⟩| ⟨i,run,hv,_⟩
  ·simp only [hv,yp,yw] at h;omega
  ·simp only [hv] at h;exact zxM m he l p c h
  ·simp only [hv] at h;exact zxM m he l p c h
theorem zNF (b:List UInt8):∀p c,(spl 0 b).2=some (p,c)->3<=c/\c<=5:=fun p c h=>by
 have:=(zKn 0 b p c h).1;omega
theorem zum (m:Mes) (b:List UInt8):(zaZ m b).2.2=0/\(vws m (spl 0 b).2 (spl 0 b).1).2=none/\(zaZ m b).1=(vws m (spl 0 b).2 (spl 0 b).1).1/\(zaZ m b).2.1=0\/(3<=(zaZ m b).2.2/\(zaZ m b).2.2<=6)/\(zaZ m b).1=[]:=by
 unfold zaZ vwR;cases h:(vws m (spl 0 b).2 (spl 0 b).1).2 with
 | none=>exact .inl ⟨rfl,rfl,rfl,rfl⟩
 | some q=>exact .inr ⟨zxM m (zNF b) _ q.1 q.2 h,rfl⟩
theorem zxN :∀{l:List Rec},(vws m e l).2=none->e=none/\(vws m e l).1.map (·.R)=l
 | [],h=>by
  cases e with
  | none=>exact ⟨rfl,rfl⟩
  | some q=>simp [vws] at h
 | r::l,h=>by
  rw [vws] at h|-;rcases zec m r.Number r.Wire with hv| ⟨hv,_⟩| ⟨i,run,hv,_⟩
  ·simp only [hv] at h;cases h
  ·simp only [hv] at h|-;have:=zxN h;exact ⟨this.1,by simp [this.2]⟩
  ·simp only [hv] at h|-;have:=zxN h;exact ⟨this.1,by simp [this.2]⟩
theorem zDA :∀{l:List Rec},∀v∈(vws m e l).1,v.R∈l/\vw m v.R.Number v.R.Wire= .inr (v.Field,v.Run)
 | [],v,h=>by cases h
 | r::l,v,h=>by
  rw [vws] at h;rcases zec m r.Number r.Wire with hv| ⟨hv,_⟩| ⟨i,run,hv,_⟩
  ·simp only [hv] at h;cases h
  all_goals
   simp only [hv] at h;rcases xC.1 h with rfl| h
   ·exact ⟨xz,hv⟩
   ·have:=zDA v h;exact ⟨xA _ this.1,this.2⟩
theorem zBq (h:v∈(zaZ m b).1):v.R∈(spl 0 b).1/\vw m v.R.Number v.R.Wire= .inr (v.Field,v.Run):=by
 rcases zum m b with ⟨_,_,e,_⟩| ⟨_,e⟩
 ·rw [e] at h;exact zDA v h
 ·rw [e] at h;cases h
theorem zEZ (b:List UInt8) (base:Nat) (l:List UInt8):l=b.drop base->base<=b.length->(spl base l).2=none->(spl base l).1.flatMap (zCT b)=l:=by
 refine zhd (fun base l=>l=b.drop base->base<=b.length->(spl base l).2=none->(spl base l).1.flatMap (zCT b)=l) ?_ ?_ ?_ base l
 ·intro base _ _ _;rw [zei];rfl
 ·intro base l c hl h _ _ _ hn;rw [zgb hl h] at hn;cases hn
 ·intro base l n w a t hl h _ g1 g2 g3 ih hld hbase hn;have wS:l.length=b.length - base:=by rw [hld];simp
  rw [zcO hl h] at hn|-;have ih':=ih (by rw [hld,yA]) (by omega) hn;have hr:zCT b ⟨n,w,(base:Int),((base+a:Nat):Int),((base+t:Nat):Int)⟩=l.take t:=by
   unfold zCT;simp only [xK];rw [<-hld,show base+t - base=t by omega]
  rw [xM,hr,ih',qx]
theorem zqs (t:zap):zkT t=some (zbL t.Number t.Wire):=by
 have e:zhx t.Wire=some (decide (t.Wire=0\/t.Wire=1\/t.Wire=2\/t.Wire=5)):=by
  unfold zhx;by_cases h0:t.Wire=0
  ·simp [h0]
  by_cases h1:t.Wire=1
  ·simp [h1]
  by_cases h2:t.Wire=2
  ·simp [h2]
  by_cases h5:t.Wire=5
  ·simp [h5]
  simp [h0,h1,h2,h5]
 unfold zkT zbL;rw [e];by_cases h1:1<=t.Number
 ·by_cases h2:t.Number<=536870911
  ·rw [itT (by simpa using h1),itT (by simpa using h2),sb,sb];simp [h1,h2]
  ·rw [itT (by simpa using h1),itF (by simpa using h2),sb];simp [h2]
 ·rw [itF (by simpa using h1),sb];simp [h1]
theorem zOg (w:Nat) (h:w<18446744073709551616):andI .u64 (w:Int) 7=((w%8:Nat):Int):=by
 have e:=zBz (k:= .u64) rfl (a:=w) (b:=7) (by simpa [IntKind.bits] using h) (by simp [IntKind.bits]);have e2:w&&&7=w%8:=uF w 3;rw [e2] at e;exact e
theorem zOv (w:Nat):shrI .u64 (w:Int) 3=((w/8:Nat):Int):=zsG (k:= .u64) (a:=w) (b:=3) (by simp [IntKind.bits])
theorem zKC (b:List UInt8):zpz b=some ((⟨(tg b).1,(tg b).2.1⟩:zap),(tg b).2.2.1,(tg b).2.2.2):=by
 obtain ⟨h1,h2,h3,h4,h5,h6,h7⟩:=zhX b;unfold zpz tg;rw [zvC,sb];by_cases h:(rd b).2.2=0
 ·rw [itF (by simpa using h)];obtain ⟨w,hw⟩:∃w:Nat,(rd b).1=w:=⟨(rd b).1.toNat,by omega⟩;rw [hw] at h2|-;rw [zOv,zOg w (by omega)];have e0:i64.wrap ((w%8:Nat):Int)=(w:Int)%8:=by rw [uO];omega
  by_cases hg:4294967295<w
  ·have e1:i64.wrap (if (536870912:Int)<((w/8:Nat):Int) then 536870912 else ((w/8:Nat):Int))=536870912:=by
    split
    ·rfl
    ·rw [uO];omega
   rw [e0,e1,zqs,sb];have e2:zbL 536870912 ((w:Int)%8)=false:=by simp [zbL]
   simp only [e2];rw [uJ,zxz h (.inl (by rw [hw];omega))]
  ·have e1:i64.wrap (if (536870912:Int)<((w/8:Nat):Int) then 536870912 else ((w/8:Nat):Int))=(w:Int)/8:=by
    rw [xx (by omega),uO];omega
   rw [e0,e1,zqs,sb];simp only;cases ht:zbL ((w:Int)/8) ((w:Int)%8)
   ·rw [uJ,zxz h (.inr (by rw [hw];exact ht))]
   ·rw [uK,zFd h (by rw [hw,ht];simp;omega),hw]
 ·rw [itT (by simpa using h),zGL h]
theorem zNU {t:zap} (h:zbL t.Number t.Wire=true):zpA t=some ((tW t.Number t.Wire:Nat):Int):=by
 have hr:=zdf.1 h;obtain ⟨e,wP⟩:=zsJ h;unfold zpA;congr 1;obtain ⟨n,hn⟩:∃n:Nat,t.Number=n:=⟨t.Number.toNat,by omega⟩;obtain ⟨w,hw⟩:∃w:Nat,t.Wire=w:=⟨t.Wire.toNat,by omega⟩;have e3:tW t.Number t.Wire=8*n+w:=by omega
 rw [e3,hn,hw,wrap_u64,wrap_u64,qh (by omega) (by omega),qh (by omega) (by omega)];have e4:shlI .u64 (n:Int) 3=((n*8:Nat):Int):=by
  have h3:shlI .u64 (n:Int) 3=((n*8%18446744073709551616:Nat):Int):=by
   simp [shlI,IntKind.bits,wrap_u64]
  rw [h3,qF (by omega)]
 rw [e4,zvx rfl (by simp [IntKind.bits];omega) (by simp [IntKind.bits];omega),pN,zwU w n 3 (by omega)];congr 1;omega
theorem zMa {t:zap} (b:List UInt8) (hb:b.length<=1099511627776) (h:zbL t.Number t.Wire=true):znX b t=some (b++enc (tW t.Number t.Wire),0):=by
 obtain ⟨_,wP⟩:=zsJ h;unfold znX;rw [zqs,sb,h,uK,zNU h,sb,zEQ b (by omega) hb,sb]
theorem zMb {t:zap} (b:List UInt8) (h:zbL t.Number t.Wire=false):znX b t=some ([],2):=by
 unfold znX;rw [zqs,sb,h,uJ]
theorem zGD (hw:w=0\/w=1\/w=2\/w=5) (hb:b.length<=1048576):
  zhY w b=some (match zgE w 0 b with| .inl c=>(0,(if w=0 then (rd b).2.1 else 0),c)| .inr (a,t)=>((a:Int),(t:Int),0)):=by
 obtain ⟨h1,h2,h3,h4,h5,h6,h7⟩:=zhX b;unfold zhY zgE;rcases hw with rfl| rfl| rfl| rfl
 ·rw [uJ,zGC,sb,xy rfl];by_cases h:(rd b).2.2=0
  ·rw [xx (by simpa using h)];simp only [h,xR];congr 3;simp;omega
  ·rw [xy h];rfl
 ·rw [uK,uJ,sb,uK,xx (show ¬((1:Int)=0) by omega),xx (show ¬((1:Int)=2) by omega)];simp only;have e:u64.wrap (i64.wrap ((b.length:Int) - 0))=(b.length:Int):=by rw [uO,wrap_u64];omega
  rw [e];by_cases g:b.length<8
  ·rw [uM,xy (by simpa using g)];rfl
  ·rw [uN,xx (by simpa using g)];rfl
 ·rw [uK,uK,uK,uJ,zvC,sb,sb,xx (show ¬((2:Int)=0) by omega),xy (show (2:Int)=2 from rfl)];by_cases h:(rd b).2.2=0
  ·have hk:=h7 h;rw [itF (by simpa using h),xx (show ¬((rd b).2.2≠0) from fun g=>g h)];simp only;have e:u64.wrap (i64.wrap ((b.length:Int) - (rd b).2.1))=(b.length:Int) - (rd b).2.1:=by rw [uO,wrap_u64];omega
   rw [e];by_cases g:(b.length:Int) - (rd b).2.1<(rd b).1
   ·rw [itT (by simpa using g),xy g];rfl
   ·rw [itF (by simpa using g),xx g,wrap_i64 (x:=(rd b).1) (by omega),uO];simp;omega
  ·rw [itT (by simpa using h),xy h];rfl
 ·rw [uK,uK,uJ,sb,uK,xx (show ¬((5:Int)=0) by omega),xx (show ¬((5:Int)=2) by omega)];simp only;have e:u64.wrap (i64.wrap ((b.length:Int) - 0))=(b.length:Int):=by rw [uO,wrap_u64];omega
  rw [e];by_cases g:b.length<4
  ·rw [uM,xy (by simpa using g)];rfl
  ·rw [uN,xx (by simpa using g)];rfl
theorem zBF (w:Int) (k:Nat) (m:List UInt8):zgE w k m=match zgE w 0 m with| .inl c=> .inl c| .inr (a,t)=> .inr (k+a,k+t):=by
 unfold zgE
 repeat' split
 all_goals first
  | rfl
  | (rename_i h1 h2;injection h2 with h3;injection h3 with h4 h5;subst h4 h5;simp<;>omega)
  | simp_all<;>omega
theorem zsl (hb:b.length<=1048576) (at5:Int):zfe b at5=some (zcJ b at5):=by
 unfold zfe zcJ;by_cases h:at5<0\/at5>=b.length
 ·rw [itT (by simpa using h),xy h];rfl
 ·rw [itF (by simpa using h),xx h];obtain ⟨p,rfl⟩:∃p:Nat,at5=p:=⟨at5.toNat,by omega⟩;rw [zrK rfl rfl (by omega),sb,zKC,sb,xK];have hdl:(b.drop p).length=b.length - p:=by simp
  rcases zDl (b.drop p) with ⟨c,ht,hc⟩| ⟨n,w,k,ht,hr,k1,k2,k3,hrd⟩
  ·have e:rec5 (b.drop p)= .inl c:=by unfold rec5;rw [ht,xy (by simp only;omega)]
   rw [e,ht,uM];rfl
  ·obtain ⟨k,rfl⟩:∃j:Nat,k=j:=⟨k.toNat,by omega⟩
   have e:rec5 (b.drop p)=match zgE w k ((b.drop p).drop k) with
    | .inl c=> .inl c
    | .inr p=> .inr (n,w,p.1,p.2):=by unfold rec5;rw [ht];simp<;>rfl
   have hdd:(b.drop p).drop k=b.drop (p+k):=by rw [yA]
   have hml:(b.drop (p+k)).length=b.length - (p+k):=by simp
   have ew:i64.wrap ((p:Int)+k)=((p+k:Nat):Int):=by rw [uO];push_cast;rfl
   rw [e,ht,uL,hdd];simp only [ew];rw [zrK rfl rfl (by omega),sb,zGD (zdf.1 hr).2.2 (by omega),sb,zBF w k];rcases zjH w 0 (b.drop (p+k)) with ⟨c,hc,hc2⟩| ⟨a,t,hc,_,_,hle,_⟩
   ·rw [hc];simp only;rw [uM];rfl
   ·rw [hc];simp only;rw [uK,uO,uO];simp only [yp,yw,zt.mk.injEq,qr,qJ];push_cast;omega
theorem zLh {w:Int} {v:List UInt8} (hw:w=0\/w=1\/w=2\/w=5) (hv:v.length<=1048576):zjP w v=some (zbT w v):=by
 obtain ⟨h1,h2,h3,h4,h5,h6,h7⟩:=zhX v;unfold zjP;by_cases h:w=2
 ·rw [itT (by simpa using h)];subst h;rfl
 ·rw [itF (by simpa using h),zGD hw hv,sb];unfold zgE zbT;congr 1;rcases hw with rfl| rfl| rfl| rfl
  ·rw [xy rfl,xy rfl];by_cases hg:(rd v).2.2=0
   ·rw [xx (by simpa using hg)];have e:(((0+(rd v).2.1.toNat:Nat):Int)==(v.length:Int))=decide ((rd v).2.1=v.length):=by rw [zFs];exact decide_eq_decide.2 (by omega)
    simp only [e,hg,qr];rfl
   ·rw [xy hg];simp [hg]
  ·by_cases g:v.length<8
   ·have:v.length≠8:=by omega
    simp [g,this]
   ·by_cases g8:v.length=8
    ·simp [g8]
    ·have:¬((8:Int)=v.length):=by omega
     simp [g,g8,this]
  ·exact absurd rfl h
  ·by_cases g:v.length<4
   ·have:v.length≠4:=by omega
    simp [g,this]
   ·by_cases g8:v.length=4
    ·simp [g8]
    ·have:¬((4:Int)=v.length):=by omega
     simp [g,g8,this]
theorem zCO {n w:Int} {v:List UInt8} (h:zbL n w=true) (hv:v.length<=1048576):(put5 n w v).length<=v.length+20:=by
 obtain ⟨_,wP⟩:=zsJ h;have h1:=zim (v:=tW n w) (by omega);have h2:=zim (v:=v.length) (by omega);rw [zgK];split<;>omega
theorem zAX {b v:List UInt8} {n w:Int} (hb:b.length<=1048576) (hv:v.length<=1048576):
  zhH b n w v=some (if zbL n w=true/\zbT w v=true then (b++put5 n w v,0) else ([],2)):=by
 unfold zhH;cases h:zbL n w
 ·rw [zMb [] h,sb,uJ,sb,uJ];rfl
 ·have hp:=zCO h hv;rw [zMa [] (by simp) h,sb,uK,zLh (zdf.1 h).2.2 hv,sb,sb];cases hf:zbT w v
  ·rw [uJ];rfl
  ·rw [uK];have e:u64.wrap (v.length:Int)=(v.length:Int):=by rw [wrap_u64,qh (by omega) (by omega)]
   obtain ⟨_,wP⟩:=zsJ h;have h1:=zim (v:=tW n w) (by omega);by_cases hw:w=2
   ·have hl:=zgK n w v;rw [xy hw] at hl;rw [itT (by simpa using hw),e,zEQ _ (by omega) (by simp;omega),sb,zmz (by simp) (by simp;omega),sb];simp [put5,hw]
   ·have hl:=zgK n w v;rw [xx hw] at hl;rw [itF (by simpa using hw),zmz (by simp) (by simp;omega),sb];simp [put5,hw]
theorem zGB {b v:List UInt8} {n:Int} (hb:b.length<=1048576) (hv:v.length<=1048576):
  zjm b n v=some (if zbL n 2=true then b++put5 n 2 v else b):=by
 unfold zjm;rw [zAX hb hv,sb];have hf:zbT 2 v=true:=rfl;simp only [hf,qJ];cases h:zbL n 2
 ·rw [xx (show ¬(false=true) by simp),xx (show ¬(false=true) by simp),uJ,zmz (by simp) (by simp;omega),sb];simp
 ·rw [xy rfl,xy rfl,uK]
abbrev Head:=zV
abbrev Role:=zab
def rol (m:Mes) (h:Head):Role:=match vw m h.number h.wire with
 | .inl c=>⟨0,false,c⟩
 | .inr (i,run)=>⟨i,run,0⟩
theorem zIi (hm:m.Fields.length<=1152921504606846976) (n:Int):zlH m n=some (fldI m n):=by
 unfold zlH zaA;have h:=ztr (fun f:Fld=>f.Number==n) m.Fields (fun i=>zaa m.Fields n i) (zbr (by unfold zP;rw [uL])) (fun i hi=>by
  by_cases hp:(m.Fields[i].Number==n)=true
  ·rw [xy hp];exact zbr (by unfold zP ziL;rw [uM,zag rfl hi,sb,sb,itT hp])
  ·rw [xx hp];exact zdz (by unfold zP ziL;rw [uM,zag rfl hi,sb,sb,itF (pu hp),uO];rfl)) m.Fields.length 0 (by omega) (fun j _ h=>by omega)
 have h':zaa m.Fields n 0=_:=h;rw [h',sb];unfold fldI zje;cases m.Fields.findIdx? (fun f:Fld=>f.Number==n) with
 | none=>rfl
 | some i=>rfl
theorem zIj (f:Fld) (w:Int):zlI f w=some (decide (f.Repeated=true/\kNum f.Kind=true/\w=2)):=by
 unfold zlI;cases f.Repeated
 ·simp [sb]
 ·by_cases hw:w=2
  ·subst hw;rw [itT rfl,itT (c:=(2:Int)==2) rfl,zwy,sb,sb];simp_all
  grind
theorem zKK (k w:Int):znn k w=some (decide (¬(zbJ k=false\/zau k≠w))):=by
 unfold znn;rw [zCv,sb];cases zbJ k with
 | false=>rfl
 | true=>
  grind
theorem zFi (hm:m.Fields.length<=1152921504606846976) (h:Head):zif m h=some (rol m h):=by
 unfold zif rol;rw [zIi hm,sb]
 grind [vw,sb,wrap_i64,zcC,zag,zby,zIj,zKK]
def zod (m:Mes) (met:List (Head×Role)):Prop:=∀h x,mget met h=some x->x=rol m h
theorem zod.nil (m:Mes):zod m []:=fun h x g=>by cases g
theorem zod.put (g:zod m met) (h:Head):zod m (mput met h (rol m h)):=fun j x hx=>by
 rw [zez] at hx;by_cases e:j=h
 ·grind
 ·rw [xx e] at hx;exact g j x hx
theorem zwG (hm:m.Fields.length<=1152921504606846976) (hb:b.length<=1048576) (p:Int) (g:zod m met):
  ∃wU,zkX m b p met=some (prV (zdF m b p).1,(zdF m b p).2,wU)/\zod m wU:=by
 unfold zkX zdF;rw [zsl hb,sb];by_cases h:(zcJ b p).2=0
 ·rw [itF (by simpa using h),xx (show ¬((zcJ b p).2≠0) from fun q=>q h)]
  generalize (zcJ b p).1=r
  have key:∃wU,(if (!(mget met (⟨r.Number,r.Wire⟩:Head)).isSome) then (zif m (⟨r.Number,r.Wire⟩:Head)>>=fun wN=>some ((mput met (⟨r.Number,r.Wire⟩:Head) wN),wN.field,wN.run,wN.e))
    else some (met,((mget met (⟨r.Number,r.Wire⟩:Head)).getD (⟨0,false,0⟩:Role)).field,((mget met (⟨r.Number,r.Wire⟩:Head)).getD (⟨0,false,0⟩:Role)).run,((mget met (⟨r.Number,r.Wire⟩:Head)).getD (⟨0,false,0⟩:Role)).e))=some (wU,(rol m ⟨r.Number,r.Wire⟩).field,(rol m ⟨r.Number,r.Wire⟩).run,(rol m ⟨r.Number,r.Wire⟩).e)/\zod m wU:=by
   cases hg:mget met (⟨r.Number,r.Wire⟩:Head) with
   | none=>
    rw [uJ,zFi hm,sb];exact ⟨_,rfl,g.put _⟩
   | some x=>
    rw [uK];refine ⟨met,?_,g⟩;rw [<-g _ x hg];rfl
  obtain ⟨wU,hk,hM⟩:=key;refine ⟨wU,?_,hM⟩;rw [hk,sb];unfold rol;rcases zec m r.Number r.Wire with hv| ⟨hv,_⟩| ⟨i,run,hv,_⟩
  ·simp only [hv];rfl
  ·simp only [hv];rfl
  ·simp only [hv];rfl
 ·rw [itT (by simpa using h),xy h];exact ⟨met,rfl,g⟩
theorem zDz (hm:m.Fields.length<=1152921504606846976) (hb:b.length<=1048576) (p:Int):zkW m b p=some (prV (zdF m b p).1,(zdF m b p).2):=by
 obtain ⟨wU,h,_⟩:=zwG hm hb p (zod.nil m);unfold zkW;rw [h,sb]
theorem zIg (hm:m.Fields.length<=1152921504606846976) (hb:b.length<=1048576) (base:Nat) (l:List UInt8):∀(out:List Vw) (met:List (Head×Role)),base<=b.length->l=b.drop base->out.length<=base->zod m met->
  zgW b m (out.map prV) met base=some (match (vws m (spl base l).2 (spl base l).1).2 with| none=> .inl ((out++(vws m (spl base l).2 (spl base l).1).1).map prV)| some (p,c)=> .inr (p,c)):=by
 refine zhd (fun base l=>∀(out:List Vw) (met:List (Head×Role)),base<=b.length->l=b.drop base->out.length<=base->zod m met->
  zgW b m (out.map prV) met base=some (match (vws m (spl base l).2 (spl base l).1).2 with| none=> .inl ((out++(vws m (spl base l).2 (spl base l).1).1).map prV)| some (p,c)=> .inr (p,c))) ?_ ?_ ?_ base l
 ·intro base out met hbase hl ho hM;have:b.length<=base:=by have:=congrArg List.length hl;simp at this;omega
  rw [zei];simp only [vws,uk,xW];refine zkj ?_;unfold zex
  grind
 ·intro base l c hl h hc out met hbase hld ho hM;subst hld;have wP:base<b.length:=by have:=qZ.2 hl;simp at this;omega
  rw [zgb hl h];simp only [vws,qV];refine zkj ?_;unfold zex;have e:zcJ b base=(zrec,c):=by unfold zcJ;rw [xx (by omega),xK,h]
  have e2:zdF m b base=(zvw,c):=by unfold zdF;rw [e,xy (by simp only;omega)]
  obtain ⟨wU,hk,_⟩:=zwG hm hb base hM
  grind
 ·intro base l n w a t hl h _ g1 g2 g3 ih out met hbase hld ho hM;subst hld;simp only [yi] at g3;have wP:base<b.length:=by omega
  rw [zcO hl h];have e:zcJ b base=(⟨n,w,base,(base+a:Nat),(base+t:Nat)⟩,0):=by
   unfold zcJ;rw [xx (by omega),xK,h];push_cast;rfl
  rw [vws];obtain ⟨wU,hk,hM'⟩:=zwG hm hb base hM;rcases zec m n w with hv| ⟨hv,_⟩| ⟨i,run,hv,_,hi⟩
  ·have e2:zdF m b base=(zvw,6):=by unfold zdF;rw [e];simp only [ne_eq,qu,yC,hv]
   simp only [hv];refine zkj ?_;unfold zex
   grind
  ·have e2:zdF m b base=(⟨⟨n,w,base,(base+a:Nat),(base+t:Nat)⟩, -1,false⟩,0):=by unfold zdF;rw [e];simp only [ne_eq,qu,yC,hv]
   simp only [hv];refine (zoo (l':=(out++([⟨⟨n,w,base,(base+a:Nat),(base+t:Nat)⟩, -1,false⟩]:List Vw)).map prV) (wU:=wU) (fromv':=((base+t:Nat):Int)) ?_).trans ?_
   ·unfold zex;rw [uM,hk,sb,e2,uK,zeD (by simp;omega),sb,yN];rfl
   ·rw [ih _ wU (by omega) (by rw [yA]) (by simp;omega) hM']
    grind
  ·have e2:zdF m b base=(⟨⟨n,w,base,(base+a:Nat),(base+t:Nat)⟩,i,run⟩,0):=by unfold zdF;rw [e];simp only [ne_eq,qu,yC,hv]
   simp only [hv];refine (zoo (l':=(out++([⟨⟨n,w,base,(base+a:Nat),(base+t:Nat)⟩,i,run⟩]:List Vw)).map prV) (wU:=wU) (fromv':=((base+t:Nat):Int)) ?_).trans ?_
   ·unfold zex;rw [uM,hk,sb,e2,uK,zeD (by simp;omega),sb,yN];rfl
   ·rw [ih _ wU (by omega) (by rw [yA]) (by simp;omega) hM']
    grind
theorem zMg (hm:m.Fields.length<=1152921504606846976) (hb:b.length<=1048576):zpM m b=some ((zaZ m b).1.map prV,(zaZ m b).2.1,(zaZ m b).2.2):=by
 unfold zpM;have h:=zIg hm hb 0 b [] [] (xP _) rfl (xE _) (zod.nil m);have h':zgW b m [] [] 0=_:=h;rw [h',sb];unfold zaZ vwR;cases (vws m (spl 0 b).2 (spl 0 b).1).2 with
 | none=>rfl
 | some p=>rfl
theorem zGO (m:Mes) (b:List UInt8):(zaZ m b).1.length<=b.length:=by
 grind [zum,zxN,zLV]
def zom (m:Mes) (g:Int->List UInt8->Nat) (b:List UInt8) (r:Rec):Nat:=match vw m r.Number r.Wire with
 | .inl _=>0
 | .inr (i,run)=>if i<0\/run=true then 0 else if (zv m i).Kind=17 then g (zv m i).Of (valB b r)+1 else 0
def zlU (m:Mes) (g:Int->List UInt8->Nat) (b:List UInt8):List Rec->Nat
 | []=>0
 | r::l=>max (zom m g b r) (zlU m g b l)
def zjd (s:List Mes):Nat->Int->List UInt8->Nat
 | 0,k,b=>zlU (zp s k) (fun _ _=>0) b (spl 0 b).1
 | d+1,k,b=>zlU (zp s k) (zjd s d) b (spl 0 b).1
theorem zrS :∀{l:List Rec},zlU m g b l<=e↔∀r∈l,zom m g b r<=e
 | []=>by simp [zlU]
 | r::l=>by
  have ih:=zrS (m:=m) (g:=g) (b:=b) (e:=e) (l:=l);unfold zlU;rw [List.forall_mem_cons,<-ih];omega
theorem zqp (h:zcS m a b r=none) (hc0:c=none↔e=0)
  (hc:∀q,a=some q->∀q',c=some q'->∀k v,q k v=none->(q' k v=none↔g k v+1<=e)):zcS m c b r=none↔zom m g b r<=e:=by
 unfold zcS at h|-;unfold zom;cases hv:vw m r.Number r.Wire with
 | inl x=>rw [hv] at h;cases h
 | inr p=>
  obtain ⟨i,run⟩:=p;rw [hv] at h;simp only at h|-;by_cases hi:i<0
  ·grind
  ·rw [xx hi] at h|-;unfold zhn at h|-;by_cases hr:run=true
   ·grind
   ·rw [xx hr] at h|-;rw [xx (show ¬(i<0\/run=true) from fun q=>q.elim hi hr)];by_cases h15:(zv m i).Kind=15/\ziB (valB b r)=false
    ·grind
    ·rw [xx h15] at h|-;by_cases wR:(zv m i).Kind=17
     ·rw [xy wR] at h|-;rw [xy wR];cases a with
      | none=>cases h
      | some q=>
       simp only at h;cases hq:q (zv m i).Of (valB b r) with
       | some z=>rw [hq] at h;cases h
       | none=>
        cases c with
        | none=>
         grind
        | some q'=>
         grind
     grind
theorem zBO (s:List Mes):∀(d e:Nat) (k:Int) (b:List UInt8),e<=d->zS s d k b=none->(zS s e k b=none↔zjd s d k b<=e)
 | 0,e,k,b,he,h=>by
  have:e=0:=by omega
  subst this;refine ⟨fun _=>zrS.2 (fun r hr=>?_),fun _=>h⟩;have h':=(zct.1 h).1 r hr;exact (zqp (a:=none) (c:=none) h' (by simp) (fun q hq q' hq'=>nomatch hq')).1 h'
 | d+1,0,k,b,he,h=>by
  have h':zdy (zp s k) (some (zS s d)) b (spl 0 b)=none:=h;rw [zct] at h';show zdy (zp s k) none b (spl 0 b)=none↔zlU _ _ _ _<=0;rw [zct,zrS];constructor
  ·intro hh r hr;exact (zqp (a:=some (zS s d)) (c:=none) (h'.1 r hr) (by simp) (fun q hq q' hq'=>nomatch hq')).1 (hh.1 r hr)
  ·intro hh;exact ⟨fun r hr=>(zqp (a:=some (zS s d)) (c:=none) (h'.1 r hr) (by simp) (fun q hq q' hq'=>nomatch hq')).2 (hh r hr),h'.2⟩
 | d+1,e+1,k,b,he,h=>by
  have h':zdy (zp s k) (some (zS s d)) b (spl 0 b)=none:=h;rw [zct] at h';show zdy (zp s k) (some (zS s e)) b (spl 0 b)=none↔zlU _ _ _ _<=e+1;rw [zct,zrS];have key:∀r∈(spl 0 b).1,zcS (zp s k) (some (zS s e)) b r=none↔zom (zp s k) (zjd s d) b r<=e+1:=fun r hr=>
   zqp (a:=some (zS s d)) (h'.1 r hr) (by simp) (fun q hq q' hq' k v hk=>by
    cases hq;cases hq';have:=zBO s d e k v (by omega) hk;rw [this];omega)
  exact ⟨fun hh r hr=>(key r hr).1 (hh.1 r hr),fun hh=>⟨fun r hr=>(key r hr).2 (hh r hr),h'.2⟩⟩
abbrev ziX:=zo
def zgD (s:List Mes) (met:List (ziX×PVw)):Prop:=∀h x,mget met h=some x->vw (zp s h.message) h.number h.wire= .inr (x.Field,x.Run)
theorem zgD.nil (s:List Mes):zgD s []:=fun h x g=>by cases g
theorem zgD.put (g:zgD s met) (hv:vw (zp s h.message) h.number h.wire= .inr (v.Field,v.Run)):zgD s (mput met h v):=fun j x hx=>by
 rw [zez] at hx;by_cases e:j=h
 ·grind
 ·rw [xx e] at hx;exact g j x hx
theorem zDH {s:List Mes} {k:Nat} (hk:k<s.length) (hm:(zp s k).Fields.length<=1152921504606846976) {b:List UInt8} (hb:b.length<=1048576) (p:Int) {t:Nat} (ht:t<=b.length) {met:List (ziX×PVw)} (g:zgD s met):
  ∃wU,zgn ⟨s,b,met⟩ k p t=some (prV (zdF (zp s k) (b.take t) p).1,(zdF (zp s k) (b.take t) p).2,wU)/\zgD s wU:=by
 have hbt:(b.take t).length<=1048576:=by rw [xZ];omega
 have hcut:cut b 0 (t:Int)=some (b.take t):=by
  rw [zhl (i:=0) (j:=t) rfl rfl (xP _) ht];simp
 have hidx:idx s (k:Int)=some (zp s k):=by rw [zag rfl hk,zci hk]
 have hvl:=zDz hm hbt p;unfold zgn;simp only;rw [hcut,sb,zsl hbt,sb];unfold zdF at hvl|-;by_cases h:(zcJ (b.take t) p).2=0
 ·rw [itF (by simpa using h),xx (show ¬((zcJ (b.take t) p).2≠0) from fun q=>q h)];rw [xx (show ¬((zcJ (b.take t) p).2≠0) from fun q=>q h)] at hvl
  generalize (zcJ (b.take t) p).1=r at hvl|-
  cases hg:mget met (⟨(k:Int),r.Number,r.Wire⟩:ziX) with
  | none=>
   rw [uJ,hidx,sb,hvl,sb];cases hv:vw (zp s k) r.Number r.Wire with
   | inl c=>
    have hc:c=6:=by
     grind [zec]
    subst hc;exact ⟨met,by rw [uJ];rfl,g⟩
   | inr q=>
    obtain ⟨i,run⟩:=q;refine ⟨_,?_,g.put (h:=⟨(k:Int),r.Number,r.Wire⟩) (v:=prV ⟨r,i,run⟩) hv⟩;rfl
  | some x=>
   have hv:=g _ _ hg;simp only at hv;rw [uK,hv];exact ⟨met,rfl,g⟩
 ·rw [itT (by simpa using h),xy h];exact ⟨met,rfl,g⟩
def zoM (f:Fld) (run:Bool) (v:List UInt8):Int:=if run=true then (zof f.Kind v).2 else if f.Kind=15/\ziB v=false then 7 else if f.Kind=17 then 8 else 0
theorem zIh (f:Fld) (run:Bool) (hv:v.length<=1048576):zka f run v=some (zoM f run v):=by
 unfold zka zoM
 grind [zas,zof,zuf,sb,zHP]
abbrev Find:=zA
def okR (o:Option (Int×Int)) (a dp:Nat) (r:Find):Prop:=match o with
 | none=>r=⟨(dp:Int),0,0⟩
 | some (p,c)=>r.place=(a:Int)+p/\r.e=c
def zxw (s:List Mes):Nat->zkn
 | 0=>none
 | d+1=>some (zS s d)
def ztl (s:List Mes):Nat->Int->List UInt8->Nat
 | 0=>fun _ _=>0
 | d+1=>zjd s d
theorem zHh (s:List Mes) (d:Nat) (k:Int) (b:List UInt8):zS s d k b=zdy (zp s k) (zxw s d) b (spl 0 b):=by cases d<;>rfl
theorem zLa (s:List Mes) (d:Nat) (k:Int) (b:List UInt8):zjd s d k b=zlU (zp s k) (ztl s d) b (spl 0 b).1:=by cases d<;>rfl
theorem zKv (s:List Mes) (d:Nat):∀g,zxw s d=some g->zvK g:=fun g h=>by
 cases d with
 | zero=>cases h
 | succ d=>cases h;exact zli s d
theorem zLK (b:List UInt8) (t a x y:Nat) (h:a+y<=t):(((b.take t).drop a).drop x).take (y - x)=(b.take (a+y)).drop (a+x):=by
 rw [yA,qq,qq,qi];congr 1;omega
theorem zIm {s:List Mes} {k:Nat} (hk:k<s.length) (hm:(zp s k).Fields.length<=1152921504606846976) {b:List UInt8} (hb:b.length<=1048576) {d:Int} {a t:Nat} (hat:a<=t) (ht:t<=b.length) {sub:zkn} {gd:Int->List UInt8->Nat}
  (hg:∀g,sub=some g->zvK g) {recv:zav->Int->zg->Int->Option (zA×(List (zo×zg)))} {met0:List (ziX×PVw)}
  (hval:∀met,zgD s met->∀(n w i:Int) (run:Bool) (base x y:Nat),vw (zp s k) n w= .inr (i,run)->1<=x->x<=y->a+base+y<=t->
   ∃R wU,recv ⟨s,b,met⟩ k ⟨⟨n,w,((a+base:Nat):Int),((a+(base+x):Nat):Int),((a+(base+y):Nat):Int)⟩,i,run⟩ d=some (R,wU)/\zgD s wU/\
    okR (zcS (zp s k) sub ((b.take t).drop a) ⟨n,w,base,(base+x:Nat),(base+y:Nat)⟩) a (zom (zp s k) gd ((b.take t).drop a) ⟨n,w,base,(base+x:Nat),(base+y:Nat)⟩) R)
  (base:Nat) (l:List UInt8):∀(met:List (ziX×PVw)) (dp:Nat),zgD s met->l=((b.take t).drop a).drop base->base<=t - a->
  ∃wU D,zgD s wU/\zbR d k recv t ⟨s,b,met0⟩ met ((a+base:Nat):Int) dp=some (match zdy (zp s k) sub ((b.take t).drop a) (spl base l) with
   | none=> .inl (wU,((max dp (zlU (zp s k) gd ((b.take t).drop a) (spl base l).1):Nat):Int))
   | some (p,c)=> .inr (wU,D,(a:Int)+p,c)):=by
 have hvl:((b.take t).drop a).length=t - a:=by simp;omega
 generalize hvv:(b.take t).drop a=v at hval hvl|-
 refine zhd (fun base l=>∀(met:List (ziX×PVw)) (dp:Nat),zgD s met->l=v.drop base->base<=t - a->
  ∃wU D,zgD s wU/\zbR d k recv t ⟨s,b,met0⟩ met ((a+base:Nat):Int) dp=some (match zdy (zp s k) sub v (spl base l) with
   | none=> .inl (wU,((max dp (zlU (zp s k) gd v (spl base l).1):Nat):Int))
   | some (p,c)=> .inr (wU,D,(a:Int)+p,c))) ?_ ?_ ?_ base l
 ·intro base met dp g hl hbase;have:v.length<=base:=by have:=congrArg List.length hl;simp at this;omega
  refine ⟨met,0,g,?_⟩;rw [zei];refine zdB ?_;unfold zaX;rw [uN];simp [zdy,zlU]
 ·intro base l c hl h hc met dp g hld hbase;have wP:a+base<t:=by have:=qZ.2 hl;rw [hld] at this;simp at this;omega
  have hdr:(b.take t).drop (a+base)=l:=by rw [hld,<-hvv,yA]
  have e:zcJ (b.take t) ((a+base:Nat):Int)=(zrec,c):=by unfold zcJ;rw [xx (by simp;omega),xK,hdr,h]
  have e2:zdF (zp s k) (b.take t) ((a+base:Nat):Int)=(zvw,c):=by unfold zdF;rw [e,xy (by simp only;omega)]
  obtain ⟨wU,hlk,g'⟩:=zDH hk hm hb ((a+base:Nat):Int) ht g;refine ⟨wU,0,g',?_⟩;rw [zgb hl h];refine zdB ?_;unfold zaX;simp only;rw [uM,hlk,sb,e2,uM];simp [zdy]
 ·intro base l n w x y hl h _ g1 g2 g3 ih met dp g hld hbase;have hly:base+y<=t - a:=by rw [hld] at g3;simp at g3;omega
  have hdr:(b.take t).drop (a+base)=l:=by rw [hld,<-hvv,yA]
  have e:zcJ (b.take t) ((a+base:Nat):Int)=(⟨n,w,((a+base:Nat):Int),((a+(base+x):Nat):Int),((a+(base+y):Nat):Int)⟩,0):=by
   unfold zcJ;rw [xx (by simp;omega),xK,hdr,h]
   grind
  obtain ⟨wU,hlk,g'⟩:=zDH hk hm hb ((a+base:Nat):Int) ht g
  have hfr:zdy (zp s k) sub v (spl base l)=match zcS (zp s k) sub v ⟨n,w,base,(base+x:Nat),(base+y:Nat)⟩ with
    | some p=>some p
    | none=>zdy (zp s k) sub v (spl (base+y) (l.drop y)):=by
   unfold zdy;rw [zcO hl h];simp only [List.findSome?_cons];cases zcS (zp s k) sub v ⟨n,w,base,(base+x:Nat),(base+y:Nat)⟩<;>rfl
  have hfd:zlU (zp s k) gd v (spl base l).1=max (zom (zp s k) gd v ⟨n,w,base,(base+x:Nat),(base+y:Nat)⟩) (zlU (zp s k) gd v (spl (base+y) (l.drop y)).1):=by
   rw [zcO hl h];rfl
  cases hv:vw (zp s k) n w with
  | inl c=>
   have hc:c=6:=by
    grind [zec]
   subst hc;have e2:zdF (zp s k) (b.take t) ((a+base:Nat):Int)=(zvw,6):=by unfold zdF;rw [e];simp only [ne_eq,qu,yC,hv]
   have hst:zcS (zp s k) sub v ⟨n,w,base,(base+x:Nat),(base+y:Nat)⟩=some ((base:Int),6):=by unfold zcS;simp only [hv]
   refine ⟨wU,0,g',?_⟩;rw [hfr,hst];refine zdB ?_;unfold zaX
   grind
  | inr q=>
   obtain ⟨i,run⟩:=q;have e2:zdF (zp s k) (b.take t) ((a+base:Nat):Int)=(⟨⟨n,w,((a+base:Nat):Int),((a+(base+x):Nat):Int),((a+(base+y):Nat):Int)⟩,i,run⟩,0):=by unfold zdF;rw [e];simp only [ne_eq,qu,yC,hv]
   obtain ⟨R,met2,hrv,g2',wV⟩:=hval wU g' n w i run base x y hv g1 g2 (by omega);have hpr:prV (⟨⟨n,w,((a+base:Nat):Int),((a+(base+x):Nat):Int),((a+(base+y):Nat):Int)⟩,i,run⟩:Vw)=⟨⟨n,w,((a+base:Nat):Int),((a+(base+x):Nat):Int),((a+(base+y):Nat):Int)⟩,i,run⟩:=rfl;cases hst:zcS (zp s k) sub v ⟨n,w,base,(base+x:Nat),(base+y:Nat)⟩ with
   | some pc=>
    obtain ⟨p,c⟩:=pc;have hgd:=zzJ hg g1 g2 (b:=v) (base:=base) (by omega) hst;rw [hst] at wV;obtain ⟨o1,o2⟩:=wV;refine ⟨met2,R.depth,g2',?_⟩;rw [hfr,hst];refine zdB ?_;unfold zaX
    grind
   | none=>
    rw [hst] at wV;have hok':R=⟨((zom (zp s k) gd v ⟨n,w,base,(base+x:Nat),(base+y:Nat)⟩:Nat):Int),0,0⟩:=wV;obtain ⟨met3,D,g3',h3⟩:=ih met2 (max dp (zom (zp s k) gd v ⟨n,w,base,(base+x:Nat),(base+y:Nat)⟩)) g2' (by rw [hld,yA]) hly;refine ⟨met3,D,g3',?_⟩;rw [hfr,hst,hfd,<-Nat.max_assoc,<-h3];refine zlO ?_;unfold zaX
    grind
theorem zMl {s:List Mes} (hr:zcB s) {k:Nat} (hk:k<s.length) {b:List UInt8} (hb:b.length<=1048576) {d fuel:Nat} (hd:d<=64) {a t:Nat} (ht:t<=b.length)
  (ih:∀e,d=e+1->∀(q A T:Nat) (met:List (ziX×PVw)),q<s.length->A<=T->T<=b.length->zgD s met->
   ∃R wU,zbg fuel ⟨s,b,met⟩ q A T e=some (R,wU)/\zgD s wU/\okR (zS s e q ((b.take T).drop A)) A (zjd s e q ((b.take T).drop A)) R)
  (met:List (ziX×PVw)) (g:zgD s met) (n w i:Int) (run:Bool) (base x y:Nat) (hv:vw (zp s k) n w= .inr (i,run)) (h1:1<=x) (h2:x<=y) (hy:a+base+y<=t):
  ∃R wU,zdK (fuel+1) ⟨s,b,met⟩ k ⟨⟨n,w,((a+base:Nat):Int),((a+(base+x):Nat):Int),((a+(base+y):Nat):Int)⟩,i,run⟩ d=some (R,wU)/\zgD s wU/\
    okR (zcS (zp s k) (zxw s d) ((b.take t).drop a) ⟨n,w,base,(base+x:Nat),(base+y:Nat)⟩) a (zom (zp s k) (ztl s d) ((b.take t).drop a) ⟨n,w,base,(base+x:Nat),(base+y:Nat)⟩) R:=by
 have hidx:idx s (k:Int)=some (zp s k):=by rw [zag rfl hk,zci hk]
 have hun:∀w' v',zdK (fuel+1) w' k v' d=zeQ (zbg fuel) (zdK fuel) w' k v' d:=fun _ _=>rfl
 have hvb:valB ((b.take t).drop a) ⟨n,w,base,(base+x:Nat),(base+y:Nat)⟩=(b.take (a+(base+y))).drop (a+(base+x)):=by
  unfold valB
  grind [zLK]
 rcases zec (zp s k) n w with h'| ⟨h',_⟩| ⟨j,run',h',_,hi⟩
 ·grind
 ·rw [hv] at h';obtain ⟨rfl,rfl⟩:i= -1/\run=false:=by simpa using h'
  refine ⟨⟨0,0,0⟩,met,?_,g,?_⟩
  ·rfl
  ·unfold zcS zom;simp only [hv];rfl
 ·rw [hv] at h';obtain ⟨rfl,rfl⟩:i=j/\run=run':=by simpa using h'
  have hfm:zv (zp s k) (j:Int)∈(zp s k).Fields:=by rw [zby hi];exact xH hi
  have hmem:zp s k∈s:=by rw [zci hk];exact xH hk
  have w7:run=true->(zv (zp s k) (j:Int)).Kind≠17:=fun hh wR=>by
   subst hh;have:=(zBs hv).1;rw [wR] at this;cases this
  have hcut:cut b ((a+(base+x):Nat):Int) ((a+(base+y):Nat):Int)=some ((b.take (a+(base+y))).drop (a+(base+x))):=by
   rw [zhl rfl rfl (by omega) (by omega),qq]
  have wS:((b.take (a+(base+y))).drop (a+(base+x))).length<=1048576:=by simp;omega
  unfold zcS zom;simp only [hv];rw [xx (show ¬((j:Int)<0) by omega),hvb];have hif:(if ((j:Int)<0\/run=true) then 0 else if (zv (zp s k) (j:Int)).Kind=17 then ztl s d (zv (zp s k) (j:Int)).Of ((b.take (a+(base+y))).drop (a+(base+x)))+1 else 0)=(if (zv (zp s k) (j:Int)).Kind=17 then ztl s d (zv (zp s k) (j:Int)).Of ((b.take (a+(base+y))).drop (a+(base+x)))+1 else 0):=by
   cases run with
   | false=>rw [xx (by simp)]
   | true=>rw [xy (.inr rfl),xx (w7 rfl)]
  rw [hif];simp only [hun];unfold zeQ;simp only;rw [itF (show ((j:Int)== -1)=false by simp),hidx,sb,zag (i:=j) rfl hi,sb,<-zby hi]
  generalize hvv:(b.take (a+(base+y))).drop (a+(base+x))=v at wS hcut|-
  have hof:=(hr.fld _ hmem _ hfm).sub
  generalize zv (zp s k) (j:Int)=f at hfm w7 hof|-
  by_cases hs:f.Kind=17/\0<d
  ·obtain ⟨e,rfl⟩:∃e,d=e+1:=⟨d - 1,by omega⟩;have hrf:run=false:=by
    cases run with
    | false=>rfl
    | true=>exact absurd hs.1 (w7 rfl)
   subst hrf;have hof':=hof hs.1;obtain ⟨q,hq⟩:∃q:Nat,f.Of=q:=⟨f.Of.toNat,by omega⟩;obtain ⟨R,wU,hR,g',wV⟩:=ih e rfl q (a+(base+x)) (a+(base+y)) met (by omega) (by omega) (by omega) g;rw [hvv] at wV;have hw1:i64.wrap (((e+1:Nat):Int) - 1)=(e:Int):=by rw [uO];omega
   refine ⟨⟨i64.wrap (R.depth+1),R.place,R.e⟩,wU,?_,g',?_⟩
   ·grind
   ·rw [xy hs.1];unfold zhn;rw [xx (by simp),xx (by rw [hs.1];simp),xy hs.1];simp only [zxw,ztl,hq];cases hf:zS s e q v with
    | none=>
     rw [hf] at wV;have hok':R=⟨((zjd s e q v:Nat):Int),0,0⟩:=wV;have hdl:=(zBO s e e q v (xE _) hf).1 hf;subst hok';show (⟨i64.wrap (((zjd s e q v:Nat):Int)+1),0,0⟩:Find)=_;rw [uO];rfl
    | some pc=>
     obtain ⟨p,c⟩:=pc;rw [hf] at wV;obtain ⟨o1,o2⟩:=wV;refine ⟨?_,o2⟩
     grind
  ·have hno:((f.Kind==17)&&decide (((d:Nat):Int)>0))=false:=by
    grind
   have hlf:zhn f run (zxw s d) ⟨n,w,base,(base+x:Nat),(base+y:Nat)⟩ v=if zoM f run v≠0 then some ((base:Int),zoM f run v) else none:=by
    unfold zhn zoM;by_cases hrt:run=true
    ·grind
    ·rw [xx hrt,xx hrt];by_cases h15:f.Kind=15/\ziB v=false
     ·grind
     ·rw [xx h15,xx h15];by_cases wR:f.Kind=17
      ·have:d=0:=by have:=fun h=>hs ⟨wR,h⟩;omega
       subst this;rw [xy wR,xy wR,xy (by omega)];rfl
      grind
   rw [itF hno,hcut,sb,zIh f run wS,sb,hlf];by_cases h0:zoM f run v=0
   ·refine ⟨⟨0,0,0⟩,met,by rw [itF (by simpa using h0)],g,?_⟩;rw [xx (by simpa using h0)];have:f.Kind≠17:=fun wR=>by
     grind [zoM]
    rw [xx this];rfl
   ·refine ⟨⟨0,((a+base:Nat):Int),zoM f run v⟩,met,by rw [itT (by simpa using h0)],g,?_⟩;rw [xy h0];exact ⟨by simp,rfl⟩
theorem zMi (hr:zcB s) (hb:b.length<=1048576):∀(d fuel:Nat),d<=64->2*d+2<=fuel->∀(q A T:Nat) (met:List (ziX×PVw)),q<s.length->A<=T->T<=b.length->zgD s met->
   ∃R wU,zbg fuel ⟨s,b,met⟩ q A T d=some (R,wU)/\zgD s wU/\okR (zS s d q ((b.take T).drop A)) A (zjd s d q ((b.take T).drop A)) R:=by
 have step:∀(d fuel:Nat),d<=64->(∀e,d=e+1->∀(q A T:Nat) (met:List (ziX×PVw)),q<s.length->A<=T->T<=b.length->zgD s met->
   ∃R wU,zbg fuel ⟨s,b,met⟩ q A T e=some (R,wU)/\zgD s wU/\okR (zS s e q ((b.take T).drop A)) A (zjd s e q ((b.take T).drop A)) R)->
   ∀(q A T:Nat) (met:List (ziX×PVw)),q<s.length->A<=T->T<=b.length->zgD s met->
   ∃R wU,zbg (fuel+2) ⟨s,b,met⟩ q A T d=some (R,wU)/\zgD s wU/\okR (zS s d q ((b.take T).drop A)) A (zjd s d q ((b.take T).drop A)) R:=by
  intro d fuel hd ih q A T met hq hAT hT g;have hun:∀w' k' p' t' d',zbg (fuel+2) w' k' p' t' d'=zea (zbg (fuel+1)) (zdK (fuel+1)) w' k' p' t' d':=fun _ _ _ _ _=>rfl
  have hm:(zp s q).Fields.length<=1152921504606846976:=by
   rw [zci hq];have:=hr.few _ (xH hq);omega
  obtain ⟨wU,D,g',hl⟩:=zIm (s:=s) hq hm hb (d:=(d:Int)) hAT hT (sub:=zxw s d) (gd:=ztl s d) (zKv s d) (recv:=zdK (fuel+1)) (met0:=met)
   (fun met1 g1 n w i run base x y hv h1 h2 hy=>zMl hr hq hb hd hT ih met1 g1 n w i run base x y hv h1 h2 hy) 0 _ met 0 g rfl (xP _)
  have hl':zbR d q (zdK (fuel+1)) T ⟨s,b,met⟩ met (A:Int) 0=_:=hl;rw [hun,zHh,zLa];unfold zea;simp only;rw [ya,Nat.zero_max] at hl';rw [hl',sb];cases hf:zdy (zp s q) (zxw s d) ((b.take T).drop A) (spl 0 ((b.take T).drop A)) with
  | none=>exact ⟨_,_,rfl,g',rfl⟩
  | some pc=>exact ⟨_,_,rfl,g',rfl,rfl⟩
 intro d
 induction d with
 | zero=>
  intro fuel hd hf;obtain ⟨fuel,rfl⟩:∃z,fuel=z+2:=⟨fuel - 2,by omega⟩;exact step 0 fuel hd (fun e he=>by omega)
 | succ d ih=>
  intro fuel hd hf;obtain ⟨fuel,rfl⟩:∃z,fuel=z+2:=⟨fuel - 2,by omega⟩;refine step (d+1) fuel hd (fun e he=>?_)
  grind
theorem zDx (hw:WS s) (root d:Int):zju s root d=some (argS s root d):=by
 unfold zju argS
 grind [zCX,sb]
theorem zLg (hw:WS s) (root:Int) (hb:b.length<=1048576) (d:Int) (hf:130<=fuel):
  ∃R,zlG fuel s root b d=some R/\R.place=(zba s root b d).1/\R.e=(zba s root b d).2/\((zba s root b d).2=0->R.depth=((zjd s d.toNat root b:Nat):Int)):=by
 unfold zlG zba;rw [zDx hw,sb];by_cases h:argS s root d=0
 ·obtain ⟨hr,h1,h2,h3,h4⟩:=zkG h;obtain ⟨k,rfl⟩:∃k:Nat,root=k:=⟨root.toNat,by omega⟩;obtain ⟨e,rfl⟩:∃k:Nat,d=k:=⟨d.toNat,by omega⟩;obtain ⟨R,wU,hR,_,wV⟩:=zMi hr hb e fuel (by omega) (by omega) k 0 b.length [] (by omega) (xP _) (xE _) (zgD.nil s);have hR':zbg fuel ⟨s,b,[]⟩ k 0 (b.length:Int) e=some (R,wU):=hR;rw [pT,ya] at wV;rw [itF (by simpa using h),xx (by simpa using h),hR',sb,xK];refine ⟨R,rfl,?_⟩;cases hfi:zS s e k b with
  | none=>
   rw [hfi] at wV;have hok':R=⟨((zjd s e k b:Nat):Int),0,0⟩:=wV
   grind
  | some pc=>
   obtain ⟨p,c⟩:=pc;rw [hfi] at wV;obtain ⟨o1,o2⟩:=wV;have:=zli s e k b p c hfi
   grind
 ·simp_all
theorem zug (hw:WS s) (root:Int) (hb:b.length<=1048576) (d:Int) (hf:130<=fuel):zgV fuel s root b d=some (zba s root b d):=by
 obtain ⟨R,hR,h1,h2,_⟩:=zLg hw root hb d hf;unfold zgV
 grind
theorem zNZ {s:List Mes} (hw:WS s) (root:Int) {b:List UInt8} (hb:b.length<=1048576) (d:Int) {fuel:Nat} (hf:130<=fuel):zpI fuel s root b d=some (is11 s root b d):=by
 unfold zpI;rw [zug hw root hb d hf,sb];rfl
theorem zoG (hm:m.Fields.length<=140737488351232) (n:Int):zdt m n=some (match m.Fields.findIdx? (fun f=>f.Number==n) with| some i=>((i:Int),true)| none=>(0,false)):=by
 unfold zdt zbW zat;have h:=ztr (fun f:Fld=>f.Number==n) m.Fields (fun i=>zR m.Fields n i) (zbm (by unfold zM;rw [uL])) (fun i hi=>by
  by_cases hp:(m.Fields[i].Number==n)=true
  ·rw [xy hp];exact zbm (by unfold zM zfh;rw [uM,zag rfl hi,sb,sb,itT hp])
  ·rw [xx hp];exact zcM (by unfold zM zfh;rw [uM,zag rfl hi,sb,sb,itF (pu hp),uO];rfl)) m.Fields.length 0 (by omega) (fun j _ h=>by omega)
 have h':zR m.Fields n 0=_:=h;rw [h',sb];cases m.Fields.findIdx? (fun f:Fld=>f.Number==n) with
 | none=>rfl
 | some i=>simp [sb];omega
theorem zkY {α:Type} (p:α->Bool) (l:List α) (F:Int->Option (Unit⊕Unit)) (h0:F (l.length:Int)=some (.inl ())) (hs:∀(i:Nat) (h:i<l.length),F (i:Int)=if p l[i]=true then F ((i+1:Nat):Int) else some (.inr ())):
  ∀(c i:Nat),i+c=l.length->F (i:Int)=some (if (l.drop i).all p=true then .inl () else .inr ())
 | 0,i,h=>by
  have e:l.drop i=[]:=yK (by omega);have hi:i=l.length:=by omega
  rw [e,hi,h0];simp
 | c+1,i,h=>by
  rw [hs i (by omega),yF (by omega),yP];cases hp:p l[i]
  ·rw [xx (by simp)];simp
  ·rw [xy rfl,yj];exact zkY p l F h0 hs c (i+1) (by omega)
theorem ztX (hb:v.Words.length<=140737488351232/\v.Texts.length<=140737488351232/\v.Subs.length<=140737488351232):zej v=some ((zaM v:Nat):Int):=by
 unfold zej zaM;rw [wrap_i64 (x:=(v.Words.length:Int)+(v.Texts.length:Int)) (by omega),uO];push_cast;rfl
theorem zBB (hl:l.length<=1152921504606846976) (h:∀t∈l,t.length<=140737488351232):zhz l=some (l.all ziB):=by
 unfold zhz;have h1:=zkY ziB l (fun i=>zeC l i) (by
   refine zjW ?_;unfold zdJ;rw [uL])
  (fun i hi=>by
   have hx:=h _ (xH hi);have e:lenO l[i]=some l[i]:=by unfold lenO;rw [xy (by omega)]
   cases hp:ziB l[i]
   ·rw [xx (by simp)];refine zjW ?_;unfold zdJ;rw [uM,zag rfl hi,sb,e,sb,zuf (by omega),sb,hp,uJ]
   ·rw [xy rfl];refine zpF ?_;unfold zdJ;rw [uM,zag rfl hi,sb,e,sb,zuf (by omega),sb,hp,uK,uO];push_cast;rfl)
  l.length 0 (xR _)
 have h1':zeC l 0=_:=h1;rw [h1',sb,ya];cases l.all ziB<;>rfl
theorem zBA (hl:l.length<=1152921504606846976) (h:∀w∈l,0<=w/\w<=18446744073709551615):zfk k l=some (l.all fun w=>kNum k&&zbs k w==w):=by
 unfold zfk;have h1:=zkY (fun w=>kNum k&&zbs k w==w) l (fun i=>zcP k l i) (by
   refine zfo ?_;unfold zbE;rw [uL])
  (fun i hi=>by
   have hx:=h _ (xH hi);cases hk:kNum k
   ·rw [yY,xx (by simp)];refine zfo ?_;unfold zbE;rw [uM,zag rfl hi,sb,zkL k hx,sb,hk,uJ]
   ·rw [yj];by_cases hp:zbs k l[i]=l[i]
    ·rw [xy (by simpa using hp)];refine zmt ?_;unfold zbE;rw [uM,zag rfl hi,sb,zkL k hx,sb,hk,itF (by simp [hp]),uO];push_cast;rfl
    ·rw [xx (by simpa using hp)];refine zfo ?_;unfold zbE;rw [uM,zag rfl hi,sb,zkL k hx,sb,hk,itT (by simp [hp])])
  l.length 0 (xR _)
 have h1':zcP k l 0=_:=h1;rw [h1',sb,ya];cases l.all (fun w=>kNum k&&zbs k w==w)<;>rfl
theorem zJc (hm:m.Fields.length<=140737488351232) (hu:u.length<=1048576):zgR m u=some (unkR m u):=by
 unfold zgR unkR;have e:lenO u=some u:=by unfold lenO;rw [xy (by omega)]
 rw [e,sb,zsl hu,sb]
 generalize zcJ u 0=r
 by_cases c1:r.2=0
 ·by_cases c2:r.1.To=(u.length:Int)
  ·rw [itF (by simp [c1,c2]),zoG hm,sb];have hf:fldI m r.1.Number=zje (fun f:Fld=>f.Number==r.1.Number) m.Fields:=rfl;rw [hf];cases h:m.Fields.findIdx? (fun f:Fld=>f.Number==r.1.Number) with
   | none=>rw [zlS h];simp [c1,c2]
   | some i=>rw [zlT h];simp [c1,c2]
  ·rw [itT (by simp [c2])];simp [c2]
 ·rw [itT (by simp [c1])];simp [c1]
theorem zzZ {α:Type} {p:α->Bool} (h:∀x,p x=false) (l:List α):l.all p=l.isEmpty:=by
 cases l with
 | nil=>rfl
 | cons x l=>rw [yP,h];rfl
theorem zoR {α:Type} (l:List α):l.isEmpty=decide (l.length=0):=by cases l<;>simp
theorem zDn {s:List Mes} (hs:zcB s):∀(fuel:Nat),(∀(x:Msg) (k:Nat),k<s.length->2*szM x<fuel->bdM x->smM x->zdg fuel s k x=some (zaG s x k))/\
  (∀(v:Vlu) (f:Fld),2*szV v<fuel->bdV v->smV v->zic fuel f s v=some (ziS s v f))/\
  ∀(l:List Msg) (k:Int),2*szMs l+1<fuel->l.length<=1152921504606846976->bdMs l->smMs l->zfE fuel s k l=some (decide (0<=k/\k<s.length)&&l.all fun x=>zaG s x k)
 | 0=>⟨fun x k _ h=>by omega,fun v f h=>by omega,fun l k h=>by omega⟩
 | fuel+1=>by
  obtain ⟨ih1,ih2,ih3⟩:=zDn hs fuel;have wS:=hs.len;refine ⟨fun x k hk wZ hb hsm=>?_,fun v f wZ hb hsm=>?_,fun l k wZ hl hb hsm=>?_⟩
  ·obtain ⟨b1,⟨b2,b3⟩,b4⟩:=(zja x).1 hb;obtain ⟨s1,⟨s2,s3⟩,s4⟩:=(zxt x).1 hsm;rw [zch] at wZ;show zfH (zfE fuel) (zic fuel) (zdg fuel) s k x=_;unfold zfH;rw [zkP,xV (show (0:Int)<=(k:Int)/\(k:Int)<(s.length:Int) by omega),yj];have hm:idx s (k:Int)=some (zp s k):=by rw [zag rfl hk,zci hk]
   have hmm:zp s (k:Int)∈s:=by rw [zci hk];exact xH hk
   have hfew:=hs.few _ hmm;have hfld:=hs.fld _ hmm
   generalize zp s (k:Int)=m at hm hmm hfew hfld|-
   rw [hm,sb];have hv:∀(c i:Nat) (p:Option Int) (last:Int),i+c=x.Values.length->(p=none/\last=0\/p=some last)->zek (zic fuel) s x m last i=some (if zff s (x.Values.drop i) m p=true then .inl () else .inr ()):=by
    intro c
    induction c with
    | zero=>
     intro i p last hi _;have e:x.Values.drop i=[]:=yK (by omega);rw [e,zff,xy rfl];refine ziU ?_;unfold zcp;rw [uN]
    | succ c ih=>
     intro i p last hi hp;have hil:i<x.Values.length:=by omega
     have hx:idx x.Values (i:Int)=some x.Values[i]:=zag rfl hil;have hmem:=xH hil;have z1:=zdZ hmem;have hbv:=zen.1 b4 _ hmem;have hsv:=znf.1 s4 _ hmem;rw [yF hil,zff]
     generalize x.Values[i]=v at hx hmem z1 hbv hsv|-
     have hw1:i64.wrap ((i:Int)+1)=((i+1:Nat):Int):=by rw [uO];push_cast;rfl
     have hbody:zcp (zic fuel) s x m last i=if (decide (0<=fldI m v.Number)&&p.all (fun q=>decide (q<v.Number))&&ziS s v (zv m (fldI m v.Number)))=true then some (.inl (v.Number,((i+1:Nat):Int))) else some (.inr (.inr ())):=by
      unfold zcp;rw [uM,hx,sb,zoG (by omega),sb];have hf:fldI m v.Number=zje (fun f:Fld=>f.Number==v.Number) m.Fields:=rfl;cases h:m.Fields.findIdx? (fun f:Fld=>f.Number==v.Number) with
      | none=>
       rw [hf,zlS h,uJ,sb,uJ,xx (by simp)]
      | some j=>
       rw [hf,zlT h];have hjs:=pP.1 h;obtain ⟨hj,hjn,_⟩:=hjs;have hjn':(m.Fields[j]).Number=v.Number:=by simpa using hjn
       have hlo:=(hfld _ (xH hj)).lo;have hfj:idx m.Fields (j:Int)=some (zv m (j:Int)):=by rw [zag rfl hj,zby hj]
       have hfit:=ih2 v (zv m (j:Int)) (by omega) hbv hsv;have hpl:p.all (fun q=>decide (q<v.Number))=decide (last<v.Number):=by
        rcases hp with ⟨rfl,rfl⟩| rfl
        ·rw [xV (show (0:Int)<v.Number by omega)];rfl
        ·rfl
       rw [uK,hpl,xV (show (0:Int)<=(j:Int) by omega),yj];by_cases wP:last<v.Number
       ·rw [itF (by simpa using wP),xV wP,yj];simp only;rw [hfj,sb,hfit,sb,sb];cases hfv:ziS s v (zv m (j:Int))
        ·rw [uJ,xx (by simp)]
        ·rw [uK,xy rfl,hw1]
       ·rw [uM,sb,uJ,ye wP,xx (by simp)]
     generalize (decide (0<=fldI m v.Number)&&p.all (fun q=>decide (q<v.Number))&&ziS s v (zv m (fldI m v.Number)))=bb at hbody|-
     cases bb
     ·rw [xx (by simp)] at hbody;rw [ziU hbody,yY,xx (by simp)]
     ·rw [xy rfl] at hbody;rw [zox hbody,ih _ (some v.Number) v.Number (by omega) (.inr rfl),yj]
   have h1:=hv x.Values.length 0 none 0 (xR _) (.inl ⟨rfl,rfl⟩);have h1':zek (zic fuel) s x m 0 0=_:=h1;rw [ya] at h1';rw [h1',sb];cases hrv:zff s x.Values m none
   ·rw [xx (by simp)];rfl
   ·rw [xy rfl,yj];simp only;have h2:=zkY (unkR m) x.Unknown (fun i=>zel x m i) (by
      refine ziV ?_;unfold zdh;rw [uL])
     (fun i hi=>by
      have hu:=zJc (m:=m) (by omega) (s3 _ (xH hi));cases hun:unkR m x.Unknown[i]
      ·rw [xx (by simp)];refine ziV ?_;unfold zdh;rw [uM,zag rfl hi,sb,hu,sb,hun,uJ]
      ·rw [xy rfl];refine zoy ?_;unfold zdh;rw [uM,zag rfl hi,sb,hu,sb,hun,uK,uO];push_cast;rfl)
     x.Unknown.length 0 (xR _)
    have h2':zel x m 0=_:=h2;rw [h2',sb,ya];cases x.Unknown.all (unkR m)<;>rfl
  ·obtain ⟨_,⟨b1,b1'⟩,⟨b2,b3⟩,b4,b5⟩:=(zhk v).1 hb;obtain ⟨s1,⟨s2,s3⟩,s4,s5⟩:=(zxu v).1 hsm;rw [zeO] at wZ;show zjX (zfE fuel) (zic fuel) (zdg fuel) f s v=_;unfold zjX;rw [ztX ⟨by omega,by omega,by omega⟩,sb,zrQ,zlx];have hmany:zaM v=v.Words.length+v.Texts.length+v.Subs.length:=rfl;by_cases h0:zaM v=0\/1<zaM v/\f.Repeated=false
   ·have hmr:zqP f v=false:=by
     unfold zqP;rcases h0 with h0| ⟨h0,h1⟩
     ·simp [h0]
     ·rw [h1];simp;omega
    rw [hmr,itT (by
     rcases h0 with h0| ⟨h0,h1⟩
     ·simp [h0]
     ·rw [h1];simp;omega)]
    rfl
   ·have hmr:zqP f v=zbJ f.Kind:=by
     unfold zqP;rw [xV (show 0<zaM v by omega),yj];cases hr:f.Repeated
     ·rw [hr] at h0;rw [xV (show zaM v<=1 by simp at h0;omega)];rfl
     ·simp
    rw [hmr,itF (by
     cases hr:f.Repeated
     ·rw [hr] at h0;simp at h0|-;omega
     ·simp;omega)]
    have hW:kNum f.Kind=false->v.Words.all (ziN f)=decide (v.Words.length=0):=fun h=>by
     rw [zzZ (fun w=>by unfold ziN;rw [h];rfl),zoR]
    have hT:f.Kind≠15->f.Kind≠16->v.Texts.all (zkr f)=decide (v.Texts.length=0):=fun h1 h2=>by
     rw [zzZ (fun t=>by unfold zkr;simp [h1,h2]),zoR]
    have hS:f.Kind≠17->(v.Subs.all fun x=>f.Kind==17&&zaG s x f.Of)=decide (v.Subs.length=0):=fun h=>by
     rw [zzZ (fun x=>by simp [h]),zoR]
    by_cases k15:f.Kind=15
    ·rw [itT (by simp [k15]),hW (by rw [k15];rfl),hS (by omega)];have hkr:zbJ f.Kind=true:=by rw [k15];rfl
     rw [hkr,yj];by_cases hl:v.Words.length=0/\v.Subs.length=0
     ·rw [uM,zBB (by omega) b3,sb,sb,xV hl.1,xV hl.2,yj,q6];have:v.Texts.all (zkr f)=v.Texts.all ziB:=by
       congr 1;funext t;unfold zkr;simp [k15]
      rw [this]
     ·rw [uN,sb];congr 1
      symm
      by_cases hw0:v.Words.length=0
      ·rw [ye (show ¬v.Subs.length=0 by omega),q8]
      ·rw [ye hw0,yY,yY]
    ·rw [itF (by simp [k15])];by_cases k16:f.Kind=16
     ·rw [itT (by simp [k16]),hW (by rw [k16];rfl),hS (by omega)];have hkr:zbJ f.Kind=true:=by rw [k16];rfl
      have hta:v.Texts.all (zkr f)=true:=by rw [xI];intro t _;unfold zkr;simp [k16]
      rw [hkr,hta,yj,q6];congr 1;rw [<-Bool.decide_and];rw [yO];simp only [qK,yc];omega
     ·rw [itF (by simp [k16])];by_cases k17:f.Kind=17
      ·rw [itT (by simp [k17]),hW (by rw [k17];rfl),hT k15 k16];have hkr:zbJ f.Kind=true:=by rw [k17];rfl
       rw [hkr,yj];have hsub:(v.Subs.all fun x=>f.Kind==17&&zaG s x f.Of)=v.Subs.all fun x=>zaG s x f.Of:=by
        congr 1;funext x;simp [k17]
       rw [hsub];by_cases hl:v.Words.length=0/\v.Texts.length=0
       ·rw [uM,ih3 v.Subs f.Of (by omega) (by omega) b5 s5,sb,sb,xV hl.1,xV hl.2,yj,yj];by_cases hof:0<=f.Of/\f.Of<s.length
        ·rw [xV hof,yj]
        ·rw [ye hof,yY];congr 1
         symm
         have w9:v.Subs≠[]:=fun e=>h0 (.inl (by rw [hmany,hl.1,hl.2,e];rfl))
         obtain ⟨x,l,hxl⟩:=pv w9;rw [hxl,yP,zkP,ye hof];rfl
       ·rw [uN,sb];congr 1
        symm
        by_cases hw0:v.Words.length=0
        ·rw [ye (show ¬v.Texts.length=0 by omega),q8,yY]
        ·rw [ye hw0,yY,yY]
      ·rw [itF (by simp [k17]),hT k15 k16,hS k17];have hck:(v.Words.all fun w=>kNum f.Kind&&zbs f.Kind w==w)=v.Words.all (ziN f):=rfl;by_cases hl:v.Texts.length=0/\v.Subs.length=0
       ·rw [uM,zBA (by omega) b1',sb,sb,xV hl.1,xV hl.2,q6,q6,hck];congr 1;cases hkn:kNum f.Kind
        ·rw [hW hkn,ye (show ¬v.Words.length=0 by omega),q8]
        ·have hkr:zbJ f.Kind=true:=by
          rw [zdS] at hkn;unfold zbJ;simp;omega
         rw [hkr,yj]
       ·rw [uN,sb];congr 1
        symm
        by_cases hw0:v.Texts.length=0
        ·rw [ye (show ¬v.Subs.length=0 by omega),q8]
        ·rw [ye hw0,q8,yY]
  ·show zeP (zfE fuel) (zic fuel) (zdg fuel) s k l=_;unfold zeP;by_cases hk:0<=k/\k<s.length
   ·rw [uN,xV hk,yj];obtain ⟨n,rfl⟩:∃n:Nat,k=n:=⟨k.toNat,by omega⟩;have h1:=zkY (fun x=>zaG s x n) l (fun i=>zdn l n (zdg fuel) s i) (by
      refine zia ?_;unfold zcm;rw [uL])
     (fun i hi=>by
      have hm:=xH hi;have z1:=zdY hm;have hr:=ih1 l[i] n (by omega) (by omega) (zeE.1 hb _ hm) (zne.1 hsm _ hm);cases hp:zaG s l[i] n
      ·rw [xx (by simp)];refine zia ?_;unfold zcm;rw [uM,zag rfl hi,sb,hr,sb,hp,uJ]
      ·rw [xy rfl];refine znh ?_;unfold zcm;rw [uM,zag rfl hi,sb,hr,sb,hp,uK,uO];push_cast;rfl)
     l.length 0 (xR _)
    have h1':zdn l n (zdg fuel) s 0=_:=h1;rw [h1',sb,ya];cases l.all (fun x=>zaG s x n)<;>rfl
   ·rw [uM,ye hk];rfl
theorem zxF (root:Int) (hf:2*szM x<fuel) (hw:WS s) (hb:bdM x) (hsm:smM x) (hd:dM x<=131072):zjr fuel s root x=some (zhI s&&zaG s x root):=by
 unfold zjr;rw [zDx hw,sb];by_cases h0:argS s root 0=0
 ·obtain ⟨hr,g1,g2,_,_⟩:=zkG h0;have hrs:zhI s=true:=by
   unfold argS at h0;cases h:zhI s with
   | true=>rfl
   | false=>rw [h,xy rfl] at h0;cases h0
  obtain ⟨k,rfl⟩:∃k:Nat,root=k:=⟨root.toNat,by omega⟩;rw [itT (by simp [h0]),zxy (by omega) hb hd,sb,uJ,(zDn hr fuel).1 x k (by omega) hf hb hsm,sb,sb,hrs,yj]
 ·rw [itF (by simp [h0]),sb];congr 1
  symm
  cases hrs:zhI s
  ·rfl
  ·rw [yj,zkP];unfold argS at h0;rw [xx (by rw [hrs];simp)] at h0;rw [ye (by split at h0<;>omega)];rfl
theorem zLM (hk:kNum k=true) (hf:zbT (zau k) v=true):pcs k v=([v],0):=by
 have hk':=zdS.1 hk;have hu:ziW k v= .inr v.length/\v≠[]:=by
  unfold ziW;unfold zbT zau at hf;by_cases h9:k<9
  ·rw [xx (show ¬15<=k by omega),xx (show ¬12<=k by omega),xx (show ¬9<=k by omega),xy rfl] at hf;obtain ⟨h1,h2⟩:=yv hf;obtain ⟨b1,b2,b3,b4,b5,b6,b7⟩:=zhX v;have hp:=b7 h1;rw [xy h9,xx (by simpa using h1),h2];refine ⟨by simp,fun e=>?_⟩;subst e;simp at h2;omega
  ·rw [xx h9];by_cases h12:k<12
   ·rw [xx (show ¬15<=k by omega),xx (show ¬12<=k by omega),xy (show 9<=k by omega),xx (by omega)] at hf;have hf':=yv hf;have hl:v.length=4:=by omega
    rw [xy h12,xx (by omega),hl];exact ⟨rfl,fun e=>by rw [e] at hl;simp at hl⟩
   ·rw [xx (show ¬15<=k by omega),xy (show 12<=k by omega),xx (by omega)] at hf;have hf':=yv hf;have hl:v.length=8:=by omega
    rw [xx h12,xx (by omega),hl];exact ⟨rfl,fun e=>by rw [e] at hl;simp at hl⟩
 rw [ziy hu.2 hu.1,pT,pw,zjA]
theorem zqv (hk:kNum k=true) (hf:zbT (zau k) v=true):zas k v=([(zna k v).1],0):=by
 unfold zas;rw [xx (by rw [hk];simp),zLM hk hf,xy rfl,zjR hk hf];rfl
def zbK (f:Fld) (T:List Th):List Th:=if f.Repeated=true then T else T.drop (T.length - 1)
def valT (g:Int->List UInt8->Msg) (f:Fld) (T:List Th):Vlu:=
 if f.Kind=17 then ⟨f.Number,[],[],if f.Repeated=true then T.map fun t=>g f.Of t.val else [g f.Of (T.flatMap (·.val))]⟩
 else if f.Kind=15\/f.Kind=16 then ⟨f.Number,[],(zbK f T).map (·.val),[]⟩
 else ⟨f.Number,(zbK f T).flatMap (fun t=>(zas f.Kind t.val).1),[],[]⟩
theorem ziY (g:Int->List UInt8->Msg) (f:Fld) (i:Int):∀(l:List Th) (a:zcu),accF g f i a l=(l.filter fun t=>t.fi==i).foldl (stp g f) a
 | [],a=>rfl
 | t::l,a=>by
  rw [accF,yI];by_cases h:t.fi=i
  ·rw [xy h,xy (by simpa using h),yd];exact ziY g f i l _
  ·rw [xx h,xx (by simpa using h)];exact ziY g f i l _
def OkF (f:Fld) (t:Th):Prop:=(t.run=true->kNum f.Kind=true/\f.Repeated=true)/\(t.run=false->zbJ f.Kind=true/\zbT (zau f.Kind) t.val=true)
theorem ztL :zbK f (t::u::T)=if f.Repeated=true then t::u::T else zbK f (u::T):=by
 unfold zbK;simp_all
theorem zBW (g:Int->List UInt8->Msg) (hk:kNum f.Kind=true):∀(T:List Th) (a:zcu),T≠[]->(∀t∈T,OkF f t)->
  T.foldl (stp g f) a=(a.1,true,(if f.Repeated=true then a.2.2.1 else [])++(zbK f T).flatMap (fun t=>(zas f.Kind t.val).1),(if f.Repeated=true then a.2.2.2.1 else []),a.2.2.2.2)
 | [],a,h,_=>absurd rfl h
 | [t],a,_,ht=>by
  obtain ⟨h1,h2⟩:=ht t xz;have hp:zbK f [t]=[t]:=by unfold zbK;simp
  rw [hp,yd,q9]
  grind [stp,sb,wrap_i64,zqv]
 | t::u::T,a,_,ht=>by
  obtain ⟨h1,h2⟩:=ht t xz;have hst:stp g f a t=(a.1,true,(if f.Repeated=true then a.2.2.1 else [])++(zas f.Kind t.val).1,(if f.Repeated=true then a.2.2.2.1 else []),a.2.2.2.2):=by
   grind [stp,sb,wrap_i64,zqv]
  rw [yd,hst,zBW g hk (u::T) _ (by simp) fun x hx=>ht x (xA _ hx),ztL];cases hr:f.Repeated
  ·simp
  ·have hp:zbK f (u::T)=u::T:=by unfold zbK;rw [xy hr]
   rw [hp];simp
theorem zyP (g:Int->List UInt8->Msg) (hk:kNum f.Kind=false) (wR:f.Kind≠17):∀(T:List Th) (a:zcu),T≠[]->(∀t∈T,OkF f t)->
  T.foldl (stp g f) a=(a.1,true,(if f.Repeated=true then a.2.2.1 else []),(if f.Repeated=true then a.2.2.2.1 else [])++(zbK f T).map (·.val),a.2.2.2.2)
 | [],a,h,_=>absurd rfl h
 | [t],a,_,ht=>by
  obtain ⟨h1,h2⟩:=ht t xz;have hp:zbK f [t]=[t]:=by unfold zbK;simp
  have hr:t.run=false:=by
   grind
  rw [hp,yd,q9];unfold stp
  grind
 | t::u::T,a,_,ht=>by
  obtain ⟨h1,h2⟩:=ht t xz;have hr:t.run=false:=by
   grind
  have hst:stp g f a t=(a.1,true,(if f.Repeated=true then a.2.2.1 else []),(if f.Repeated=true then a.2.2.2.1 else [])++[t.val],a.2.2.2.2):=by
   unfold stp
   grind
  rw [yd,hst,zyP g hk wR (u::T) _ (by simp) fun x hx=>ht x (xA _ hx),ztL];cases hr:f.Repeated
  ·simp
  ·have hp:zbK f (u::T)=u::T:=by unfold zbK;rw [xy hr]
   rw [hp];simp
theorem zyO (g:Int->List UInt8->Msg) (wR:f.Kind=17) (hr:f.Repeated=true):∀(T:List Th) (a:zcu),(∀t∈T,OkF f t)->(T≠[]\/a.2.1=true)->
  T.foldl (stp g f) a=(a.1,true,a.2.2.1,a.2.2.2.1,a.2.2.2.2++T.map fun t=>g f.Of t.val)
 | [],a,_,h=>by
  grind
 | t::T,a,ht,_=>by
  obtain ⟨h1,h2⟩:=ht t xz;have hrn:t.run=false:=by
   cases hr:t.run
   ·rfl
   ·have:=(h1 hr).1;rw [wR] at this;cases this
  have hst:stp g f a t=(a.1,true,a.2.2.1,a.2.2.2.1,a.2.2.2.2++[g f.Of t.val]):=by
   unfold stp;rw [hrn,xx (by simp),xx (by rw [wR];decide),xy ⟨wR,hr⟩,xy hr,xy hr]
  rw [yd,hst,zyO g wR hr T _ (fun x hx=>ht x (xA _ hx)) (.inr rfl)];simp
theorem zBY (g:Int->List UInt8->Msg) (wR:f.Kind=17) (hr:f.Repeated=false):∀(T:List Th) (a:zcu),(∀t∈T,OkF f t)->T≠[]->
  T.foldl (stp g f) a=(a.1++T.flatMap (·.val),true,[],[],a.2.2.2.2)
 | [],a,_,h=>absurd rfl h
 | [t],a,ht,_=>by
  obtain ⟨h1,h2⟩:=ht t xz;have hrn:t.run=false:=by
   grind
  rw [yd,q9];unfold stp;rw [hrn,xx (by simp),xx (by rw [wR];decide),xx (by rw [hr];simp),xy wR,hr];simp
 | t::u::T,a,ht,_=>by
  obtain ⟨h1,h2⟩:=ht t xz;have hrn:t.run=false:=by
   grind
  have hst:stp g f a t=(a.1++t.val,true,[],[],a.2.2.2.2):=by
   unfold stp;rw [hrn,xx (by simp),xx (by rw [wR];decide),xx (by rw [hr];simp),xy wR,hr];simp
  rw [yd,hst,zBY g wR hr (u::T) _ (fun x hx=>ht x (xA _ hx)) (by simp)];simp
theorem zKI (g:Int->List UInt8->Msg) (hkr:zbJ f.Kind=true) (hT:T≠[]) (ht:∀t∈T,OkF f t):valO g f (T.foldl (stp g f) acc0)=valT g f T:=by
 unfold valT;by_cases wR:f.Kind=17
 ·rw [xy wR];cases hr:f.Repeated
  ·rw [zBY g wR hr T acc0 ht hT];unfold valO;rw [xy ⟨rfl,wR,hr⟩];simp [acc0]
  ·rw [zyO g wR hr T acc0 ht (.inl hT)];unfold valO;rw [xx (by rw [hr];simp)];simp [acc0]
 ·rw [xx wR];by_cases hx:f.Kind=15\/f.Kind=16
  ·rw [xy hx,zyP g (by unfold kNum;simp;omega) wR T acc0 hT ht];unfold valO;simp only;rw [xx (show ¬(True/\f.Kind=17/\f.Repeated=false) from fun h=>wR h.2.1)];cases f.Repeated<;>simp [acc0]
  ·have hk:kNum f.Kind=true:=by unfold zbJ at hkr;unfold kNum;simp at hkr|-;omega
   rw [xx hx,zBW g hk T acc0 hT ht];unfold valO;simp only;rw [xx (show ¬(True/\f.Kind=17/\f.Repeated=false) from fun h=>wR h.2.1)];cases f.Repeated<;>simp [acc0]
theorem zHU {α:Type} (l:List α) (m:Nat) (d x:α):(l++List.replicate (m+1) d).set l.length x=(l++[x])++List.replicate m d:=by
 grind
theorem zAv {α:Type} (l:List α) (d:α) (F:List α->Int->Option (List α)) (h0:F l (l.length:Int)=some l)
  (hs:∀(i:Nat) (h:i<l.length),F (l.take i++List.replicate (l.length - i) d) (i:Int)=F (l.take (i+1)++List.replicate (l.length - (i+1)) d) ((i+1:Nat):Int)):
  ∀(c i:Nat),i+c=l.length->F (l.take i++List.replicate (l.length - i) d) (i:Int)=some l
 | 0,i,h=>by
  simp_all
 | c+1,i,h=>by rw [hs i (by omega)];exact zAv l d F h0 hs c (i+1) (by omega)
theorem zwi {α:Type} (l:List α) (d:α) (i:Nat) (h:i<l.length):(l.take i++List.replicate (l.length - i) d).set i l[i]=l.take (i+1)++List.replicate (l.length - (i+1)) d:=by
 have hl:(l.take i).length=i:=by rw [xZ];omega
 have e:=zHU (l.take i) (l.length - (i+1)) d l[i];rw [hl,show l.length - (i+1)+1=l.length - i by omega] at e;simp_all
def At14 (b:List UInt8) (L:List Vw):Prop:=∀t∈L,0<=t.R.From/\t.R.From<t.R.At/\t.R.At<=t.R.To/\t.R.To<=b.length
theorem zve (h:At14 b L) (ht:t∈L):cut b t.R.At t.R.To=some (valB b t.R):=by
 obtain ⟨r1,r2,r3,r4⟩:=h t ht;obtain ⟨x,hx1⟩:∃x:Nat,t.R.At=x:=⟨t.R.At.toNat,by omega⟩;obtain ⟨y,hy1⟩:∃x:Nat,t.R.To=x:=⟨t.R.To.toNat,by omega⟩;rw [zhl hx1 hy1 (by omega) (by omega)];unfold valB;rw [hx1,hy1];simp only [xK]
theorem zAp (h:At14 b L) (ht:t∈L):cut b t.R.From t.R.To=some (rawB b t.R):=by
 obtain ⟨r1,r2,r3,r4⟩:=h t ht;obtain ⟨x,hx1⟩:∃x:Nat,t.R.From=x:=⟨t.R.From.toNat,by omega⟩;obtain ⟨y,hy1⟩:∃x:Nat,t.R.To=x:=⟨t.R.To.toNat,by omega⟩;rw [zhl hx1 hy1 (by omega) (by omega)];unfold rawB;rw [hx1,hy1];simp only [xK]
theorem zvo {L:List Vw} {i:Nat} (h:i<L.length):idx (L.map prV) (i:Int)=some (prV L[i]):=by
 rw [zag rfl (show i<(L.map prV).length by simpa using h)];simp
theorem zKy {b:List UInt8} {L:List Vw} (hL:L.length<=1048576) (hat:At14 b L):zlD b (L.map prV)=some (L.map fun t=>valB b t.R):=by
 unfold zlD;rw [zpc (a:=L.length) (by simp) (qt _) (by simp;omega),sb];have wS:(L.map fun t=>valB b t.R).length=L.length:=by simp
 have h:=zAv (L.map fun t=>valB b t.R) ([]:Str) (fun a i=>zhA b (L.map prV) a i) (by
   refine zsT ?_;unfold zfs;rw [uL])
  (fun i hi=>by
   have hil:i<L.length:=by simpa using hi
   refine zsS ?_;unfold zfs;have hc:=zve hat (xH hil);rw [uM,zvo hil,sb];have e1:(prV L[i]).Record.At=L[i].R.At:=rfl;have e2:(prV L[i]).Record.To=L[i].R.To:=rfl;have e3:=zwi (L.map fun t=>valB b t.R) ([]:Str) i hi;rw [uB] at e3;rw [e1,e2,hc,sb,zag rfl (show i<_ by rw [xD,xZ,qG];omega),sb,xK,e3,uO];push_cast;rfl) L.length 0 (by simp)
 grind
theorem zIe {k:Int} {b:List UInt8} (hb:b.length<=1048576) {L:List Vw} (hL:L.length<=1048576) (hat:At14 b L) (hw:(L.flatMap fun t=>(zas k (valB b t.R)).1).length<=1048576):
  zlE k b (L.map prV)=some (L.flatMap fun t=>(zas k (valB b t.R)).1):=by
 unfold zlE;have key:∀(post pre:List Vw),L=pre++post->zgw b k (L.map prV) (pre.flatMap fun t=>(zas k (valB b t.R)).1) pre.length=some (L.flatMap fun t=>(zas k (valB b t.R)).1):=by
  intro post
  induction post with
  | nil=>
   intro pre e;rw [xW] at e;subst e;refine zsV ?_;unfold zft
   grind
  | cons t post ih=>
   intro pre e;have wP:pre.length<L.length:=by rw [e];simp
   have hti:L[pre.length]=t:=by
    subst e;simp
   have ht:t∈L:=by rw [e];simp
   obtain ⟨r1,r2,r3,r4⟩:=hat t ht;have hvl:=zMc b t.R r3 r1 r2 r4;have e2:(L.flatMap fun t=>(zas k (valB b t.R)).1)=(pre.flatMap fun t=>(zas k (valB b t.R)).1)++((zas k (valB b t.R)).1++post.flatMap fun t=>(zas k (valB b t.R)).1):=by rw [e];simp
   have hsum:=congrArg List.length e2;rw [xD,xD] at hsum;refine (zsU (all':=(pre++[t]).flatMap fun t=>(zas k (valB b t.R)).1) (v':=(((pre++[t]).length:Nat):Int)) ?_).trans (ih (pre++[t]) (by rw [e];simp));unfold zft;have hc:=zve hat ht;rw [uM,zvo wP,sb,hti];have e1:(prV t).Record.At=t.R.At:=rfl;have e2:(prV t).Record.To=t.R.To:=rfl;rw [e1,e2,hc,sb,zzC k (by omega),sb,zeD (by omega),sb,uO,yH,pt,xD,qH];push_cast;rfl
 have h:=key L [] rfl;have h':zgw b k (L.map prV) [] 0=_:=h;rw [h',sb]
theorem zDi {b:List UInt8} {L:List Vw} (hL:L.length<=1048576) (hat:At14 b L):zhf b (L.map prV) (List.replicate L.length []) 0=some (L.map fun t=>valB b t.R):=by
 have wS:(L.map fun t=>valB b t.R).length=L.length:=by simp
 have h:=zAv (L.map fun t=>valB b t.R) ([]:List UInt8) (fun a i=>zhf b (L.map prV) a i) (by
   refine zuc ?_;unfold zgc;rw [uL])
  (fun i hi=>by
   have hil:i<L.length:=by simpa using hi
   refine zub ?_;unfold zgc;have hc:=zve hat (xH hil);rw [uM,zvo hil,sb];have e1:(prV L[i]).Record.At=L[i].R.At:=rfl;have e2:(prV L[i]).Record.To=L[i].R.To:=rfl;have e3:=zwi (L.map fun t=>valB b t.R) ([]:List UInt8) i hi;rw [uB] at e3;rw [e1,e2,hc,sb,zag rfl (show i<_ by rw [xD,xZ,qG];omega),sb,xK,e3,uO];push_cast;rfl) L.length 0 (by simp)
 grind
theorem ztU {rec:List ze->Int->List UInt8->Option zd} {g:Int->List UInt8->Msg} {s:List Mes} {f:Fld} {p:List (List UInt8)} (hp:p.length<=1048576) (hg:∀v∈p,rec s f.Of v=some (g f.Of v)):
  zhg f p rec s (List.replicate p.length ⟨[],[]⟩) 0=some (p.map (g f.Of)):=by
 have wS:(p.map (g f.Of)).length=p.length:=by simp
 have h:=zAv (p.map (g f.Of)) (⟨[],[]⟩:Msg) (fun a i=>zhg f p rec s a i) (by
   refine zue ?_;unfold zgd;rw [uL])
  (fun i hi=>by
   have hil:i<p.length:=by simpa using hi
   refine zud ?_;unfold zgd;have e3:=zwi (p.map (g f.Of)) (⟨[],[]⟩:Msg) i hi;rw [uB] at e3;rw [uM,zag rfl hil,sb,hg _ (xH hil),sb,zag rfl (show i<_ by rw [xD,xZ,qG];omega),sb,xK,e3,uO];push_cast;rfl) p.length 0 (by simp)
 rw [wS,po,xL,qz] at h;exact h
def kn14 (acc:List (Int×List PVw)) (v:Vw):List (Int×List PVw):=if v.Field= -1 then acc else mput acc v.R.Number ((mget acc v.R.Number).getD []++[prV v])
def zbp (L:List Vw) (n:Int):List Vw:=L.filter fun v=>decide (v.Field≠ -1/\v.R.Number=n)
theorem zEu (n:Int):∀(L:List Vw) (acc:List (Int×List PVw)),(mget (L.foldl kn14 acc) n).getD []=(mget acc n).getD []++(zbp L n).map prV
 | [],acc=>by simp [zbp]
 | v::L,acc=>by
  rw [yd,zEu n L]
  grind [zbp,kn14,sb,wrap_i64,zez]
theorem zAI {κ ν:Type} [DecidableEq κ] (m:List (κ×ν)) (k j:κ) (x:ν):j∈(mput m k x).map Prod.fst↔j∈m.map Prod.fst\/j=k:=by
 rw [zjl];cases h:mget m k with
 | none=>simp
 | some y=>
  simp only;exact ⟨.inl,fun h'=>h'.elim id fun e=>e▸zJD h⟩
theorem zFT (n:Int):∀(L:List Vw) (acc:List (Int×List PVw)),n∈(L.foldl kn14 acc).map Prod.fst↔n∈acc.map Prod.fst\/∃v∈L,v.Field≠ -1/\v.R.Number=n
 | [],acc=>by simp
 | v::L,acc=>by
  rw [yd,zFT n L]
  grind [kn14,sb,wrap_i64,zAI]
theorem zCu:∀(L:List Vw) (acc:List (Int×List PVw)),(acc.map Prod.fst).Nodup->((L.foldl kn14 acc).map Prod.fst).Nodup
 | [],acc,h=>h
 | v::L,acc,h=>by
  rw [yd];refine zCu L _ ?_
  grind [kn14,sb,wrap_i64,znH]
theorem zCF {κ ν:Type} [DecidableEq κ] (m:List (κ×ν)) (k:κ) (x:ν):(mput m k x).length<=m.length+1:=by
 have h:=congrArg List.length (zjl m k x)
 grind
theorem zAz:∀(L:List Vw) (acc:List (Int×List PVw)),(L.foldl kn14 acc).length<=acc.length+L.length
 | [],acc=>by simp
 | v::L,acc=>by
  rw [yd];have h:=zAz L (kn14 acc v);have h2:(kn14 acc v).length<=acc.length+1:=by
   grind [kn14,sb,wrap_i64,zCF]
  grind
theorem zAw {b:List UInt8} {L:List Vw} (hL:L.length<=1048576) (hat:At14 b L) (hneg:∀v∈L,v.Field= -1\/0<=v.Field) (x:Int×Int):∀(post pre:List Vw),L=pre++post->
  zeZ b (L.map prV,x) (pre.foldl kn14 []) pre.length (unkO (pre.map (thOf b)))=some (L.foldl kn14 [],unkO (L.map (thOf b))):=by
 intro post
 induction post with
 | nil=>
  intro pre e;rw [xW] at e;subst e;refine zqD ?_;unfold zdv
  grind
 | cons v post ih=>
  intro pre e;have wP:pre.length<L.length:=by rw [e];simp
  have hti:L[pre.length]=v:=by subst e;simp
  have hv:v∈L:=by rw [e];simp
  have hx:idx (L.map prV) (pre.length:Nat)=some (prV v):=by rw [zvo wP,hti]
  have hfi:(prV v).Field=v.Field:=rfl;have hun:(unkO (pre.map (thOf b))).length<=pre.length:=by
   unfold unkO
   grind
  have hw:i64.wrap (((pre.length:Nat):Int)+1)=(((pre++[v]).length:Nat):Int):=by rw [uO,xD,qH];push_cast;rfl
  have hF:=(hat v hv);by_cases hf:v.Field= -1
  ·refine (zks (known':=(pre++[v]).foldl kn14 []) (v':=(((pre++[v]).length:Nat):Int)) (f':=unkO ((pre++[v]).map (thOf b))) ?_).trans (ih (pre++[v]) (by rw [e];simp));unfold zdv;have e1:(prV v).Record.From=v.R.From:=rfl;have e2:(prV v).Record.To=v.R.To:=rfl;have hu:unkO ((pre++[v]).map (thOf b))=unkO (pre.map (thOf b))++[rawB b v.R]:=by
    unfold unkO;rw [yN,uu,yN];congr 1;rw [qv,yI,xy (by show decide (v.Field<0)=true;rw [hf];rfl)];rfl
   have hk:(pre++[v]).foldl kn14 []=pre.foldl kn14 []:=by rw [List.foldl_append,yd,q9];unfold kn14;rw [xy hf]
   rw [uM,hx,sb,itT (by rw [hfi,hf];rfl),e1,e2,zAp hat hv,sb,zeD (by simp;omega),sb,hw,hu,hk]
  ·refine (zks (known':=(pre++[v]).foldl kn14 []) (v':=(((pre++[v]).length:Nat):Int)) (f':=unkO ((pre++[v]).map (thOf b))) ?_).trans (ih (pre++[v]) (by rw [e];simp));unfold zdv;have e1:(prV v).Record.Number=v.R.Number:=rfl;have hg:=zEu v.R.Number pre [];have wS:((mget (pre.foldl kn14 []) v.R.Number).getD []).length<=pre.length:=by
    rw [hg];have:(zbp pre v.R.Number).length<=pre.length:=pR _ _;simpa [mget] using this
   have hk:(pre++[v]).foldl kn14 []=mput (pre.foldl kn14 []) v.R.Number ((mget (pre.foldl kn14 []) v.R.Number).getD []++[prV v]):=by rw [List.foldl_append,yd,q9];show kn14 (pre.foldl kn14 []) v=_;unfold kn14;rw [xx hf]
   rw [uM,hx,sb,itF (by rw [hfi];simpa using hf),e1,zeD (by simp only [qH];omega),sb,hw,hk];have hu:unkO ((pre++[v]).map (thOf b))=unkO (pre.map (thOf b)):=by
    unfold unkO;rw [yN,uu,yN,qv,yI,xx (by show ¬decide (v.Field<0)=true;have:=(hneg v hv).resolve_left hf;simp;omega)];simp
   rw [hu]
theorem zuu {L:List Vw} (hwf:∀v∈L,v.Field≠ -1->(Lit.int .i64 v.R.Number).wf=true) (hL:L.length<=1048576):
  ∃ks,zlm (L.foldl kn14 [])=some ks/\ks.Pairwise (·<·)/\∀n,n∈ks↔∃v∈L,v.Field≠ -1/\v.R.Number=n:=by
 have wS:=zAz L [];have hnd:=zCu L [] (by simp);have hk:=fun n=>zFT n L []
 generalize L.foldl kn14 []=K at wS hnd hk
 refine ⟨(K.map Prod.fst).mergeSort fun x y=>decide (x<=y),?_,?_,fun n=>?_⟩
 ·have hall:(K.all fun p=>(Lit.int .i64 p.1).wf)=true:=by
   rw [xI];intro p hp;obtain h| ⟨v,hv,hf,hn⟩:=(hk p.1).1 (qe hp)
   ·simp at h
   grind
  have hl:K.length*8<=140737488355328:=by rw [yB] at wS;omega
  unfold zlm;rw [zBe]
  grind
 ·have hp:=List.mergeSort_perm (K.map Prod.fst) fun x y=>decide (x<=y)
  have hs:=List.pairwise_mergeSort (le:=fun x y:Int=>decide (x<=y)) (fun a b c h k=>by simp at*;omega) (fun a b=>by simp;omega) (K.map Prod.fst);have hnd':=hp.nodup_iff.2 hnd
  generalize (K.map Prod.fst).mergeSort (fun x y=>decide (x<=y))=ks at hs hnd'
  refine (List.Pairwise.and hs hnd').imp fun {a b} h=>?_
  grind
 ·simp_all
theorem zpu:∀(l k:List Int),l.Pairwise (·<·)->k.Pairwise (·<·)->(∀w,w∈l↔w∈k)->l=k
 | [],[],_,_,_=>rfl
 | [],y::k,_,_,h=>absurd ((h y).2 xz) (by simp)
 | x::l,[],_,_,h=>absurd ((h x).1 xz) (by simp)
 | x::l,y::k,hl,hk,h=>by
  have hl':=yg.1 hl;have hk':=yg.1 hk;have hxy:x=y:=by
   rcases xC.1 ((h x).1 xz) with h1| h1
   ·exact h1
   ·rcases xC.1 ((h y).2 xz) with h2| h2
    ·exact h2.symm
    grind
  subst hxy;congr 1;refine zpu l k hl'.2 hk'.2 fun w=>?_
  grind
theorem zrk {α:Type} (vo:Int->α) (p:α->Bool) (met:Int->Bool):∀(o:List Int),(∀i∈o,met i=false->p (vo i)=false)->(o.map vo).filter p=((o.filter met).map vo).filter p
 | [],_=>rfl
 | i::o,h=>by
  have ih:=zrk vo p met o fun j hj=>h j (xA _ hj)
  grind
def zoh (f:Fld) (L:List Vw):List Vw:=if f.Repeated=true then L else L.drop (L.length - 1)
theorem ztK (b:List UInt8) (f:Fld) (L:List Vw):(zoh f L).map (thOf b)=zbK f (L.map (thOf b)):=by
 unfold zoh zbK;split
 ·rfl
 simp_all
theorem zHK :∀v∈zoh f L,v∈L:=fun v hv=>by
 unfold zoh at hv
 grind
theorem zHJ (f:Fld) (L:List Vw):(zoh f L).length<=L.length:=by
 unfold zoh
 grind
theorem zpV:∀(T:List Th),(T.flatMap (·.val)).length+T.length<=wt T
 | []=>by simp [wt]
 | t::T=>by have:=zpV T;rw [xM,xD,yk,wt];omega
theorem zxP (k:Int):∀(T:List Th),(T.flatMap fun t=>(zas k t.val).1).length<=wt T
 | []=>by simp [wt]
 | t::T=>by have:=zxP k T;have:=zui k t.val;rw [xM,xD,wt];omega
theorem zGv (f:Fld) (T:List Th):wt (zbK f T)<=wt T:=by
 unfold zbK;split
 ·grind
 ·have:∀(T:List Th) (k:Nat),wt (T.drop k)<=wt T:=fun T=>by
   induction T with
   | nil=>intro k;simp
   | cons t T ih=>
    intro k;cases k with
    | zero=>simp
    | succ k=>have:=ih k;rw [List.drop_succ_cons,wt];omega
  exact this T _
theorem zKD {rec1:List ze->Int->List UInt8->Option zd} {rec2:List ze->Fld->List UInt8->List PVw->Option (List zd)} {rec3:List ze->Fld->List UInt8->List PVw->Option zb}
  {g:Int->List UInt8->Msg} {s:List Mes} {f:Fld} {b:List UInt8} {L:List Vw} (hat:At14 b L) (w9:L≠[]) (hw:wt (L.map (thOf b))<=1048576)
  (hg1:f.Repeated=true->∀t∈L,rec1 s f.Of (valB b t.R)=some (g f.Of (valB b t.R))) (hg2:f.Repeated=false->rec1 s f.Of ((L.map (thOf b)).flatMap (·.val))=some (g f.Of ((L.map (thOf b)).flatMap (·.val)))):
  zid rec1 rec2 rec3 s f b (L.map prV)=some (if f.Repeated=true then (L.map (thOf b)).map fun t=>g f.Of t.val else [g f.Of ((L.map (thOf b)).flatMap (·.val))]):=by
 have hL:L.length<=1048576:=by have:=zuj (L.map (thOf b));rw [qL] at this;omega
 have hfl:((L.map fun t=>valB b t.R).flatten)=(L.map (thOf b)).flatMap (·.val):=by
  rw [qw,pJ];rfl
 have hflen:=zpV (L.map (thOf b));unfold zid;rw [zpc (a:=L.length) (by simp) (qt _) (by simp;omega),sb,zDi hL hat,sb];cases hr:f.Repeated
 ·by_cases h1:1<L.length
  ·rw [uM,zmz (by simp;omega) (by rw [hfl];omega),sb,sb,zpc (bytes:=48) (a:=1) (by simp) (qt _) (by simp),sb];have h:=ztU (rec:=rec1) (g:=g) (s:=s) (f:=f) (p:=[(L.map fun t=>valB b t.R).flatten]) (by simp) (fun v hv=>by
    simp only [xC,xN,xO] at hv;rw [hv,hfl];exact hg2 hr)
   grind
  ·have hl1:L.length=1:=by
    have:L.length≠0:=fun e=>w9 (yx e)
    omega
   obtain ⟨t,rfl⟩:=q7.1 hl1;rw [uL,sb,zpc (bytes:=48) (a:=1) (by simp) (qt _) (by simp),sb];have hv1:([t].map (thOf b)).flatMap (·.val)=valB b t.R:=by simp [thOf]
   have h:=ztU (rec:=rec1) (g:=g) (s:=s) (f:=f) (p:=[valB b t.R]) (by simp) (fun v hv=>by
    simp only [xC,xN,xO] at hv;rw [hv];have:=hg2 hr;rw [hv1] at this;exact this)
   grind
 ·rw [uK,sb,zpc (a:=L.length) (by simp) (qt _) (by simp;omega),sb];have h:=ztU (rec:=rec1) (g:=g) (s:=s) (f:=f) (p:=L.map fun t=>valB b t.R) (by simpa using hL) (fun v hv=>by
   obtain ⟨t,ht,rfl⟩:=xF.1 hv;exact hg1 hr t ht)
  rw [qL] at h;rw [h,sb,xy rfl,yL,yL];rfl
theorem zId 
  (hb:b.length<=1048576) (hat:At14 b L) (w9:L≠[]) (hw:wt (L.map (thOf b))<=1048576)
  (h2:f.Kind=17->rec2 s f b (L.map prV)=some (if f.Repeated=true then (L.map (thOf b)).map fun t=>g f.Of t.val else [g f.Of ((L.map (thOf b)).flatMap (·.val))])):
  zhh rec1 rec2 rec3 s f b (L.map prV)=some (valT g f (L.map (thOf b))):=by
 have hL:L.length<=1048576:=by have:=zuj (L.map (thOf b));rw [qL] at this;omega
 have hl0:L.length≠0:=fun e=>w9 (yx e)
 unfold zhh valT;by_cases wR:f.Kind=17
 ·grind
 ·have hp:(if ((!f.Repeated)&&(f.Kind !=17))=true then (cut (L.map prV) (i64.wrap (((L.map prV).length:Int) - 1)) ((L.map prV).length:Int)>>=fun v2=>some v2) else some (L.map prV))=some ((zoh f L).map prV):=by
   unfold zoh;cases hr:f.Repeated
   ·rw [itT (by simp [wR]),xx (by simp)];have hc:cut (L.map prV) (i64.wrap (((L.map prV).length:Int) - 1)) ((L.map prV).length:Int)=some ((L.drop (L.length - 1)).map prV):=by
     rw [zhl (a:=L.length - 1) (b:=L.length) (by rw [qL,uO];omega) (by simp) (by omega) (by simp)];rw [List.map_drop,yM (by simp)]
    rw [hc,sb]
   rfl
  rw [hp,sb,itF (by simp [wR]),xx wR];have hpw:=zGv f (L.map (thOf b));rw [<-ztK] at hpw;have hpl:=zHJ f L;have hpa:At14 b (zoh f L):=fun v hv=>hat v (zHK v hv)
  by_cases hx:f.Kind=15\/f.Kind=16
  ·have hk:(if (f.Kind==15)=true then some (f.Kind==15) else some (f.Kind==16))=some true:=by
    grind
   rw [hk,sb,itT rfl,zKy (by omega) hpa,sb,xy hx,<-ztK,yL];rfl
  ·have hk:(if (f.Kind==15)=true then some (f.Kind==15) else some (f.Kind==16))=some false:=by
    grind
   have hfm:((zoh f L).flatMap fun t=>(zas f.Kind (valB b t.R)).1)=((zoh f L).map (thOf b)).flatMap fun t=>(zas f.Kind t.val).1:=by rw [qw];rfl
   have hwl:=zxP f.Kind ((zoh f L).map (thOf b));rw [hk,sb,itF rfl,zIe hb (by omega) hpa (by rw [hfm];omega),sb,xx hx,<-ztK,hfm]
theorem zny {s:List Mes} {e:Nat} {k:Int}:∀(l:List (List UInt8)),(∀v∈l,zS s e k v=none)->zS s e k l.flatten=none
 | [],_=>by rw [List.flatten_nil];exact zoN s e k
 | v::l,h=>by
  rw [qm];exact (zgZ s e k l.flatten (h v xz)).2 (zny l fun u hu=>h u (xA _ hu))
theorem zzS (p:Th->Bool):∀(T:List Th),wt (T.filter p)<=wt T
 | []=>by simp
 | t::T=>by
  have:=zzS p T;rw [yI];split
  ·rw [wt,wt];omega
  ·rw [wt];omega
theorem zmr (hks:ks.length<=1048576)
  (kj:∀n∈ks,∃(x:PVw) (f:Fld),idx ((mget q.1 n).getD []) 0=some x/\idx m.Fields x.Field=some f/\rec3 s f b ((mget q.1 n).getD [])=some (V n)/\(V n).Words.length<=1048576/\(V n).Texts.length<=1048576/\(V n).Subs.length<=1048577):
  ∀(c i:Nat) (out:List Vlu),i+c=ks.length->out.length<=i->zfa b q rec3 s ks m i out=some (out++((ks.drop i).map V).filter fun v=>decide (0<zaM v))
 | 0,i,out,hi,_=>by
  have e:ks.drop i=[]:=yK (by omega);rw [e];refine zqE ?_;unfold zdw
  grind
 | c+1,i,out,hi,ho=>by
  have hil:i<ks.length:=by omega
  obtain ⟨x,f,h1,h2,h3,h4,h5,h6⟩:=kj _ (xH hil);rw [yF hil,xQ,yI];have hx:idx ks (i:Int)=some ks[i]:=zag rfl hil;have hw:i64.wrap ((i:Int)+1)=((i+1:Nat):Int):=by rw [uO];push_cast;rfl
  by_cases hp:0<zaM (V ks[i])
  ·rw [xy (by simpa using hp)];refine (zkt (v6':=((i+1:Nat):Int)) (f3':=out++[V ks[i]]) ?_).trans ?_
   ·unfold zdw;rw [uM,hx,sb,h1,sb,h2,sb,h3,sb,ztX ⟨by omega,by omega,by omega⟩,sb,itT (by simpa using hp),zeD (by simp only [qH];omega),sb,hw]
   ·rw [zmr hks kj c (i+1) _ (by omega) (by simp;omega),yy];rfl
  ·rw [xx (by simpa using hp)];refine (zkt (v6':=((i+1:Nat):Int)) (f3':=out) ?_).trans (zmr hks kj c (i+1) out (by omega) (by omega))
   grind [zdw,sb,wrap_i64,ztX]
theorem zKJ (g:Int->List UInt8->Msg) (f:Fld) (h:wt T<=1048576):(valT g f T).Words.length<=1048576/\(valT g f T).Texts.length<=1048576/\(valT g f T).Subs.length<=1048577:=by
 have h1:=zGv f T;have h2:=zuj (zbK f T);have h3:=zxP f.Kind (zbK f T);have h4:=zuj T;unfold valT
 grind
theorem zHA {s:List Mes} (hs:zcB s) {d k:Nat} {b:List UInt8} (hk:k<s.length) (hfi:zS s d k b=none) {ks:List Int} (hkp:ks.Pairwise (·<·)) (hkm:∀n,n∈ks↔∃v∈(zaZ (zp s (k:Int)) b).1,v.Field≠ -1/\v.R.Number=n):
  (∀n∈ks,∃i:Nat,i<(zp s (k:Int)).Fields.length/\(zv (zp s (k:Int)) i).Number=n/\fldI (zp s (k:Int)) n=i/\zbp (zaZ (zp s (k:Int)) b).1 n≠[]/\(∀v∈zbp (zaZ (zp s (k:Int)) b).1 n,v.Field=i)/\
   ∀t∈(zbp (zaZ (zp s (k:Int)) b).1 n).map (thOf b),OkF (zv (zp s (k:Int)) i) t/\OkT s d (zp s (k:Int)) t/\t.fi=i)/\
  (ofM s k b).Values=((ks.map fun n=>valT (ofM s) (zv (zp s (k:Int)) (fldI (zp s (k:Int)) n)) ((zbp (zaZ (zp s (k:Int)) b).1 n).map (thOf b))).filter fun v=>decide (0<zaM v))/\(ofM s k b).Unknown=unkO ((zaZ (zp s (k:Int)) b).1.map (thOf b)):=by
 have hmm:zp s (k:Int)∈s:=by rw [zci hk];exact xH hk
 have hfld:=hs.fld _ hmm;have wV:=zzL hfi;have hris:=znU hs hmm;have hat9:=fun {i:Int} (h0:0<=i) (h1:i<(zp s (k:Int)).Fields.length)=>zpW hs hmm h0 h1
 rw [ziu];have hvk:∀v∈(zaZ (zp s (k:Int)) b).1,v.Field= -1\/0<=v.Field/\v.Field<(zp s (k:Int)).Fields.length/\fldI (zp s (k:Int)) v.R.Number=v.Field/\(zv (zp s (k:Int)) v.Field).Number=v.R.Number:=by
  intro v hv;have h:=(zBq hv).2;rcases zec (zp s (k:Int)) v.R.Number v.R.Wire with h1| ⟨h1,_⟩| ⟨i,run,h1,h2,h3⟩
  ·grind
  ·grind
  ·rw [h] at h1;simp only [uC,yw] at h1;refine .inr ⟨by omega,by omega,by rw [h2,h1.1],?_⟩;rcases zcC (zp s (k:Int)) v.R.Number with ⟨g1,_⟩| ⟨j,hj,g1,g2,_⟩
   ·omega
   ·rw [h1.1,<-h2,g1,zby hj,g2]
 have hths:ths (zp s (k:Int)) b=(zaZ (zp s (k:Int)) b).1.map (thOf b):=rfl;rw [hths] at wV|-
 generalize zp s (k:Int)=m at hmm hfld wV hris hat9 hvk hkm|-
 generalize (zaZ m b).1=L at wV hvk hkm|-
 let vo:Int->Vlu:=fun i=>valO (ofM s) (zv m i) (accF (ofM s) (zv m i) i acc0 (L.map (thOf b)))
 have hby:∀{i:Int},0<=i->i<m.Fields.length->(zbp L (zv m i).Number).map (thOf b)=(L.map (thOf b)).filter fun t=>t.fi==i:=fun {i} h0 h1=>by
  unfold zbp;rw [List.filter_map];congr 1;refine List.filter_congr fun v hv=>?_
  show decide (v.Field≠ -1/\v.R.Number=(zv m i).Number)=(v.Field==i)
  grind
 have hmem:∀{i:Int},0<=i->i<m.Fields.length->∀t∈(zbp L (zv m i).Number).map (thOf b),OkF (zv m i) t/\OkT s d m t/\t.fi=i:=fun {i} h0 h1 t ht=>by
  rw [hby h0 h1,xU] at ht;have hfi':t.fi=i:=by simpa using ht.2
  have ho:=wV t ht.1;refine ⟨⟨fun hr=>?_,fun hr=>?_⟩,ho,hfi'⟩
  ·have:=ho.run (by omega) hr
   grind
  ·have:=ho.one (by omega) hr
   grind
 have hvoT:∀{i:Int},0<=i->i<m.Fields.length->zbp L (zv m i).Number≠[]->vo i=valT (ofM s) (zv m i) ((zbp L (zv m i).Number).map (thOf b)):=fun {i} h0 h1 w9=>by
  have hT:=hby h0 h1;have hm:=hmem h0 h1;obtain ⟨j,rfl⟩:∃j:Nat,i=j:=⟨i.toNat,by omega⟩;have hjl:j<m.Fields.length:=by omega
  have hkr:zbJ (zv m (j:Int)).Kind=true:=by rw [zby hjl];exact (hfld _ (xH hjl)).kind
  show valO _ _ (accF _ _ _ _ _)=_;rw [ziY,<-hT,zKI _ hkr (by simpa using w9) fun t ht=>(hm t ht).1]
 have hkn:∀n∈ks,∃i:Nat,i<m.Fields.length/\(zv m (i:Int)).Number=n/\fldI m n=i/\zbp L n≠[]/\∀v∈zbp L n,v.Field=i:=fun n hn=>by
  obtain ⟨v,hv,hf,hnn⟩:=(hkm n).1 hn;obtain ⟨g0,g1,g2,g3⟩:=(hvk v hv).resolve_left hf;obtain ⟨j,hj⟩:∃j:Nat,v.Field=j:=⟨v.Field.toNat,by omega⟩;refine ⟨j,by omega,by rw [<-hj,g3,hnn],by rw [<-hnn,g2,hj],fun e=>?_,fun u hu=>?_⟩
  ·have:v∈zbp L n:=xU.2 ⟨hv,by simp [hf,hnn]⟩;rw [e] at this;cases this
  ·obtain ⟨hu1,hu2⟩:=xU.1 hu;obtain ⟨q1,q2⟩:=yv hu2;have:=(hvk u hu1).resolve_left q1;rw [<-this.2.2.1,q2,<-hnn,g2,hj]
 refine ⟨fun n hn=>?_,?_,rfl⟩
 ·obtain ⟨i,h1,h2,h3,h4,h5⟩:=hkn n hn;refine ⟨i,h1,h2,h3,h4,h5,?_⟩;have:=hmem (i:=(i:Int)) (by omega) (by omega);rw [h2] at this;exact this
 have e0:(ks.map fun n=>valT (ofM s) (zv m (fldI m n)) ((zbp L n).map (thOf b)))=ks.map fun w=>vo (fldI m w):=y6 fun n hn=>by
  obtain ⟨i,h1,h2,h3,h4,h5⟩:=hkn n hn;have:=hvoT (i:=(i:Int)) (by omega) (by omega) (by rw [h2];exact h4);rw [h3,this,h2]
 rw [e0];show ((zeN (zeV m) m.Fields.length).map vo).filter (fun v=>decide (0<zaM v))=_;rw [zrk vo (fun v=>decide (0<zaM v)) (fun i=> !(zbp L (zv m i).Number).isEmpty) _ fun i hi hme=>?_]
 ·have hsub:∀i∈(zeN (zeV m) m.Fields.length).filter (fun i=> !(zbp L (zv m i).Number).isEmpty),0<=i/\i<m.Fields.length:=fun i hi=>zdm.1 (xU.1 hi).1
  have hks2:((zeN (zeV m) m.Fields.length).filter (fun i=> !(zbp L (zv m i).Number).isEmpty)).map (zeV m)=ks:=by
   refine zpu _ _ ?_ hkp fun w=>?_
   ·grind
   ·rw [xF];constructor
    ·rintro ⟨i,hi,rfl⟩;obtain ⟨hi1,hi2⟩:=xU.1 hi;have w9:zbp L (zv m i).Number≠[]:=by
      grind
     obtain ⟨v0,r0,hv0⟩:=pv w9;have hv0m:v0∈zbp L (zv m i).Number:=by rw [hv0];exact xz
     obtain ⟨q1,q2⟩:=xU.1 hv0m;obtain ⟨q3,q4⟩:=yv q2;exact (hkm _).2 ⟨v0,q1,q3,q4⟩
    ·intro hw;obtain ⟨i,h1,h2,h3,h4,_⟩:=hkn w hw;exact ⟨i,xU.2 ⟨zdm.2 ⟨by omega,by omega⟩,by rw [h2];simpa using h4⟩,h2⟩
  have e1:(ks.map fun w=>vo (fldI m w))=((zeN (zeV m) m.Fields.length).filter (fun i=> !(zbp L (zv m i).Number).isEmpty)).map vo:=by
   rw [<-hks2,yL];refine y6 fun i hi=>?_
   show vo (fldI m (zeV m i))=vo i;rw [zmK,hat9 (hsub i hi).1 (hsub i hi).2]
  rw [e1]
 ·obtain ⟨h0,h1⟩:=zdm.1 hi;have hbe:zbp L (zv m i).Number=[]:=by simpa using hme
  have hT:=hby h0 h1;rw [hbe] at hT;have hvo:vo i=valO (ofM s) (zv m i) acc0:=by
   show valO _ _ (accF _ _ _ _ _)=_;rw [ziY,<-hT];rfl
  rw [hvo];rfl
theorem zxB {s:List Mes} (hs:zcB s) {d n k:Nat} {b:List UInt8} (hk:k<s.length) (hb:b.length<=1048576) (hfi:zS s d k b=none)
  (hrec:∀e,d=e+1->∀(k':Nat) (v:List UInt8),k'<s.length->v.length<=1048576->zS s e k' v=none->zeu n s k' v=some (ofM s k' v)):zeu (n+3) s k b=some (ofM s k b):=by
 have hm:idx s (k:Int)=some (zp s k):=by rw [zag rfl hk,zci hk]
 have hmm:zp s (k:Int)∈s:=by rw [zci hk];exact xH hk
 have hfew:=hs.few _ hmm;have hfld:=hs.fld _ hmm;have wV:=zzL hfi;have hwt:=znY (zp s k) b;have hris:=znU hs hmm;have hat9:=fun {i:Int} (h0:0<=i) (h1:i<(zp s (k:Int)).Fields.length)=>zpW hs hmm h0 h1
 rw [ziu]
 -- views
 have hvk:∀v∈(zaZ (zp s (k:Int)) b).1,v.Field= -1\/0<=v.Field/\v.Field<(zp s (k:Int)).Fields.length/\fldI (zp s (k:Int)) v.R.Number=v.Field/\(zv (zp s (k:Int)) v.Field).Number=v.R.Number:=by
  intro v hv;have h:=(zBq hv).2;rcases zec (zp s (k:Int)) v.R.Number v.R.Wire with h1| ⟨h1,_⟩| ⟨i,run,h1,h2,h3⟩
  ·grind
  ·grind
  ·rw [h] at h1;simp only [uC,yw] at h1;refine .inr ⟨by omega,by omega,by rw [h2,h1.1],?_⟩;rcases zcC (zp s (k:Int)) v.R.Number with ⟨g1,_⟩| ⟨j,hj,g1,g2,_⟩
   ·omega
   ·rw [h1.1,<-h2,g1,zby hj,g2]
 have hat:At14 b (zaZ (zp s (k:Int)) b).1:=fun t ht=>zBx ht
 have hL:(zaZ (zp s (k:Int)) b).1.length<=1048576:=yn (zGO _ _) hb;have hths:ths (zp s (k:Int)) b=(zaZ (zp s (k:Int)) b).1.map (thOf b):=rfl;have hall:=zMg (m:=zp s (k:Int)) (by omega) hb;rw [hths] at wV hwt|-
 generalize zp s (k:Int)=m at hm hmm hfew hfld wV hwt hris hat9 hvk hat hL hall|-
 show zgS (zeu (n+2)) (zqr (n+2)) (zjt (n+2)) s k b=_;unfold zgS;rw [hm,sb,hall,sb]
 generalize (zaZ m b).2.1=c1
 generalize (zaZ m b).2.2=c2
 generalize (zaZ m b).1=L at wV hwt hvk hat hL|-
 have hl1:=zAw hL hat (fun v hv=>(hvk v hv).imp id fun h=>h.1) (c1,c2) L [] rfl;have hl1':zeZ b (L.map prV,c1,c2) [] 0 []=_:=hl1;obtain ⟨ks,hks,hkp,hkm⟩:=zuu (L:=L) (fun v hv hf=>by
  obtain ⟨h0,h1,_,h3⟩:=(hvk v hv).resolve_left hf;obtain ⟨i,hi⟩:∃i:Nat,v.Field=i:=⟨v.Field.toNat,by omega⟩;have hil:i<m.Fields.length:=by omega
  rw [hi,zby hil] at h3;have hfo:=hfld _ (xH hil);have:=hfo.lo;have:=hfo.hi;exact zEo (by omega)) hL
 rw [hl1',sb,hks,sb];have hrowis:∀n,(mget (L.foldl kn14 []) n).getD []=(zbp L n).map prV:=fun n=>by rw [zEu n L []];rfl
 let vo:Int->Vlu:=fun i=>valO (ofM s) (zv m i) (accF (ofM s) (zv m i) i acc0 (L.map (thOf b)))
 -- a field's views
 have hby:∀{i:Int},0<=i->i<m.Fields.length->(zbp L (zv m i).Number).map (thOf b)=(L.map (thOf b)).filter fun t=>t.fi==i:=fun {i} h0 h1=>by
  unfold zbp;rw [List.filter_map];congr 1;refine List.filter_congr fun v hv=>?_
  show decide (v.Field≠ -1/\v.R.Number=(zv m i).Number)=(v.Field==i)
  grind
 have hvoT:∀{i:Int},0<=i->i<m.Fields.length->zbp L (zv m i).Number≠[]->vo i=valT (ofM s) (zv m i) ((zbp L (zv m i).Number).map (thOf b))/\∀t∈(zbp L (zv m i).Number).map (thOf b),OkF (zv m i) t/\OkT s d m t/\t.fi=i:=fun {i} h0 h1 w9=>by
  have hT:=hby h0 h1;have hmem:∀t∈(zbp L (zv m i).Number).map (thOf b),OkF (zv m i) t/\OkT s d m t/\t.fi=i:=fun t ht=>by
   rw [hT,xU] at ht;have hfi':t.fi=i:=by simpa using ht.2
   have ho:=wV t ht.1;refine ⟨⟨fun hr=>?_,fun hr=>?_⟩,ho,hfi'⟩
   ·have:=ho.run (by omega) hr
    grind
   ·have:=ho.one (by omega) hr
    grind
  refine ⟨?_,hmem⟩;obtain ⟨j,rfl⟩:∃j:Nat,i=j:=⟨i.toNat,by omega⟩;have hjl:j<m.Fields.length:=by omega
  have hkr:zbJ (zv m (j:Int)).Kind=true:=by rw [zby hjl];exact (hfld _ (xH hjl)).kind
  show valO _ _ (accF _ _ _ _ _)=_;rw [ziY,<-hT,zKI _ hkr (by simpa using w9) fun t ht=>(hmem t ht).1]
 have hkn:∀n∈ks,∃i:Int,0<=i/\i<m.Fields.length/\(zv m i).Number=n/\fldI m n=i/\zbp L n≠[]/\∀v∈zbp L n,v.Field=i:=fun n hn=>by
  obtain ⟨v,hv,hf,hnn⟩:=(hkm n).1 hn;obtain ⟨g0,g1,g2,g3⟩:=(hvk v hv).resolve_left hf;refine ⟨v.Field,g0,g1,by rw [g3,hnn],by rw [<-hnn,g2],fun e=>?_,fun u hu=>?_⟩
  ·have:v∈zbp L n:=xU.2 ⟨hv,by simp [hf,hnn]⟩
   grind
  ·obtain ⟨hu1,hu2⟩:=xU.1 hu
   grind
 have hkl:ks.length<=1048576:=by
  have wS:ks.length=(L.foldl kn14 []).length:=by
   unfold zlm at hks;rw [zBe] at hks;split at hks
   ·cases hks;simp
   ·cases hks
  have:=zAz L []
  grind
 have hl2:=zmr (rec3:=zjt (n+2)) (s:=s) (m:=m) (b:=b) (q:=(L.foldl kn14 [],unkO (L.map (thOf b)))) (V:=fun w=>vo (fldI m w)) hkl (fun w hn=>by
  obtain ⟨i,h0,h1,h2,h3,h4,h5⟩:=hkn w hn;have hwf:=zzS (fun t=>t.fi==i) (L.map (thOf b));rw [<-hby h0 h1,h2] at hwf;have hw':wt ((zbp L w).map (thOf b))<=1048576:=by omega
  obtain ⟨v0,r0,hv0⟩:=pv h4;obtain ⟨j,hj⟩:∃j:Nat,i=j:=⟨i.toNat,by omega⟩;have hjl:j<m.Fields.length:=by omega
  have hfj:idx m.Fields i=some (zv m i):=by rw [hj,zag rfl hjl,zby hjl]
  have hfm:zv m i∈m.Fields:=by rw [hj,zby hjl];exact xH hjl
  have hv0m:v0∈zbp L w:=by rw [hv0];exact xz
  have hv0f:v0.Field=i:=h5 v0 hv0m;have hvT:=hvoT h0 h1 (by rw [h2];exact h4);rw [h2] at hvT;have hbat:At14 b (zbp L w):=fun v hv=>hat v (xU.1 hv).1
  have wS:=zKJ (ofM s) (zv m i) hw';rw [<-hvT.1] at wS;refine ⟨prV v0,zv m i,?_,?_,?_,by rw [h3];exact wS⟩
  ·rw [hrowis,hv0];rfl
  ·have:(prV v0).Field=v0.Field:=rfl
   grind
  ·rw [hrowis,h3,hvT.1];show zhh (zeu (n+1)) (zqr (n+1)) (zjt (n+1)) s (zv m i) b _=_;refine zId hb hbat h4 hw' fun wR=>?_
   show zid (zeu n) (zqr n) (zjt n) s (zv m i) b _=_;have hof:=(hfld _ hfm).sub wR;obtain ⟨k',hk'⟩:∃k':Nat,(zv m i).Of=k':=⟨(zv m i).Of.toNat,by omega⟩;have hone:∀t∈zbp L w,∃e,d=e+1/\zS s e (zv m i).Of (valB b t.R)=none:=fun t ht=>by
    obtain ⟨o1,o2,o3⟩:=hvT.2 _ (qe (f:=thOf b) ht);have hr:(thOf b t).run=false:=by
     cases hr:(thOf b t).run
     ·rfl
     ·have:=(o1.1 hr).1;rw [wR] at this;cases this
    have:=(o2.one (by omega) hr).2.2.2;rw [o3] at this;exact this wR
   refine zKD hbat h4 hw' (fun hr t ht=>?_) (fun hr=>?_)
   ·obtain ⟨e,he,hfe⟩:=hone t ht;have hvl:=zpQ (qe (f:=thOf b) ht);have hvl':(valB b t.R).length+1<=wt ((zbp L w).map (thOf b)):=hvl
    grind
   ·obtain ⟨e,he,_⟩:=hone v0 hv0m;have hfl:=zpV ((zbp L w).map (thOf b));have hff:zS s e (zv m i).Of (((zbp L w).map (thOf b)).flatMap (·.val))=none:=by
     rw [pJ];refine zny _ fun v hv=>?_
     obtain ⟨t',ht',rfl⟩:=xF.1 hv;obtain ⟨t,ht,rfl⟩:=xF.1 ht';obtain ⟨e',he',hfe⟩:=hone t ht;have:e'=e:=by omega
     rw [<-this];exact hfe
    rw [hk'] at hff|-;exact hrec e he k' _ (by omega) (by omega) hff) ks.length 0 [] (xR _) (xE _)
 have hl2':zfa b (L.foldl kn14 [],unkO (L.map (thOf b))) (zjt (n+2)) s ks m 0 []=_:=hl2;rw [hl2',sb,ya,xL];have hfin:((ks.map fun w=>vo (fldI m w)).filter fun v=>decide (0<zaM v))=zpK (ofM s) m (L.map (thOf b)) (zeN (zeV m) m.Fields.length):=by
  show _=(((zeN (zeV m) m.Fields.length).map vo).filter fun v=>decide (0<zaM v));rw [zrk vo (fun v=>decide (0<zaM v)) (fun i=> !(zbp L (zv m i).Number).isEmpty) _ fun i hi hme=>?_]
  ·have hsub:∀i∈(zeN (zeV m) m.Fields.length).filter (fun i=> !(zbp L (zv m i).Number).isEmpty),0<=i/\i<m.Fields.length:=fun i hi=>zdm.1 (xU.1 hi).1
   have hks2:((zeN (zeV m) m.Fields.length).filter (fun i=> !(zbp L (zv m i).Number).isEmpty)).map (zeV m)=ks:=by
    refine zpu _ _ ?_ hkp fun w=>?_
    ·grind
    ·rw [xF];constructor
     ·rintro ⟨i,hi,rfl⟩;obtain ⟨hi1,hi2⟩:=xU.1 hi;have w9:zbp L (zv m i).Number≠[]:=by
       grind
      obtain ⟨v0,r0,hv0⟩:=pv w9;have hv0m:v0∈zbp L (zv m i).Number:=by rw [hv0];exact xz
      obtain ⟨q1,q2⟩:=xU.1 hv0m;obtain ⟨q3,q4⟩:=yv q2;exact (hkm _).2 ⟨v0,q1,q3,q4⟩
     ·intro hw;obtain ⟨i,h0,h1,h2,h3,h4,_⟩:=hkn w hw;exact ⟨i,xU.2 ⟨zdm.2 ⟨h0,h1⟩,by rw [h2];simpa using h4⟩,h2⟩
   have e1:(ks.map fun w=>vo (fldI m w))=((zeN (zeV m) m.Fields.length).filter (fun i=> !(zbp L (zv m i).Number).isEmpty)).map vo:=by
    rw [<-hks2,yL];refine y6 fun i hi=>?_
    show vo (fldI m (zeV m i))=vo i;rw [zmK,hat9 (hsub i hi).1 (hsub i hi).2]
   rw [e1]
  ·obtain ⟨h0,h1⟩:=zdm.1 hi;have hbe:zbp L (zv m i).Number=[]:=by simpa using hme
   have hT:=hby h0 h1;rw [hbe] at hT;have hvo:vo i=valO (ofM s) (zv m i) acc0:=by
    show valO _ _ (accF _ _ _ _ _)=_;rw [ziY,<-hT];rfl
   rw [hvo];rfl
 rw [hfin];rfl
theorem zKz (hs:zcB s):∀(d fuel k:Nat) (b:List UInt8),k<s.length->b.length<=1048576->3*d+3<=fuel->zS s d k b=none->zeu fuel s k b=some (ofM s k b):=by
 intro d
 induction d with
 | zero=>
  intro fuel k b hk hb hf hfi;obtain ⟨n,rfl⟩:∃n,fuel=n+3:=⟨fuel - 3,by omega⟩;exact zxB hs hk hb hfi fun e he=>by omega
 | succ d ih=>
  intro fuel k b hk hb hf hfi;obtain ⟨n,rfl⟩:∃n,fuel=n+3:=⟨fuel - 3,by omega⟩;exact zxB hs hk hb hfi fun e he k' v h1 h2 h3=>by
   grind
theorem zBl (root:Int) (d:Int) (hf:300<=fuel) (hw:WS s) (hb:b.length<=1048576):zmc fuel s root b d=some (zpC s root b d):=by
 unfold zmc zpC;rw [zug hw root hb d (by omega),sb];by_cases h0:(zba s root b d).2=0
 ·have h0':¬(zba s root b d).2≠0:=fun h=>h h0
  obtain ⟨hr,g1,g2,g3,g4⟩:=zkG (zrJ h0);obtain ⟨k,rfl⟩:∃k:Nat,root=k:=⟨root.toNat,by omega⟩;have hfi:zS s d.toNat k b=none:=(zmI.1 (by unfold is11;simpa using h0)).2;rw [itF (by simpa using h0),xx h0',zKz hr d.toNat fuel k b (by omega) hb (by omega) hfi,sb]
 grind
structure zyv (l:List zaC):Prop where
 sorted:l.Pairwise (fun a b=>zdr a b=true)
 full:∀w∈l,w≠[]
 anti:∀v∈l,∀w∈l,v<+:w->v=w
theorem zyv.of (h:zyv l):ofW l=l:=
 zuI _ _ (zEK l) h.sorted fun w=>by
  rw [zGp];exact ⟨fun k=>k.1,fun hw=>⟨hw,h.full w hw,fun v hv _ hp=>h.anti v hv w hw hp⟩⟩
theorem zyv.filter (h:zyv l) (p:zaC->Bool):zyv (l.filter p):=
 ⟨h.sorted.filter p,fun w hw=>h.full w (xU.1 hw).1,fun v hv w hw=>h.anti v (xU.1 hv).1 w (xU.1 hw).1⟩
structure Fo (pre acc:List zaC):Prop where
 mask:zyv acc
 has:∀v,hasB acc v=hasB pre v
 mem:∀a∈acc,a∈pre
abbrev zOe:=List (zMQ×Int)
structure Trie (t:zOe) (A:List zaC) (P:List (zaC×Int)):Prop where
 root:([],0)∈P
 same:∀p∈P,∀q∈P,(p.2=q.2↔p.1=q.1)
 ids:∀p∈P,0<=p.2/\p.2<=t.length
 keys:∀(i n:Int),(t.length:Int)<i->mget t ⟨i,n⟩=none
 leaf:∀p∈P,∀n,p.1++[n]∈A->mget t ⟨p.2,n⟩=some (-1)
 node:∀p∈P,∀n,∀q∈P,q.1=p.1++[n]->mget t ⟨p.2,n⟩=some q.2
 none:∀p∈P,∀n,p.1++[n]∉A->(∀q∈P,q.1≠p.1++[n])->mget t ⟨p.2,n⟩=none
 clo:∀q∈P,∀p n,q.1=p++[n]->∃i,(p,i)∈P
 comp:∀a∈A,∀p,p<+:a->p≠a->∃i,(p,i)∈P
 anti:∀v∈A,∀w∈A,v<+:w->v=w
 full:∀a∈A,a≠[]
section
end
def UW (w:List zaC):Prop:=w.length<=4194304/\∀x∈w,x.length<=4194304
theorem UW.of (h:UW w):UW (ofW w):=⟨yn (zLH w) h.1,fun x hx=>h.2 x (zGp.1 hx).1⟩
theorem UW.filter (h:UW w) (p:zaC->Bool):UW (w.filter p):=⟨yn (pR _ _) h.1,fun x hx=>h.2 x (xU.1 hx).1⟩
theorem zHj (h:0<=fldI m n):fldI m n<m.Fields.length/\(zv m (fldI m n)).Number=n:=by
 rcases zcC m n with ⟨e,_⟩| ⟨i,hi,e,hn,_⟩
 ·omega
 ·rw [e];refine ⟨by omega,?_⟩;unfold zv;rw [xK,ut,xT hi];exact hn
structure Ok15 (fuel:Nat) (x:Msg):Prop where
 b:bdM x
 s:smM x
 z:2*szM x<fuel
 d:szM x<=131072
theorem Ok15.dm (h:Ok15 fuel x):dM x<=131072:=by have:=zFz x;have:=h.d;omega
theorem Ok15.right {fuel:Nat} {x:Msg} (h:Ok15 fuel x) {s:List Mes} (hw:WS s) (root:Int):zjr fuel s root x=some (zhI s&&zaG s x root):=zxF root h.z hw h.b h.s h.dm
theorem Ok15.copy {fuel:Nat} {x:Msg} (h:Ok15 fuel x):ztY fuel x=some x:=zKx (by have:=h.z;omega) h.b h.dm
def jv15 (s:List Mes) (a:Msg) (k:Int) (v:Vlu):Vlu:=zgi s v (look a.Values v.Number) (zv (zp s k) (fldI (zp s k) v.Number))
structure Jm (s:List Mes) (a:Msg) (k:Int) (t:List Vlu) (q:List (Int×Vlu)):Prop where
 nd:(q.map Prod.fst).Nodup
 get:∀n,mget q n=match look t n with
  | some v=>some (jv15 s a k v)
  | none=>look a.Values n
 len:q.length<=a.Values.length+t.length
theorem Jm.put (h:Jm s a k t q) (hn:look t v.Number=none):Jm s a k (t++[v]) (mput q v.Number (jv15 s a k v)):=by
 refine ⟨znH h.nd _ _,fun n=>?_,?_⟩
 ·rw [zez,zoZ];by_cases e:n=v.Number
  ·subst e;rw [xy rfl,hn];simp only;rw [zcI,xy rfl]
  ·rw [xx e,h.get];cases hl:look t n with
   | some u=>rfl
   | none=>
    simp only;rw [zcI,xx (fun e'=>e e'.symm)];rfl
 ·have:=zCF q v.Number (jv15 s a k v);have:=h.len;rw [xD,qH];omega
def zAj (s:List Mes) (root:Int) (x:Msg):List UInt8×Int:=if zqQ s root [x]=0 then (encM s x root,0) else ([],zqQ s root [x])
noncomputable def zvp (s:List Mes) (root:Int) (b:List UInt8):Bool:=is11 s root b 64&&(encM s (ofM s root b) root==b)
def Wr (o:Option zn) (p:List Str) (n:Int) (B:Str) (c:Nat):Prop:=∃P:List Str,o=some ⟨p++P,n+(B.length:Int)⟩/\P.flatten=B/\P.length<=c
def Wq (o:Option (List Str×Int)) (p:List Str) (n:Int) (B:Str) (c:Nat):Prop:=∃P:List Str,o=some (p++P,n+(B.length:Int))/\P.flatten=B/\P.length<=c
def Wm (p:List Str) (n:Int) (b c:Nat):Prop:=0<=n/\n+(b:Int)<=1099511627776/\p.length+c<=1099511627776
theorem zFn {p:List Str} {n:Int} {b:Str} (h:Wm p n b.length 1):zbH ⟨p,n⟩ b=some ⟨p++[b],n+(b.length:Int)⟩:=by
 obtain ⟨h1,h2,h3⟩:=h
 grind [zbH,sb,wrap_i64,zeD]
theorem zIo {p:List Str} {n:Int} {b:Str} (h:Wm p n b.length 1):Wr (zbH ⟨p,n⟩ b) p n b 1:=⟨[b],zFn h,by simp,by simp⟩
theorem zrE {p:List Str} {n k w:Int} {v:Str} (hr:zbL k w=true) (hf:zbT w v=true) (hv:v.length<=1048576) (h:Wm p n (put5 k w v).length 1):Wr (zbO ⟨p,n⟩ k w v) p n (put5 k w v) 1:=by
 unfold zbO
 grind [zAX,sb,zIo]
theorem zII {k:Int} (hk:kNum k=true):zlc k=some (zau k):=by
 have h:=zdS.1 hk;unfold zlc;rw [zsH (by omega),sb,xy hk];have e:zbs k 0=0:=by
  unfold zbs;split
  ·decide
  grind
 unfold sPut ziC zau;rw [e];have h15:¬15<=k:=by omega
 by_cases h1:12<=k
 ·rw [xy h1,xx h15,xy h1];rfl
 ·by_cases h2:9<=k
  ·rw [xx h1,xy h2,xx h15,xx h1,xy h2];rfl
  grind [zrh]
theorem zIq {p:List Str} {n:Int} {f:Fld} {l:List Int} (hk:kNum f.Kind=true) (n1:1<=f.Number) (n2:f.Number<=536870911) (hl:∀w∈l,0<=w/\w<=18446744073709551615) (hn:l.length<=30000) (h1:f.Repeated=false->l.length=1)
  (h:Wm p n (if f.Repeated=true then put5 f.Number 2 (l.flatMap (sPut f.Kind)) else put5 f.Number (zau f.Kind) (sPut f.Kind (l.headD 0))).length 1):
  Wr (zeG ⟨p,n⟩ f l) p n (if f.Repeated=true then put5 f.Number 2 (l.flatMap (sPut f.Kind)) else put5 f.Number (zau f.Kind) (sPut f.Kind (l.headD 0))) 1:=by
 unfold zeG;have hfl:=zrR (k:=f.Kind) hl;rw [zCY _ hl (by omega),sb,xy hk];by_cases hr:f.Repeated=true
 ·grind [zrE,zdf,zoO,sb]
 ·rw [xx hr] at h;rw [xx hr,xx hr];obtain ⟨w,rfl⟩:∃w,l=[w]:=q7.1 (h1 (by simpa using hr));have hw:=hl w xz;have hs:=ziD (k:=f.Kind) hw;have hc:=zgf f.Kind hw;obtain ⟨P,e,g⟩:=zrE (zoU (by unfold zbJ;have:=zdS.1 hk;simp;omega) n1 n2) (zpv hk (c:=(zbs f.Kind w).toNat) (by omega)) (by show (sPut f.Kind w).length<=_;omega) h;refine ⟨P,?_,g⟩;have ef:[w].flatMap (sPut f.Kind)=sPut f.Kind w:=by simp
  rw [zII hk,sb,ef];show (zbO ⟨p,n⟩ f.Number (zau f.Kind) (ziC f.Kind (zbs f.Kind w).toNat)>>=_)=_;rw [e,sb];rfl
theorem zID {k:Int} {c:Nat} (n1:1<=k) (n2:k<=536870911) (hc:c<=1048576) {v:Str} (hv:v.length=c):∃b,zlb k (c:Int)=some b/\b++v=put5 k 2 v:=by
 have hr:zbL k 2=true:=zdf.2 ⟨n1,n2,by omega⟩;obtain ⟨_,wP⟩:=zsJ hr;have h1:=zim (v:=tW k 2) (by omega);have e0:enc 0=[0]:=zrh (v:=0) (by omega);have ep:put5 k 2 []=enc (tW k 2)++[0]:=by unfold put5;rw [xy rfl,yB,e0,xW]
 have ew:u64.wrap (c:Int)=(c:Int):=by rw [wrap_u64,qh (by omega) (by omega)]
 have es:sPut 4 (c:Int)=enc c:=by
  rfl
 have h2:=zim (v:=c) (by omega);have hcut:cut (enc (tW k 2)++[0]) 0 (i64.wrap (((enc (tW k 2)++[0]).length:Int) - 1))=some (enc (tW k 2)):=by
  rw [wrap_i64 (by simp;omega),zhl (i:=0) (a:=0) (b:=(enc (tW k 2)).length) rfl (by simp) (by omega) (by simp)];simp
 refine ⟨enc (tW k 2)++enc c,?_,?_⟩
 ·unfold zlb;rw [zGB (by simp) (by simp),sb,xy hr,xL,ew,zBd (by omega),sb,xy (by decide),ep,hcut,sb];simp only [es];rw [zeD (by simp;omega),sb]
 ·unfold put5
  grind
theorem zno {α:Type} (l:List α) (g:α->Str) (c:α->Nat) (F:Int->List Str->Int->Option (List Str×Int)) (h0:∀p n,F (l.length:Int) p n=some (p,n))
  (hs:∀(i:Nat) (h:i<l.length) (p:List Str) (n:Int),Wm p n (g l[i]).length (c l[i])->∃P:List Str,F (i:Int) p n=F ((i+1:Nat):Int) (p++P) (n+((g l[i]).length:Int))/\P.flatten=g l[i]/\P.length<=c l[i]):∀(k i:Nat) (p:List Str) (n:Int),i+k=l.length->Wm p n ((l.drop i).flatMap g).length ((l.drop i).map c).sum->
  Wq (F (i:Int) p n) p n ((l.drop i).flatMap g) ((l.drop i).map c).sum
 | 0,i,p,n,h,_=>by
  have e:l.drop i=[]:=yK (by omega);have hi:i=l.length:=by omega
  rw [e,hi,h0];exact ⟨[],by simp,rfl,by simp⟩
 | k+1,i,p,n,h,hb=>by
  have hil:i<l.length:=by omega
  have hd:l.drop i=l[i]::l.drop (i+1):=yF hil;rw [hd,xM,xQ,y7] at hb|-;obtain ⟨b1,b2,b3⟩:=hb;rw [xD] at b2;obtain ⟨P,e,h1,h2⟩:=hs i hil p n ⟨b1,by omega,by omega⟩;obtain ⟨Q,e',h3,h4⟩:=zno l g c F h0 hs k (i+1) (p++P) (n+((g l[i]).length:Int)) (by omega) ⟨by omega,by omega,by rw [xD];omega⟩;refine ⟨P++Q,?_,by rw [uD,h1,h3],by rw [xD];omega⟩
  grind
theorem zKw {α:Type} {c d:α->Nat}:∀{l:List α},(∀x∈l,c x<=d x)->(l.map c).sum<=(l.map d).sum
 | [],_=>xE _
 | x::l,h=>by
  have h1:=h x xz;have h2:=zKw (l:=l) fun y hy=>h y (xA _ hy)
  grind
theorem zDF:∀l:List Vlu,wgVs l=(l.map wgV).sum
 | []=>rfl
 | v::l=>by rw [wgVs,zDF l];rfl
theorem zDD:∀l:List Msg,wgMs l=(l.map wgM).sum
 | []=>rfl
 | v::l=>by rw [wgMs,zDD l];rfl
theorem zBn {α:Type} (g:α->Nat):∀l:List α,(l.map fun v=>2*g v).sum=2*(l.map g).sum
 | []=>rfl
 | v::l=>by rw [xQ,xQ,y7,y7,zBn g l];omega
theorem zGq (l:List Str):(l.map fun _=>1).sum<=(l.map fun t=>1+t.length).sum:=zKw fun x _=>by omega
theorem zHb {m:Mes} {n:Int} (hl:m.Fields.length<=140737488351232) (h:0<=fldI m n):∃r,zdt m n=some r/\idx m.Fields r.1=some (zv m (fldI m n)):=by
 rw [zoG hl];have h0:=h;unfold fldI zje at h0;cases hf:m.Fields.findIdx? (fun f:Fld=>f.Number==n) with
 | none=>rw [hf] at h0;simp at h0
 | some i=>
  have e:fldI m n=i:=by unfold fldI zje;rw [hf]
  have hi:i<m.Fields.length:=by have:=(zHj h).1;omega
  exact ⟨_,rfl,by rw [e,zag rfl hi,zby hi]⟩
theorem zLR (p:List Str) (a b:Str) (P:List Str):(p++[a]++P).set p.length b=p++(b::P):=by
 grind
theorem zGX {s:List Mes} (hs:zcB s):∀(fuel:Nat),
  (∀(x:Msg) (k:Int) (p:List Str) (n:Int),2*szM x<=fuel->bdM x->wgM x<=30000->zaG s x k=true->Wm p n (encM s x k).length (2*wgM x - 1)->Wr (zbq fuel ⟨p,n⟩ s k x) p n (encM s x k) (2*wgM x - 1))/\
  (∀(x:Msg) (f:Fld) (p:List Str) (n:Int),2*szM x+1<=fuel->bdM x->wgM x<=30000->1<=f.Number->f.Number<=536870911->zaG s x f.Of=true->Wm p n (put5 f.Number 2 (encM s x f.Of)).length (2*wgM x)->Wr (zdD fuel ⟨p,n⟩ s f x) p n (put5 f.Number 2 (encM s x f.Of)) (2*wgM x))/\
  ∀(v:Vlu) (f:Fld) (p:List Str) (n:Int),2*szV v<=fuel->bdV v->wgV v<=30000->1<=f.Number->f.Number<=536870911->ziS s v f=true->Wm p n (encV s v f).length (2*wgV v)->Wr (zdE fuel ⟨p,n⟩ s f v) p n (encV s v f) (2*wgV v)
 | 0=>⟨fun x k p n h=>by rw [zch] at h;omega,fun x f p n h=>by omega,fun v f p n h=>by rw [zeO] at h;omega⟩
 | fuel+1=>by
  obtain ⟨ih1,ih2,ih3⟩:=zGX hs fuel;refine ⟨fun x k p n wZ hb hw hr hm=>?_,fun x f p n wZ hb hw n1 n2 hr hm=>?_,fun v f p n wZ hb hw n1 n2 hf hm=>?_⟩
  ·obtain ⟨b1,⟨b2,_⟩,b4⟩:=(zja x).1 hb;rw [zch] at wZ;rw [zjv] at hw hm|-;obtain ⟨k0,k1,_,hv,_⟩:=zbi hr;rw [zkz] at hm|-;obtain ⟨j,rfl⟩:∃j:Nat,k=j:=⟨k.toNat,by omega⟩;have hn:j<s.length:=by omega
   have hmi:idx s (j:Int)=some (zp s j):=by rw [zag rfl hn,zci hn]
   have hmm:zp s (j:Int)∈s:=by rw [zci hn];exact xH hn
   have hfew:=hs.few _ hmm
   generalize zp s (j:Int)=m at hv hmi hmm hfew hm|-
   obtain ⟨m1,m2,m3⟩:=hm;rw [xD] at m2;have hu:=zGq x.Unknown;have hvs:=zDF x.Values;have htw:=zBn wgV x.Values;obtain ⟨P,e1,f1,g1⟩:=zno x.Values (fun v=>encV s v (zv m (fldI m v.Number))) (fun v=>2*wgV v) (fun i p n=>zcG (zdE fuel) s x m i p n) (fun p n=>by
     refine zkv ?_;unfold zbw;rw [uL])
    (fun i hi p n hwm=>by
     have hvm:=xH hi;have hxi:idx x.Values (i:Int)=some x.Values[i]:=zag rfl hi;have s1:=zdZ hvm;have w1:=zpN hvm
     generalize x.Values[i]=v at hvm hxi hwm s1 w1|-
     obtain ⟨f0,hfit⟩:=hv v hvm;rcases zcC m v.Number with ⟨hf,_⟩| ⟨q,hq,hf,_⟩
     ·omega
     have hfm:zv m (fldI m v.Number)∈m.Fields:=by rw [hf,zby hq];exact xH hq
     have hfo:=hs.fld _ hmm _ hfm;obtain ⟨r,hby,hidx⟩:=zHb (m:=m) (n:=v.Number) (by omega) f0;obtain ⟨P,e,f,g⟩:=ih3 v (zv m (fldI m v.Number)) p n (by omega) (zen.1 b4 v hvm) (by omega) hfo.lo hfo.hi hfit hwm;refine ⟨P,zku ?_,f,g⟩;unfold zbw;rw [uM,hxi,sb,hby,sb,hidx,sb,e,sb,uO];push_cast;rfl) x.Values.length 0 p n (xR _) (by rw [ya,<-zlf,htw];exact ⟨m1,by omega,by omega⟩)
   rw [ya,<-zlf] at e1 f1;rw [ya,htw] at g1;obtain ⟨Q,e2,f2,g2⟩:=zno x.Unknown (fun t=>t) (fun _=>1) (fun i p n=>zcH x i p n) (fun p n=>by
     refine zkx ?_;unfold zbx;rw [uL])
    (fun i hi p n hwm=>by
     have hl:=znW (xH hi);refine ⟨[x.Unknown[i]],zkw ?_,by simp,by simp⟩;unfold zbx;rw [uM,zag rfl hi,sb,zFY (by omega),sb,zFn hwm,sb,uO];push_cast;rfl) x.Unknown.length 0 (p++P) (n+((zcA s x.Values m).length:Int)) (xR _) (by
      rw [ya,List.flatMap_id'];exact ⟨by omega,by omega,by rw [xD];omega⟩)
   rw [ya,List.flatMap_id'] at e2 f2;rw [ya] at g2;refine ⟨P++Q,?_,by rw [uD,f1,f2],by rw [xD];omega⟩;show zcV (zbq fuel) (zdD fuel) (zdE fuel) ⟨p,n⟩ s j x=_;unfold zcV
   grind
  ·have wS:=(zmE hs (szM x)).1 x f.Of (xE _) hb hw hr;have hpl:=zgK f.Number 2 (encM s x f.Of);rw [xy rfl] at hpl;obtain ⟨m1,m2,m3⟩:=hm;have hwg:1<=wgM x:=by rw [zjv];omega
   obtain ⟨h,eh,ep⟩:=zID (k:=f.Number) (c:=(encM s x f.Of).length) n1 n2 (by omega) (v:=encM s x f.Of) rfl;have hhl:h.length+(encM s x f.Of).length=(put5 f.Number 2 (encM s x f.Of)).length:=by rw [<-ep,xD]
   obtain ⟨P,e,f1,g1⟩:=ih1 x f.Of (p++[[]]) n (by omega) hb hw hr ⟨m1,by omega,by simp;omega⟩;refine ⟨h::P,?_,by rw [qm,f1,ep],by rw [yk];omega⟩;show zeF (zbq fuel) (zdD fuel) (zdE fuel) ⟨p,n⟩ s f x=_;unfold zeF;have e0:zbH ⟨p,n⟩ []=some ⟨p++[[]],n⟩:=by
    rw [zFn ⟨m1,by simp;omega,by omega⟩];simp
   rw [e0,sb,e,sb];simp only;rw [wrap_i64 (x:=n+((encM s x f.Of).length:Int) - n) (by omega),show n+((encM s x f.Of).length:Int) - n=((encM s x f.Of).length:Int) by omega,eh,sb,zag rfl (by simp),sb,xK,zLR,zag rfl (by simp),sb,wrap_i64 (by simp;omega)]
   grind
  ·have wS:=(zmE hs (szV v)).2 v f (xE _) hb hw n1 n2 hf;obtain ⟨_,⟨bl,bw⟩,_,_,b5⟩:=(zhk v).1 hb;rw [zeO] at wZ;rw [ziM] at hw hm wS|-;have hfs:=zdl hf;rw [zhC] at wS hm|-;have t2:zbL f.Number 2=true:=zdf.2 ⟨n1,n2,.inr (.inr (.inl rfl))⟩;obtain ⟨m1,m2,m3⟩:=hm;have ho:=zGq v.Texts;have hms:=zDD v.Subs;have htw:=zBn wgM v.Subs;have L1:∀(p:List Str) (n:Int),Wm p n (v.Texts.flatMap (put5 f.Number 2)).length (v.Texts.map fun _=>1).sum->Wq (zcr f v 0 p n) p n (v.Texts.flatMap (put5 f.Number 2)) (v.Texts.map fun _=>1).sum:=fun p n h=>by
    have:=zno v.Texts (put5 f.Number 2) (fun _=>1) (fun i p n=>zcr f v i p n) (fun p n=>by
      refine zlK ?_;unfold zbP;rw [uL])
     (fun i hi p n hwm=>by
      have hl:=znW (xH hi);obtain ⟨P,e,f1,g1⟩:=zrE t2 (zoO _) (by omega) hwm;refine ⟨P,zlJ ?_,f1,g1⟩;unfold zbP;rw [uM,zag rfl hi,sb,zFY (by omega),sb,e,sb,uO];push_cast;rfl) v.Texts.length 0 p n (xR _) (by rw [ya];exact h)
    grind
   have L2:∀(p:List Str) (n:Int),Wm p n (zgh s v.Subs f).length (2*wgMs v.Subs)->Wq (zcs f (zdD fuel) s v 0 p n) p n (zgh s v.Subs f) (2*wgMs v.Subs):=fun p n h=>by
    rw [znu,hms,<-htw] at h|-;have:=zno v.Subs (fun x=>put5 f.Number 2 (encM s x f.Of)) (fun x=>2*wgM x) (fun i p n=>zcs f (zdD fuel) s v i p n) (fun p n=>by
      refine zlM ?_;unfold zbQ;rw [uL])
     (fun i hi p n hwm=>by
      have hxm:=xH hi;have hxi:idx v.Subs (i:Int)=some v.Subs[i]:=zag rfl hi
      generalize v.Subs[i]=x at hxm hxi hwm|-
      have s1:=zdY hxm;have w1:=zkc hxm;obtain ⟨P,e,f1,g1⟩:=ih2 x f p n (by omega) (zeE.1 b5 x hxm) (by omega) n1 n2 (hfs.subs x hxm).2 hwm;refine ⟨P,zlL ?_,f1,g1⟩;unfold zbQ;rw [uM,hxi,sb,e,sb,uO];push_cast;rfl) v.Subs.length 0 p n (xR _) (by rw [ya];exact h)
    grind
   show Wr (zdP (zbq fuel) (zdD fuel) (zdE fuel) ⟨p,n⟩ s f v) _ _ _ _;unfold zdP;by_cases hn:kNum f.Kind=true
   ·have hnt:=hfs.noTexts (by have:=zfY hn;omega);have hns:=hfs.noSubs (zfY hn).1;have hmany:=hfs.many;have hone:=hfs.one;unfold zaM at hmany hone;rw [hnt] at hmany hone L1;rw [hns] at hmany hone L2;simp only [yB,yD] at hmany hone;rw [xy hn] at wS m2|-;obtain ⟨P,e,f1,g1⟩:=zIq (p:=p) (n:=n) hn n1 n2 bw (by omega) hone ⟨m1,m2,by omega⟩
    generalize (if f.Repeated=true then put5 f.Number 2 (v.Words.flatMap (sPut f.Kind)) else put5 f.Number (zau f.Kind) (sPut f.Kind (v.Words.headD 0)))=B at wS m2 e f1|-
    obtain ⟨Q,e1,f2,g2⟩:=L1 (p++P) (n+(B.length:Int)) ⟨by omega,by simp;omega,by simp;omega⟩;have g2':Q.length<=0:=g2;obtain ⟨R,e2,f3,g3⟩:=L2 (p++P++Q) (n+(B.length:Int)+(((([]:List Str).flatMap (put5 f.Number 2)).length:Nat):Int)) ⟨by omega,by simp [zgh];omega,by simp [wgMs];omega⟩;have g3':R.length<=0:=g3;have hQ:Q=[]:=uI.1 (by omega);have hR:R=[]:=uI.1 (by omega);subst hQ hR;refine ⟨P,?_,f1,by omega⟩;simp_all
   ·have hwd:v.Words=[]:=by
     cases hw':v.Words with
     | nil=>rfl
     | cons w l=>
      have hm:w∈v.Words:=by rw [hw'];exact xz
      exact absurd (zqj (hfs.words w hm) (bw w hm)).1 hn
    rw [xx hn] at wS m2|-;rw [xD] at m2;obtain ⟨Q,e1,f2,g2⟩:=L1 p n ⟨m1,by omega,by omega⟩;obtain ⟨R,e2,f3,g3⟩:=L2 (p++Q) (n+((v.Texts.flatMap (put5 f.Number 2)).length:Int)) ⟨by omega,by omega,by rw [xD];omega⟩;refine ⟨Q++R,?_,by rw [uD,f2,f3],by rw [xD];omega⟩
    grind
structure Ok16 (fuel:Nat) (x:Msg):Prop where
 b:bdM x
 s:smM x
 z:2*szM x<fuel
 w:wgM x<=30000
theorem zzP {s:List Mes} (hs:zcB s) {fuel:Nat} {x:Msg} {k:Int} (hz:2*szM x<fuel) (hb:bdM x) (hw:wgM x<=30000) (hr:zaG s x k=true):
  ∃P:List Str,zbq fuel ⟨[],0⟩ s k x=some ⟨P,((encM s x k).length:Int)⟩/\zaw P=some (encM s x k):=by
 have wS:=(zmE hs (szM x)).1 x k (xE _) hb hw hr;obtain ⟨P,e,f,g⟩:=(zGX hs fuel).1 x k [] 0 (by omega) hb hw hr ⟨by omega,by omega,by simp;omega⟩;refine ⟨P,by rw [e,xL,Int.zero_add],?_⟩;rw [zmz (by omega) (by rw [f];omega),f]
theorem zIB {fuel:Nat} {s:List Mes} (root:Int) {x:Msg} (h:Ok16 fuel x) (hw:WS s):zla fuel s root x=some (zqQ s root [x]):=by
 have wZ:=zGS _ x (xE _);have hd:=zFz x;unfold zla zqQ zmg;rw [zxF root h.z hw h.b h.s (by have:=h.w;omega),sb,zCX hw];cases hr:zhI s with
 | false=>
  rfl
 | true=>
  rw [yj];cases hm:zaG s x root with
  | true=>
   obtain ⟨g1,g2,_⟩:=zbi hm
   grind
  | false=>
   grind
theorem zEe {fuel:Nat} {s:List Mes} (root:Int) {x:Msg} (h:Ok16 fuel x) (hw:WS s):zil fuel s root x=some (zAj s root x):=by
 unfold zil zAj;rw [zIB root h hw,sb];by_cases h0:zqQ s root [x]=0
 ·obtain ⟨g1,_,_,g4⟩:=zEB h0;obtain ⟨P,e,c⟩:=zzP g1 h.z h.b h.w (g4 x (by simp))
  grind [zdC,sb]
 grind
theorem zMU {fuel:Nat} {s:List Mes} (root:Int) {b:List UInt8} (hf:300<=fuel) (hw:WS s) (hb:b.length<=1048576) (hx:is11 s root b 64=true->2*szM (ofM s root b)<fuel/\wgM (ofM s root b)<=30000):zoH fuel s root b=some (zvp s root b):=by
 unfold zoH zvp;rw [zBl root 64 hf hw (by omega),sb];by_cases hi:is11 s root b 64=true
 ·obtain ⟨h1,h2⟩:=hx hi;obtain ⟨hz,hfi⟩:=zmI.1 hi;obtain ⟨g1,g2,g3,_,_⟩:=zkG hz;obtain ⟨k,rfl⟩:∃k:Nat,root=k:=⟨root.toNat,by omega⟩;obtain ⟨hbd,hsm⟩:=zJL g1 b.length b k rfl (by omega) (by omega);obtain ⟨hr,hd⟩:=zgr g1 b.length b _ k rfl (by omega) hfi
  grind [is11,zpC,zdC,zfL,zzP,sb]
 grind [is11,zpC]
end Go.Proofs.YtaglemhabeipfaaGreat
