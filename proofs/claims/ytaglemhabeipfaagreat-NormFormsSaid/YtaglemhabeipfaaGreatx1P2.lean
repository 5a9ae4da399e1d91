/-
  What the plain functions are. No condition.
-/
import Derived.Test.YtaglemhabeipfaaGreatx1S1
import Derived.Test.YtaglemhabeipfaaGreatx1P1
import Derived.Test.YtaglemhabeipfaaGreatx1K3
set_option autoImplicit true
set_option relaxedAutoImplicit true
namespace Go.Proofs.YtaglemhabeipfaaGreat
open Go.IntKind (i64 u32 u64)
open Go
set_option linter.unusedVariables false
mutual
def encM (s:List Mes):Msg->Int->List UInt8
 | ⟨vs,u⟩,k=>zcU s vs (zm s k)++u.flatten
def zcU (s:List Mes):List Vlu->Mes->List UInt8
 | [],_=>[]
 | v::l,m=>encV s v (zt m (fldI m v.Number))++zcU s l m
def encV (s:List Mes):Vlu->Fld->List UInt8
 | ⟨n,w,t,sub⟩,f=>if kNum f.Kind=true then (if f.Repeated=true then put5 f.Number 2 (w.flatMap (sPut f.Kind)) else put5 f.Number (zab f.Kind) (sPut f.Kind (w.headD 0))) else t.flatMap (put5 f.Number 2)++zgI s sub f
def zgI (s:List Mes):List Msg->Fld->List UInt8
 | [],_=>[]
 | x::l,f=>put5 f.Number 2 (encM s x f.Of)++zgI s l f
end
theorem zlA (s:List Mes) (x:Msg) (k:Int):encM s x k=zcU s x.Values (zm s k)++x.Unknown.flatten:=by cases x;rw [encM]
theorem ziF (s:List Mes) (v:Vlu) (f:Fld):encV s v f=if kNum f.Kind=true then (if f.Repeated=true then put5 f.Number 2 (v.Words.flatMap (sPut f.Kind)) else put5 f.Number (zab f.Kind) (sPut f.Kind (v.Words.headD 0))) else v.Texts.flatMap (put5 f.Number 2)++zgI s v.Subs f:=by cases v;rw [encV]
theorem zpl (s:List Mes) (m:Mes):∀(l k:List Vlu),zcU s (l++k) m=zcU s l m++zcU s k m
 | [],k=>by rw [xH,zcU,xH]
 | v::l,k=>by rw [yn,zcU,zcU,zpl s m l k,yj]
theorem ztW (s:List Mes) (f:Fld):∀(l k:List Msg),zgI s (l++k) f=zgI s l f++zgI s k f
 | [],k=>by rw [xH,zgI,xH]
 | v::l,k=>by rw [yn,zgI,zgI,ztW s f l k,yj]
theorem zDb {n w:Int} (h1:1<=n) (h2:n<=536870911) (hw:0<=w/\w<=7) {v:List UInt8} (hv:v.length<=1048576):(put5 n w v).length<=15+v.length:=by
 grind [tW,ziG,zNv,ziL,ziz]
theorem zEA (k:Int):0<=zab k/\zab k<=7:=by unfold zab;split;omega;split;omega;split<;>omega
theorem znt {k:Int} (hk:zbb k=true) {n:Int} (h1:1<=n) (h2:n<=536870911):zaU n (zab k)=true:=by
 grind [zab,zcZ]
theorem zud {k:Int}:∀{l:List Int},(∀w∈l,0<=w/\w<=18446744073709551615)->(l.flatMap (sPut k)).length<=10*l.length
 | [],_=>by simp
 | w::l,h=>by
  have h1:=zhS (k:=k) (h w xt);have h2:=zud (k:=k) fun x hx=>h x (xu _ hx)
  grind
theorem zyn {n:Int} (h1:1<=n) (h2:n<=536870911):∀{l:List Str},(∀t∈l,t.length<=1048576)->(l.flatMap (put5 n 2)).length<=15*(l.map fun t=>1+t.length).sum
 | [],_=>by simp
 | t::l,h=>by
  have h3:=zDb h1 h2 (w:=2) (by omega) (h t xt);have h4:=zyn h1 h2 fun x hx=>h x (xu _ hx)
  grind
theorem zwo:∀(l:List Str),l.flatten.length<=(l.map fun t=>1+t.length).sum
 | []=>by simp
 | t::l=>by
  have:=zwo l
  grind
theorem zyt {l:List Int} (h:∀x∈l,0<=x/\x<=18446744073709551615):0<=l.headD 0/\l.headD 0<=18446744073709551615:=by
 cases l with
 | nil=>simp
 | cons x l=>exact h x xt
theorem zot {s:List Mes} (hs:zca s):∀(N:Nat),(∀(x:Msg) (k:Int),szM x<=N->bdM x->wgM x<=30000->zay s x k=true->(encM s x k).length+16<=32*wgM x)/\
  ∀(v:Vlu) (f:Fld),szV v<=N->bdV v->wgV v<=30000->1<=f.Number->f.Number<=536870911->zjY s v f=true->(encV s v f).length<=32*wgV v
 | 0=>⟨fun x k h=>by rw [zcR] at h;omega,fun v f h=>by rw [zgr] at h;omega⟩
 | N+1=>by
  obtain ⟨ih1,ih2⟩:=zot hs N;refine ⟨fun x k kG hb hw hr=>?_,fun v f kG hb hw n1 n2 hf=>?_⟩
  ·obtain ⟨_,_,b4⟩:=(zlk x).1 hb;rw [zcR] at kG;rw [zlt] at hw|-;obtain ⟨k0,k1,_,hv,_⟩:=zaY hr;rw [zlA];have hmm:zm s k∈s:=by
    obtain ⟨n,rfl⟩:∃n:Nat,k=n:=⟨k.toNat,by omega⟩;rw [zbq (by omega)];exact xB _
   generalize zm s k=m at hv hmm|-
   have hall:∀l:List Vlu,(∀v∈l,v∈x.Values)->(zcU s l m).length<=32*wgVs l:=by
    intro l
    induction l with
    | nil=>intro _;simp [zcU,wgVs]
    | cons v l ih=>
     intro hl;have hvm:=hl v xt;have i1:=ih fun w hw=>hl w (xu _ hw)
     have s1:=zfb hvm;have w1:=zrP hvm;obtain ⟨f0,hfit⟩:=hv v hvm;rcases zcX m v.Number with ⟨hf,_⟩| ⟨j,hj,hf,_⟩
     ·omega
     have hfm:zt m (fldI m v.Number)∈m.Fields:=by rw [hf,zbe hj];exact xB hj
     have hfo:=hs.fld _ hmm _ hfm;have:=ih2 v (zt m (fldI m v.Number)) (by omega) (zfo.1 b4 v hvm) (by omega) hfo.lo hfo.hi hfit;rw [zcU,wgVs,xz];omega
   grind [zwo]
  ·obtain ⟨_,⟨_,bw⟩,_,_,b5⟩:=(ziK v).1 hb;rw [zgr] at kG;rw [zjS] at hw|-;have hfs:=zdI hf;rw [ziF];by_cases hn:kNum f.Kind=true
   ·grind [zud,zDb,zhS,zyt,zEA]
   ·rw [xq hn,xz];have hts:∀t∈v.Texts,t.length<=1048576:=fun t ht=>by have:=zst ht;omega
    have h1:=zyn n1 n2 hts;have hall:∀l:List Msg,(∀x∈l,x∈v.Subs)->(zgI s l f).length<=32*wgMs l:=by
     intro l
     induction l with
     | nil=>intro _;simp [zgI,wgMs]
     | cons x l ih=>
      intro hl;have hxm:=hl x xt;have i1:=ih fun w hw=>hl w (xu _ hw)
      have s1:=zfa hxm;have w1:=zli hxm;have h3:=ih1 x f.Of (by omega) (zfn.1 b5 x hxm) (by omega) (hfs.subs x hxm).2;have h4:=zDb n1 n2 (w:=2) (by omega) (v:=encM s x f.Of) (by omega);rw [zgI,wgMs,xz];omega
    grind
theorem zqv {α:Type} (l:List α) (g:α->List UInt8) (F:List UInt8->Int->Option (List UInt8)) (h0:∀out,F out (l.length:Int)=some out)
  (hs:∀(i:Nat) (h:i<l.length) (out:List UInt8),out.length+(g l[i]).length<=140737488355328->F out (i:Int)=F (out++g l[i]) ((i+1:Nat):Int)):∀(c i:Nat) (out:List UInt8),i+c=l.length->out.length+((l.drop i).flatMap g).length<=140737488355328->
  F out (i:Int)=some (out++(l.drop i).flatMap g)
 | 0,i,out,h,_=>by
  grind
 | c+1,i,out,h,hb=>by
  have hil:i<l.length:=by omega
  have hd:l.drop i=l[i]::l.drop (i+1):=yf hil;rw [hd,xE] at hb|-;rw [xz] at hb;rw [hs i hil out (by omega),zqv l g F h0 hs c (i+1) _ (by omega) (by rw [xz];omega),yj]
theorem zmm (s:List Mes) (m:Mes):∀(l:List Vlu),zcU s l m=l.flatMap fun v=>encV s v (zt m (fldI m v.Number))
 | []=>by rw [zcU];rfl
 | v::l=>by rw [zcU,zmm s m l,xE]
theorem zkk (s:List Mes) (f:Fld):∀(l:List Msg),zgI s l f=l.flatMap fun x=>put5 f.Number 2 (encM s x f.Of)
 | []=>by rw [zgI];rfl
 | v::l=>by rw [zgI,zkk s f l,xE]
theorem zEa {s:List Mes} (hs:zca s):∀(fuel:Nat),(∀(x:Msg) (k:Int),szM x+12<=fuel->bdM x->wgM x<=30000->zay s x k=true->zbH fuel s k x=some (encM s x k))/\
  ∀(v:Vlu) (f:Fld),szV v+12<=fuel->bdV v->wgV v<=30000->1<=f.Number->f.Number<=536870911->zjY s v f=true->zei fuel s f v=some (encV s v f)
 | 0=>⟨fun x k h=>by omega,fun v f h=>by omega⟩
 | fuel+1=>by
  obtain ⟨ih1,ih2⟩:=zEa hs fuel;refine ⟨fun x k kG hb hw hr=>?_,fun v f kG hb hw n1 n2 hf=>?_⟩
  ·have ku:=(zot hs (szM x)).1 x k (xx _) hb hw hr;obtain ⟨b1,⟨b2,_⟩,b4⟩:=(zlk x).1 hb;rw [zcR] at kG;rw [zlt] at hw ku;obtain ⟨k0,k1,_,hv,_⟩:=zaY hr;rw [zlA] at ku|-;obtain ⟨n,rfl⟩:∃n:Nat,k=n:=⟨k.toNat,by omega⟩;have hn:n<s.length:=by omega
   have hm:idx s (n:Int)=some (zm s n):=by rw [zP rfl hn,zbq hn]
   have hmm:zm s (n:Int)∈s:=by rw [zbq hn];exact xB hn
   have hfew:=hs.few _ hmm
   generalize zm s (n:Int)=m at hv hm hmm hfew ku|-
   rw [xz] at ku;show zea (zbH fuel) (zei fuel) s n x=_;unfold zea;have h1:=zqv x.Values (fun v=>encV s v (zt m (fldI m v.Number))) (fun out i=>zcs (zei fuel) n s x out i) (fun out=>by
     refine zmh ?_;unfold zbC;rw [uU])
    (fun i hi out ho=>by
     refine zmg ?_;unfold zbC;have hvm:=xB hi;have hxi:idx x.Values (i:Int)=some x.Values[i]:=zP rfl hi;have s1:=zfb hvm;have w1:=zrP hvm
     generalize x.Values[i]=v at hvm hxi ho s1 w1|-
     obtain ⟨f0,hfit⟩:=hv v hvm;rcases zcX m v.Number with ⟨hf,_⟩| ⟨j,hj,hf,_⟩
     ·omega
     have hfj:idx m.Fields (fldI m v.Number)=some (zt m (fldI m v.Number)):=by rw [hf,zP rfl hj,zbe hj]
     have hfm:zt m (fldI m v.Number)∈m.Fields:=by rw [hf,zbe hj];exact xB hj
     have hfo:=hs.fld _ hmm _ hfm;have kX:=ih2 v (zt m (fldI m v.Number)) (by omega) (zfo.1 b4 v hvm) (by omega) hfo.lo hfo.hi hfit;rw [uV,hm,sb,sb,hxi,sb,zwz (by omega),sb,hfj,sb,sb,kX,sb,zaQ (by omega),sb,uX];push_cast;rfl) x.Values.length 0 [] (xK _) (by rw [yc,<-zmm];simp only [yv];omega)
   have h1':zcs (zei fuel) n s x [] 0=_:=h1;rw [yc,<-zmm,xH] at h1';have h2:=zqv x.Unknown (fun t=>t) (fun out i=>zdy x out i) (fun out=>by
     refine zmj ?_;unfold zbD;rw [uU])
    (fun i hi out ho=>by
     refine zmi ?_;unfold zbD;rw [uV,zP rfl hi,sb,zaQ (by omega),sb,uX];push_cast;rfl) x.Unknown.length 0 (zcU s x.Values m) (xK _) (by rw [yc,List.flatMap_id'];omega)
   simp_all
  ·have ku:=(zot hs (szV v)).2 v f (xx _) hb hw n1 n2 hf;obtain ⟨_,⟨bl,bw⟩,_,_,b5⟩:=(ziK v).1 hb;rw [zgr] at kG;rw [zjS] at hw ku;have hfs:=zdI hf;rw [ziF] at ku|-;have hfu:10<=fuel:=by omega
   show zey fuel (zbH fuel) (zei fuel) s f v=_;unfold zey;rw [zkv,sb,sb];have t2:zaU f.Number 2=true:=zcZ.2 ⟨n1,n2,.inr (.inr (.inl rfl))⟩;by_cases hn:kNum f.Kind=true
   ·rw [xr hn] at ku;have hgoal:(if kNum f.Kind=true then (if f.Repeated=true then put5 f.Number 2 (v.Words.flatMap (sPut f.Kind)) else put5 f.Number (zab f.Kind) (sPut f.Kind (v.Words.headD 0))) else v.Texts.flatMap (put5 f.Number 2)++zgI s v.Subs f)=(if f.Repeated=true then put5 f.Number 2 (v.Words.flatMap (sPut f.Kind)) else put5 f.Number (zab f.Kind) (sPut f.Kind (v.Words.headD 0))):=xr hn;rw [hgoal];by_cases hrep:f.Repeated=true
    ·grind [zud,zHh,sb,zny]
    ·rw [itF (by rw [hn];simpa using hrep),itT hn,xq hrep,zrv,sb];have hone:=hfs.one (by simpa using hrep);have hnt:=hfs.noTexts (by have:=zhd hn;omega);have hns:=hfs.noSubs (zhd hn).1;unfold zas at hone;rw [hnt,hns] at hone;simp only [yv,yz] at hone;obtain ⟨w,hwd⟩:∃w,v.Words=[w]:=pA.1 hone;rw [hwd] at bw|-;have hr:=bw w xt;have h1:=zhS (k:=f.Kind) hr;have i1:idx [w] 0=some w:=rfl;rw [i1,sb,zzr hfu hr,sb,zny hfu (znt hfs.kind n1 n2) (by omega),sb];rfl
   ·rw [xq hn] at ku;have hgoal:(if kNum f.Kind=true then (if f.Repeated=true then put5 f.Number 2 (v.Words.flatMap (sPut f.Kind)) else put5 f.Number (zab f.Kind) (sPut f.Kind (v.Words.headD 0))) else v.Texts.flatMap (put5 f.Number 2)++zgI s v.Subs f)=v.Texts.flatMap (put5 f.Number 2)++zgI s v.Subs f:=xq hn;rw [hgoal];rw [itF (by simp [hn]),itF (by simpa using hn)];rw [xz] at ku;have hts:∀t∈v.Texts,t.length<=1048576:=fun t ht=>by have:=zst ht;omega
    have h1:=zqv v.Texts (put5 f.Number 2) (fun out i=>zcK fuel f v out i) (fun out=>by
      refine znc ?_;unfold zbR;rw [uU])
     (fun i hi out ho=>by
      refine znb ?_;unfold zbR;have ht:=hts _ (xB hi);have e:lenO v.Texts[i]=some v.Texts[i]:=by unfold lenO;rw [xr (by omega)]
      have hl:=zxx (l:=v.Texts);rw [uV,zP rfl hi,sb,e,sb,zny hfu t2 ht,sb,zaQ (by omega),sb,uX];push_cast;rfl) v.Texts.length 0 [] (xK _) (by rw [yc];simp only [yv];omega)
    have h1':zcK fuel f v [] 0=_:=h1;rw [yc,xH] at h1';have h2:=zqv v.Subs (fun x=>put5 f.Number 2 (encM s x f.Of)) (fun out i=>zeb fuel f (zbH fuel) s v out i) (fun out=>by
      refine zne ?_;unfold zbS;rw [uU])
     (fun i hi out ho=>by
      refine znd ?_;unfold zbS;have hxm:=xB hi;have s1:=zfa hxm;have w1:=zli hxm;have hl:=zzY v.Subs;have hx:=hfs.subs _ hxm;have he:=ih1 v.Subs[i] f.Of (by omega) (zfn.1 b5 _ hxm) (by omega) hx.2;have hle:=(zot hs (szM v.Subs[i])).1 v.Subs[i] f.Of (xx _) (zfn.1 b5 _ hxm) (by omega) hx.2;rw [uV,zP rfl hi,sb,he,sb,zny hfu t2 (by omega),sb,zaQ (by omega),sb,uX];push_cast;rfl) v.Subs.length 0 (v.Texts.flatMap (put5 f.Number 2)) (xK _) (by rw [yc,<-zkk];omega)
    grind [zkk,sb]
theorem zzn {s:List Mes} (hs:zca s) {fuel:Nat} {x:Msg} {k:Int} (hf:szM x+12<=fuel) (hb:bdM x) (hw:wgM x<=30000) (hr:zay s x k=true):zbH fuel s k x=some (encM s x k):=(zEa hs fuel).1 x k hf hb hw hr
structure zwe (s:List Mes) (d:Nat) (k:Int) (p:List UInt8) (t:Th):Prop where
 ok:zH s d k p=none
 th:ths (zm s k) p=[t]
theorem pieces {s:List Mes} {d:Nat} {k:Int}:∀{ps:List (List UInt8×Th)},(∀p∈ps,zwe s d k p.1 p.2)->zH s d k (ps.flatMap (·.1))=none/\ths (zm s k) (ps.flatMap (·.1))=ps.map (·.2)
 | [],_=>by
  grind [znp,zoc,zdr]
 | p::ps,h=>by
  obtain ⟨h1,h2⟩:=pieces fun q hq=>h q (xu _ hq)
  have hp:=h p xt;rw [xE];refine ⟨(zid s d k _ hp.ok).2 h1,?_⟩;rw [zzM hp.ok h1,hp.th,h2];rfl
theorem zsi {s:List Mes} {d:Nat} {k:Int} {n w:Int} {v:List UInt8} (hr:zaU n w=true) (hf:zbt w v=true) (hv:v.length<=1048576) {i:Int} {run:Bool} (hvw:vw (zm s k) n w= .inr (i,run)) (hi:0<=i)
  (hl:∀r:Rec,r.At=((put5 n w v).length - v.length:Nat)->r.From=0->zir (zt (zm s k) i) run (zFC s d) r v=none):zwe s d k (put5 n w v) ⟨i,run,v,put5 n w v⟩:=by
 have hsp:=zOe hr hf hv;have ku:v.length<=(put5 n w v).length:=by rw [ziz];omega
 have kX:valB (put5 n w v) ⟨n,w,0,(((put5 n w v).length - v.length:Nat):Int),((put5 n w v).length:Int)⟩=v:=by
  unfold valB;simp only [xD];rw [show (put5 n w v).length - ((put5 n w v).length - v.length)=v.length by omega];have e:(put5 n w v).drop ((put5 n w v).length - v.length)=v:=by
   have:put5 n w v=(enc (tW n w)++(if w=2 then enc v.length else []))++v:=rfl;have e2:(put5 n w v).length - v.length=(enc (tW n w)++(if w=2 then enc v.length else [])).length:=by rw [this,xz];omega
   grind
  grind
 have hraw:rawB (put5 n w v) ⟨n,w,0,(((put5 n w v).length - v.length:Nat):Int),((put5 n w v).length:Int)⟩=put5 n w v:=by
  unfold rawB;simp
 have kz:zH s d k (put5 n w v)=none:=by
  grind [zcQ,zej,zbX]
 refine ⟨kz,?_⟩;rw [zoc kz,hsp,pf];unfold thR;have e:vwG (zm s k) ⟨n,w,0,(((put5 n w v).length - v.length:Nat):Int),((put5 n w v).length:Int)⟩=(i,run):=by unfold vwG;simp only [hvw]
 rw [e,kX,hraw]
theorem zJO {s:List Mes} {d:Nat} {k:Int} {u:List UInt8} (h:unkR (zm s k) u=true):∃t,zwe s d k u t/\t.fi<0/\t.raw=u:=by
 unfold unkR at h;simp only [xw,qP,xT] at h;obtain ⟨⟨h1,h2⟩,h3⟩:=h;unfold zbm at h1 h2 h3;by_cases hu:(0:Int)<0\/(0:Int)>=u.length
 ·grind
 ·rw [xq hu] at h1 h2 h3;simp only [Int.toNat_zero,yc] at h1 h2 h3;rcases zhf u with ⟨c,hc,hcc⟩| ⟨n,w,kk,a,t,hc,_,hr,_,g1,g2,g3,g4,g5,_⟩
  ·grind
  ·rw [hc] at h2 h3;simp only at h2 h3;have ht:t=u.length:=by omega
   have kO:u≠[]:=fun e=>by subst e;simp at hu
   have hsp:spl 0 u=([⟨n,w,((0:Nat):Int),((0+a:Nat):Int),((0+t:Nat):Int)⟩],none):=by
    rw [zbW kO hc,ht,pD,zdr]
   have hvw:vw (zm s k) n w= .inr (-1,false):=by
    unfold vw;rw [xr h3]
   have kz:zH s d k u=none:=by
    grind [zcQ,zej,zbX]
   refine ⟨thR (zm s k) u ⟨n,w,((0:Nat):Int),((0+a:Nat):Int),((0+t:Nat):Int)⟩,⟨kz,by rw [zoc kz,hsp,pf]⟩,?_,?_⟩
   ·unfold thR vwG;simp only [hvw];omega
   ·unfold thR rawB;simp only [ht];simp
def pcsV (s:List Mes) (f:Fld) (i:Int) (v:Vlu):List (List UInt8×Th):=
 if kNum f.Kind=true then (if f.Repeated=true then [(put5 f.Number 2 (v.Words.flatMap (sPut f.Kind)),⟨i,true,v.Words.flatMap (sPut f.Kind),put5 f.Number 2 (v.Words.flatMap (sPut f.Kind))⟩)]
  else [(put5 f.Number (zab f.Kind) (sPut f.Kind (v.Words.headD 0)),⟨i,false,sPut f.Kind (v.Words.headD 0),put5 f.Number (zab f.Kind) (sPut f.Kind (v.Words.headD 0))⟩)])
 else v.Texts.map (fun t=>(put5 f.Number 2 t,⟨i,false,t,put5 f.Number 2 t⟩))++v.Subs.map (fun x=>(put5 f.Number 2 (encM s x f.Of),⟨i,false,encM s x f.Of,put5 f.Number 2 (encM s x f.Of)⟩))
theorem zLN (s:List Mes) (f:Fld) (i:Int) (v:Vlu):(pcsV s f i v).flatMap (·.1)=encV s v f:=by
 unfold pcsV;rw [ziF];split
 ·split<;>simp
 ·rw [ym,zkk,qm,qm]
theorem zCZ (s:List Mes) (f:Fld) (i:Int) (v:Vlu):∀p∈pcsV s f i v,p.2.fi=i:=by
 grind [pcsV]
theorem zvR {f:Fld} {w:Int} (h:zjT f w=true) (hr:0<=w/\w<=18446744073709551615):kNum f.Kind=true/\zep f.Kind (sPut f.Kind w)=w/\(zmE f.Kind (sPut f.Kind w)).1=w/\zbt (zab f.Kind) (sPut f.Kind w)=true:=by
 unfold zjT at h;simp only [xw,qP] at h;obtain ⟨h1,h2⟩:=h;have hc:=zhk f.Kind hr;have hfit:zbt (zab f.Kind) (sPut f.Kind w)=true:=zwG h1 (by omega)
 grind [zHn,zjh]
theorem zHD {f:Fld} (hk:kNum f.Kind=true) {l:List Int} (h:∀w∈l,zjT f w=true) (hr:∀w∈l,0<=w/\w<=18446744073709551615):zag f.Kind (l.flatMap (sPut f.Kind))=(l,0):=by
 unfold zag;rw [xq (by rw [hk];simp),zrp hk l hr,xr rfl,yC];have e:l.map (zep f.Kind∘sPut f.Kind)=l:=by
  have:l.map (zep f.Kind∘sPut f.Kind)=l.map id:=qk fun w hw=>(zvR (h w hw) (hr w hw)).2.1
  simp_all
 rw [e]
theorem zyj (v:List UInt8):zbt 2 v=true:=by unfold zbt;rw [xq (by omega)];simp
theorem zNU {s:List Mes} {d:Nat} {k:Int} {f:Fld} {i:Int} {v:Vlu} (hi:0<=i) (hf:zt (zm s k) i=f) (hn:fldI (zm s k) f.Number=i) (n1:1<=f.Number) (n2:f.Number<=536870911) (hfs:zhK s v f)
  (hw:∀w∈v.Words,0<=w/\w<=18446744073709551615) (hwl:v.Words.length<=30000) (ht:∀t∈v.Texts,t.length<=1048576)
  (hx:∀x∈v.Subs,(encM s x f.Of).length<=1048576/\∃e,d=e+1/\zH s e f.Of (encM s x f.Of)=none):∀p∈pcsV s f i v,zwe s d k p.1 p.2:=by
 intro p hp;have t2:zaU f.Number 2=true:=zcZ.2 ⟨n1,n2,.inr (.inr (.inl rfl))⟩;unfold pcsV at hp;by_cases hk:kNum f.Kind=true
 ·rw [xr hk] at hp;by_cases hr:f.Repeated=true
  ·rw [xr hr] at hp;rw [xY.1 hp];have hvw:vw (zm s k) f.Number 2= .inr (i,true):=by
    unfold vw
    grind
   have h1:=zud (k:=f.Kind) hw;refine zsi t2 (zyj _) (by omega) hvw hi fun r _ _=>?_
   unfold zir
   grind [zmn,zrp]
  ·rw [xq hr] at hp;rw [xY.1 hp];have hone:=hfs.one (by simpa using hr);have hnt:=hfs.noTexts (by have:=zhd hk;omega);have hns:=hfs.noSubs (zhd hk).1;unfold zas at hone;rw [hnt,hns] at hone;simp only [yv,yz] at hone;obtain ⟨w,hwd⟩:∃w,v.Words=[w]:=pA.1 hone;have hwr:=hw w (by rw [hwd];exact xt);have hc:=zvR (hfs.words w (by rw [hwd];exact xt)) hwr;rw [hwd];show zwe s d k (put5 f.Number (zab f.Kind) (sPut f.Kind w)) ⟨i,false,sPut f.Kind w,put5 f.Number (zab f.Kind) (sPut f.Kind w)⟩;have hvw:vw (zm s k) f.Number (zab f.Kind)= .inr (i,false):=by
    unfold vw;rw [hn,xq (by omega),hf,xq (fun hh=>hr hh.1),xq (fun hh=>by rw [hfs.kind] at hh;rcases hh with hh| hh;cases hh;exact hh rfl)]
   have h1:=zhS (k:=f.Kind) hwr;refine zsi (znt hfs.kind n1 n2) hc.2.2.2 (by omega) hvw hi fun r _ _=>?_
   unfold zir
   grind [zhd]
 ·rw [xq hk] at hp;have hkk:zab f.Kind=2:=by
   have h1:¬(1<=f.Kind/\f.Kind<=14):=fun hh=>hk (zfB.2 hh)
   have h2:1<=f.Kind/\f.Kind<=17:=by simpa [zbb] using hfs.kind
   unfold zab;rw [xr (by omega)]
  have hvw:vw (zm s k) f.Number 2= .inr (i,false):=by
   unfold vw;rw [hn,xq (by omega),hf,xq (fun hh=>hk hh.2.1),xq (fun hh=>by rw [hfs.kind,hkk] at hh;rcases hh with hh| hh;cases hh;exact hh rfl)]
  rcases xF.1 hp with hp| hp
  ·obtain ⟨t,htm,rfl⟩:=xA.1 hp;refine zsi t2 (zyj _) (ht t htm) hvw hi fun r _ _=>?_
   have htr:=hfs.texts t htm;unfold zly at htr;unfold zir
   grind
  ·obtain ⟨x,hxm,rfl⟩:=xA.1 hp;obtain ⟨x1,e,he,hv⟩:=hx x hxm;have kq:=(hfs.subs x hxm).1;refine zsi t2 (zyj _) x1 hvw hi fun r _ _=>?_
   unfold zir;rw [xq (by simp),hf,xq (fun hh=>by rw [kq] at hh;cases hh.1),xr kq,he];simp only [zFC,hv]
theorem zrT {g:Int->List UInt8->Msg} {f:Fld} {i:Int}:∀{l:List Th} {a:zcu},(∀t∈l,t.fi≠i)->accF g f i a l=a
 | [],a,_=>rfl
 | t::l,a,h=>by
  rw [accF,xq (h t xt),zrT fun x hx=>h x (xu _ hx)]
theorem zxJ {g:Int->List UInt8->Msg} {f:Fld} {i:Int} (hr:f.Repeated=true) (hk:kNum f.Kind=false) (kq:f.Kind≠17) {raw:Str->List UInt8}:∀(ts:List Str) (a:zcu),∃b,accF g f i a (ts.map fun t=>⟨i,false,t,raw t⟩)=(a.1,b,a.2.2.1,a.2.2.2.1++ts,a.2.2.2.2)
 | [],a=>⟨a.2.1,by simp [accF]⟩
 | t::ts,a=>by
  obtain ⟨b,hb⟩:=zxJ (raw:=raw) hr hk kq ts (stp g f a ⟨i,false,t,raw t⟩);refine ⟨b,?_⟩;rw [xJ,accF,xr rfl,hb];unfold stp
  grind
theorem zAK {g:Int->List UInt8->Msg} {f:Fld} {i:Int} (hr:f.Repeated=true) (kq:f.Kind=17) {e:Msg->List UInt8} {raw:Msg->List UInt8}:∀(xs:List Msg) (a:zcu),(∀x∈xs,g f.Of (e x)=x)->∃b,accF g f i a (xs.map fun x=>⟨i,false,e x,raw x⟩)=(a.1,b,a.2.2.1,a.2.2.2.1,a.2.2.2.2++xs)
 | [],a,_=>⟨a.2.1,by simp [accF]⟩
 | x::xs,a,h=>by
  obtain ⟨b,hb⟩:=zAK (raw:=raw) hr kq xs (stp g f a ⟨i,false,e x,raw x⟩) fun y hy=>h y (xu _ hy)
  refine ⟨b,?_⟩;have hk:kNum 17=false:=rfl;rw [xJ,accF,xr rfl,hb];unfold stp
  grind
theorem zKt {s:List Mes} {g:Int->List UInt8->Msg} {f:Fld} {i:Int} {v:Vlu} (hfs:zhK s v f) (hn:v.Number=f.Number) (hw:∀w∈v.Words,0<=w/\w<=18446744073709551615) (hg:∀x∈v.Subs,g f.Of (encM s x f.Of)=x):
  valO g f (accF g f i acc0 ((pcsV s f i v).map (·.2)))=v:=by
 unfold pcsV;by_cases hk:kNum f.Kind=true
 ·rw [xr hk];have hnt:=hfs.noTexts (by have:=zhd hk;omega);have hns:=hfs.noSubs (zhd hk).1;have kq:=(zhd hk).1;by_cases hr:f.Repeated=true
  ·rw [xr hr,pf,accF,accF,xr rfl];unfold stp;simp only [yu,hr];rw [zHD hk hfs.words hw];unfold valO acc0;simp only [xH];rw [xq (fun hh=>kq hh.2.1),<-hn];obtain ⟨n,w,t,sub⟩:=v
   grind
  ·rw [xq hr,pf,accF,accF,xr rfl];have hone:=hfs.one (by simpa using hr);unfold zas at hone;rw [hnt,hns] at hone;simp only [yv,yz] at hone;obtain ⟨w,hwd⟩:∃w,v.Words=[w]:=pA.1 hone;have hc:=zvR (hfs.words w (by rw [hwd];exact xt)) (hw w (by rw [hwd];exact xt));unfold stp;rw [xq (by simp),xr hk,xq hr,xq hr,hwd];unfold valO acc0;simp only [xH,pq];rw [xq (fun hh=>kq hh.2.1),hc.2.2.1,<-hn];obtain ⟨n,w',t,sub⟩:=v
   grind
 ·have hk':kNum f.Kind=false:=by simpa using hk
  rw [xq hk];have hnw:=hfs.noWords hk';by_cases kq:f.Kind=17
  ·have hnt:=hfs.noTexts (by omega);rw [hnt,yL,xH,yC];by_cases hr:f.Repeated=true
   ·obtain ⟨b,hb⟩:=zAK (g:=g) (i:=i) (e:=fun x=>encM s x f.Of) (raw:=fun x=>put5 f.Number 2 (encM s x f.Of)) hr kq v.Subs acc0 hg;have hb':accF g f i acc0 (List.map ((fun x:List UInt8×Th=>x.2)∘fun x=>(put5 f.Number 2 (encM s x f.Of),(⟨i,false,encM s x f.Of,put5 f.Number 2 (encM s x f.Of)⟩:Th))) v.Subs)=_:=hb;rw [hb'];unfold valO acc0;simp only [xH];rw [xq (fun hh=>by rw [hr] at hh;cases hh.2.2),<-hn];obtain ⟨n,w,t,sub⟩:=v
    grind
   ·have hr':f.Repeated=false:=by simpa using hr
    obtain ⟨x,hv,hx⟩:=hfs.msg kq hr';have hsub:v.Subs=[x]:=by rw [hv]
    have hgx:=hg x (by rw [hsub];exact xt);have e17:kNum 17=false:=rfl;rw [hsub,pf];show valO g f (accF g f i acc0 [⟨i,false,encM s x f.Of,put5 f.Number 2 (encM s x f.Of)⟩])=v;rw [accF,accF,xr rfl];unfold stp valO acc0
    grind
  ·have hns:=hfs.noSubs kq;rw [hns,yL,xQ,yC];by_cases hr:f.Repeated=true
   ·obtain ⟨b,hb⟩:=zxJ (g:=g) (i:=i) (raw:=fun t=>put5 f.Number 2 t) hr hk' kq v.Texts acc0;have hb':accF g f i acc0 (List.map ((fun x:List UInt8×Th=>x.2)∘fun t=>(put5 f.Number 2 t,(⟨i,false,t,put5 f.Number 2 t⟩:Th))) v.Texts)=_:=hb;rw [hb'];unfold valO acc0;simp only [xH];rw [xq (fun hh=>kq hh.2.1),<-hn];obtain ⟨n,w,t,sub⟩:=v
    grind
   ·have hr':f.Repeated=false:=by simpa using hr
    have hone:=hfs.one hr';unfold zas at hone;rw [hnw,hns] at hone;simp only [yv,yz,xK] at hone;obtain ⟨t,htd⟩:∃t,v.Texts=[t]:=pA.1 hone;rw [htd,pf];show valO g f (accF g f i acc0 [⟨i,false,t,put5 f.Number 2 t⟩])=v;rw [accF,accF,xr rfl];unfold stp valO acc0;simp [kq,hk',hr'];obtain ⟨n,w,t',sub⟩:=v
    grind
theorem zzN {s:List Mes} {d:Nat} {k:Int}:∀{us:List Str},(∀u∈us,unkR (zm s k) u=true)->∃ps:List (List UInt8×Th),(∀p∈ps,zwe s d k p.1 p.2/\p.2.fi<0/\p.2.raw=p.1)/\ps.map (·.1)=us
 | [],_=>⟨[],(fun p hp=>nomatch hp),rfl⟩
 | u::us,h=>by
  obtain ⟨t,h1,h2,h3⟩:=zJO (d:=d) (h u xt);obtain ⟨ps,h4,h5⟩:=zzN (d:=d) fun x hx=>h x (xu _ hx)
  refine ⟨(u,t)::ps,fun p hp=>?_,by rw [xJ,h5]⟩
  grind
theorem zEh {m:Mes} {a b:Int} (ha:0<=fldI m a) (h:fldI m a=fldI m b):a=b:=by
 grind [zcX]
theorem zAM {s:List Mes} {g:Int->List UInt8->Msg} {m:Mes} {n:Int} (hj:0<=fldI m n):∀{l:List Vlu},zel l->(∀v∈l,0<=fldI m v.Number)->
  accF g (zt m (fldI m n)) (fldI m n) acc0 ((l.flatMap fun v=>pcsV s (zt m (fldI m v.Number)) (fldI m v.Number) v).map (·.2))=match look l n with
   | some v=>accF g (zt m (fldI m n)) (fldI m n) acc0 ((pcsV s (zt m (fldI m n)) (fldI m n) v).map (·.2))
   | none=>acc0
 | [],_,_=>rfl
 | v::l,hr,hp=>by
  obtain ⟨r1,r2⟩:=yd.1 hr;rw [xE,qi,znk,zdk];by_cases hv:v.Number=n
  ·rw [xr hv,hv];refine zrT fun t ht=>?_
   obtain ⟨p,hp',rfl⟩:=xA.1 ht
   grind [zCZ,zEh]
  ·rw [xq hv];have:accF g (zt m (fldI m n)) (fldI m n) acc0 ((pcsV s (zt m (fldI m v.Number)) (fldI m v.Number) v).map (·.2))=acc0:=by
    refine zrT fun t ht=>?_
    obtain ⟨p,hp',rfl⟩:=xA.1 ht
    grind [zCZ,zEh]
   rw [this];exact zAM hj r2 fun u hu=>hp u (xu _ hu)
theorem zwj {s:List Mes} (hs:zca s):∀(N:Nat) (x:Msg) (k:Int) (d:Nat),szM x<=N->bdM x->wgM x<=30000->zay s x k=true->dM x<=d->zH s d k (encM s x k)=none/\ofM s k (encM s x k)=x
 | 0,x,k,d,h,_,_,_,_=>by rw [zcR] at h;omega
 | N+1,x,k,d,kG,hb,hw,hr,hd=>by
  obtain ⟨b1,⟨b2,_⟩,b4⟩:=(zlk x).1 hb;have hsz':=kG;rw [zcR] at hsz';have hw':=hw;rw [zlt] at hw';rw [zHN] at hd;obtain ⟨k0,k1,hrise,hv,hu⟩:=zaY hr;obtain ⟨n0,rfl⟩:∃n:Nat,k=n:=⟨k.toNat,by omega⟩;have hn0:n0<s.length:=by omega
  have hmm:zm s (n0:Int)∈s:=by rw [zbq hn0];exact xB hn0
  obtain ⟨ups,hup,hue⟩:=zzN (d:=d) hu
  -- what is kP of each value
  have kX:∀v∈x.Values,(∀p∈pcsV s (zt (zm s (n0:Int)) (fldI (zm s (n0:Int)) v.Number)) (fldI (zm s (n0:Int)) v.Number) v,zwe s d n0 p.1 p.2)/\
    (∀y∈v.Subs,ofM s (zt (zm s (n0:Int)) (fldI (zm s (n0:Int)) v.Number)).Of (encM s y (zt (zm s (n0:Int)) (fldI (zm s (n0:Int)) v.Number)).Of)=y):=fun v hvm=>by
   obtain ⟨f0,hfit⟩:=hv v hvm;have hfs:=zdI hfit;have hbv:=zfo.1 b4 v hvm;obtain ⟨_,⟨_,bw⟩,_,_,b5⟩:=(ziK v).1 hbv;have s1:=zfb hvm;have w1:=zrP hvm;have d1:=zxc hvm;rw [zgr] at s1;rw [zjS] at w1;rw [zDY] at d1;rcases zcX (zm s (n0:Int)) v.Number with ⟨hf,_⟩| ⟨j,hj,hf,hjn,_⟩
   ·omega
   have hfm:zt (zm s (n0:Int)) (fldI (zm s (n0:Int)) v.Number)∈(zm s (n0:Int)).Fields:=by rw [hf,zbe hj];exact xB hj
   have hfo:=hs.fld _ hmm _ hfm;have hnum:(zt (zm s (n0:Int)) (fldI (zm s (n0:Int)) v.Number)).Number=v.Number:=by rw [hf,zbe hj];exact hjn
   have hsub:∀y∈v.Subs,(encM s y (zt (zm s (n0:Int)) (fldI (zm s (n0:Int)) v.Number)).Of).length<=1048576/\(∃e,d=e+1/\zH s e (zt (zm s (n0:Int)) (fldI (zm s (n0:Int)) v.Number)).Of (encM s y (zt (zm s (n0:Int)) (fldI (zm s (n0:Int)) v.Number)).Of)=none)/\
     ofM s (zt (zm s (n0:Int)) (fldI (zm s (n0:Int)) v.Number)).Of (encM s y (zt (zm s (n0:Int)) (fldI (zm s (n0:Int)) v.Number)).Of)=y:=fun y hy=>by
    have s2:=zfa hy;have w2:=zli hy;have d2:=zCv hy;have hyr:=(hfs.subs y hy).2;have hby:=zfn.1 b5 y hy;have hle:=(zot hs (szM y)).1 y _ (xx _) hby (by omega) hyr;obtain ⟨c1,c2⟩:=zwj hs N y _ (d - 1) (by omega) hby (by omega) hyr (by omega);exact ⟨by omega,⟨d - 1,by omega,c1⟩,c2⟩
   refine ⟨zNU f0 rfl (by rw [hnum]) hfo.lo hfo.hi hfs bw (by omega) (fun t ht=>by have:=zst ht;omega) (fun y hy=>⟨(hsub y hy).1,(hsub y hy).2.1⟩),fun y hy=>(hsub y hy).2.2⟩
  have hall:∀p∈(x.Values.flatMap fun v=>pcsV s (zt (zm s (n0:Int)) (fldI (zm s (n0:Int)) v.Number)) (fldI (zm s (n0:Int)) v.Number) v)++ups,zwe s d n0 p.1 p.2:=fun p hp=>by
   grind
  obtain ⟨p1,p2⟩:=pieces hall;have henc:((x.Values.flatMap fun v=>pcsV s (zt (zm s (n0:Int)) (fldI (zm s (n0:Int)) v.Number)) (fldI (zm s (n0:Int)) v.Number) v)++ups).flatMap (·.1)=encM s x n0:=by
   rw [zlA,zmm,ym,List.flatMap_assoc]
   grind [zLN]
  rw [henc] at p1 p2;refine ⟨p1,?_⟩;have hmr:=(zhv hs _ (encM s x n0) d n0 rfl hn0 p1).1;obtain ⟨_,_,hrise2,_,_⟩:=zaY hmr;have hvals:(ofM s n0 (encM s x n0)).Values=x.Values:=by
   refine zyF hrise2 hrise fun n=>?_
   rw [zks] at hrise2|-;rw [zse hs hmm hrise2,p2];by_cases hj:0<=fldI (zm s (n0:Int)) n
   ·have ha:=zAM (s:=s) (g:=ofM s) hj hrise fun v hvm=>(hv v hvm).1
    have hskip:accF (ofM s) (zt (zm s (n0:Int)) (fldI (zm s (n0:Int)) n)) (fldI (zm s (n0:Int)) n) acc0 (((x.Values.flatMap fun v=>pcsV s (zt (zm s (n0:Int)) (fldI (zm s (n0:Int)) v.Number)) (fldI (zm s (n0:Int)) v.Number) v)++ups).map (·.2))=accF (ofM s) (zt (zm s (n0:Int)) (fldI (zm s (n0:Int)) n)) (fldI (zm s (n0:Int)) n) acc0 ((x.Values.flatMap fun v=>pcsV s (zt (zm s (n0:Int)) (fldI (zm s (n0:Int)) v.Number)) (fldI (zm s (n0:Int)) v.Number) v).map (·.2)):=by
     grind [znk,zrT]
    unfold zzO;rw [hskip,ha];cases hlk:look x.Values n with
    | none=>
     grind [zas,valO,acc0]
    | some v=>
     obtain ⟨hvn,hvm⟩:=zfj hlk;have hfit:=zdI (hv v hvm).2;have hsub:=(kX v hvm).2;rw [hvn] at hfit hsub;have hbv:=zfo.1 b4 v hvm;obtain ⟨_,⟨_,bw⟩,_,_,_⟩:=(ziK v).1 hbv;have hnum:v.Number=(zt (zm s (n0:Int)) (fldI (zm s (n0:Int)) n)).Number:=by
      grind [zcX,zbe]
     simp only;rw [zKt hfit hnum bw hsub,xr ⟨hj,hfit.many⟩]
   ·rw [xq (fun hh=>hj hh.1)];cases hlk:look x.Values n with
    | none=>rfl
    | some v=>
     obtain ⟨hvn,hvm⟩:=zfj hlk
     grind
  have hunk:(ofM s n0 (encM s x n0)).Unknown=x.Unknown:=by
   rw [zks,p2];unfold zdR unkO;simp only;rw [qi,uH,qi];have e1:((x.Values.flatMap fun v=>pcsV s (zt (zm s (n0:Int)) (fldI (zm s (n0:Int)) v.Number)) (fldI (zm s (n0:Int)) v.Number) v).map (·.2)).filter (fun t=>decide (t.fi<0))=[]:=by
    rw [uI];intro t ht;obtain ⟨p,hp,rfl⟩:=xA.1 ht
    grind [zCZ]
   have e2:(ups.map (·.2)).filter (fun t=>decide (t.fi<0))=ups.map (·.2):=by
    rw [List.filter_eq_self]
    grind
   rw [e1,e2,yL,xH,yC,<-hue];exact qk fun p hp=>(hup p hp).2.2
  generalize ofM s n0 (encM s x n0)=y at hvals hunk
  cases x;cases y
  grind
theorem zQi {m:Mes} {e:Option (Nat×Int)} (b:List UInt8):∀(base:Nat) (l:List UInt8),l=b.drop base->base<=b.length->(((vws m e (spl base l).1).1.map (thOf b)).map fun t=>t.raw.length).sum<=l.length:=by
 intro base l;refine zgz (fun base l=>l=b.drop base->base<=b.length->(((vws m e (spl base l).1).1.map (thOf b)).map fun t=>t.raw.length).sum<=l.length) ?_ ?_ ?_ base l
 ·intro base _ _;rw [zdr];simp [vws]
 ·intro base l c hl h _ _ _;rw [zfJ hl h];simp [vws]
 ·intro base l n w a t hl h _ g1 g2 g3 ih hld hbase;have ku:l.length=b.length - base:=by rw [hld];simp
  have ih':=ih (by rw [hld,yb]) (by omega);rw [zbW hl h,vws];cases hv:vw m n w with
  | inl c=>simp
  | inr p=>
   simp only [xJ,qQ,thOf,xR] at ih'|-
   grind [rawB]
theorem zQd (m:Mes) (b:List UInt8):((ths m b).map fun t=>t.raw.length).sum<=b.length:=by
 grind [ths,zai,vwR,sb,wrap_i64,zQi]
theorem zOh (m:Mes) (b:List UInt8):∀t∈ths m b,t.val.length+1<=t.raw.length:=by
 intro t ht;unfold ths at ht;obtain ⟨r,hr,rfl⟩:=xA.1 ht;obtain ⟨h1,h2,h3,h4⟩:=zxK hr;show (valB b r.R).length+1<=(rawB b r.R).length;unfold valB rawB;simp;omega
def ri (i:Int):List Th->Nat
 | []=>0
 | t::l=>(if t.fi=i then 2*t.raw.length else 0)+ri i l
def ru:List Th->Nat
 | []=>0
 | t::l=>(if t.fi<0 then 2*t.raw.length else 0)+ru l
theorem zIR (x:Int) (y:Nat):∀(o:List Int),o.Nodup->(o.map fun i=>if x=i then y else 0).sum<=y/\(x∉o->(o.map fun i=>if x=i then y else 0).sum=0)
 | [],_=>by simp
 | i::o,h=>by
  obtain ⟨h1,h2⟩:=pS.1 h;obtain ⟨i1,i2⟩:=zIR x y o h2
  grind
theorem zIQ (f g:Int->Nat):∀(o:List Int),(o.map fun i=>f i+g i).sum=(o.map f).sum+(o.map g).sum
 | []=>rfl
 | i::o=>by simp only [xJ,qQ,zIQ f g o];omega
theorem zLY {o:List Int} (hd:o.Nodup) (h0:∀i∈o,0<=i):∀(l:List Th),(o.map fun i=>ri i l).sum+ru l<=2*(l.map fun t=>t.raw.length).sum
 | []=>by
  have:(o.map fun _=>(0:Nat)).sum=0:=by
   clear hd h0
   induction o with
   | nil=>rfl
   | cons i o ih=>rw [xJ,qQ,ih]
  have e:(o.map fun i=>ri i [])=o.map fun _=>(0:Nat):=qk fun i _=>rfl
  rw [e,this];simp [ru]
 | t::l=>by
  have ih:=zLY hd h0 l;have e:(o.map fun i=>ri i (t::l))=o.map fun i=>(if t.fi=i then 2*t.raw.length else 0)+ri i l:=rfl
  obtain ⟨s1,s2⟩:=zIR t.fi (2*t.raw.length) o hd;rw [e,zIQ,ru,xJ,qQ]
  grind
theorem zwM:∀(a b:List Msg),wgMs (a++b)=wgMs a+wgMs b
 | [],b=>by simp [wgMs]
 | x::a,b=>by rw [yn,wgMs,wgMs,zwM a b];omega
def wv (a:zcu):Nat:=a.2.2.1.length+(a.2.2.2.1.map fun t=>1+t.length).sum+wgMs a.2.2.2.2+2*a.1.length
theorem zPV {g:Int->List UInt8->Msg} {f:Fld} {t:Th} (hg:f.Kind=17->wgM (g f.Of t.val)<=2*t.val.length+1) {c:Nat} (hc:c<=1\/c=2/\f.Kind=17/\f.Repeated=false) (a:zcu):wv (stp g f a t)+c<=wv a+(2*t.val.length+2):=by
 have h1:(if f.Repeated=true then a.2.2.1 else []).length<=a.2.2.1.length:=by split<;>simp
 have h2:((if f.Repeated=true then a.2.2.2.1 else []).map fun t=>1+t.length).sum<=(a.2.2.2.1.map fun t=>1+t.length).sum:=by split<;>simp
 have h3:=zwd f.Kind t.val;have h4:kNum f.Kind=false->(zag f.Kind t.val).1=[]:=fun h=>by unfold zag;rw [xr h]
 unfold stp wv;by_cases c1:t.run=true
 ·grind
 ·rw [xq c1];by_cases c2:kNum f.Kind=true
  ·grind [zhd]
  ·rw [xq c2];by_cases c3:f.Kind=17/\f.Repeated=true
   ·rw [xr c3];have:=hg c3.1;rcases hc with hc| ⟨_,_,hr⟩
    ·simp only [zwM,wgMs];omega
    grind
   grind
theorem zCc {g:Int->List UInt8->Msg} {f:Fld} {i:Int} {c:Nat} (hc:c<=1\/c=2/\f.Kind=17/\f.Repeated=false):∀(l:List Th) (a:zcu),(∀t∈l,t.val.length+1<=t.raw.length)->(f.Kind=17->∀t∈l,wgM (g f.Of t.val)<=2*t.val.length+1)->
  wv (accF g f i a l)+(if (accF g f i a l).2.1=true then c else 0)<=wv a+(if a.2.1=true then c else 0)+ri i l
 | [],a,_,_=>by simp only [accF,ri,yz];exact xx _
 | t::l,a,h1,h2=>by
  rw [accF,ri];have ih:=zCc (g:=g) (i:=i) hc l (if t.fi=i then stp g f a t else a) (fun x hx=>h1 x (xu _ hx)) fun h x hx=>h2 h x (xu _ hx)
  have ht:=h1 t xt;by_cases hi:t.fi=i
  ·rw [xr hi] at ih|-;rw [xr hi];have hs:=zPV (g:=g) (f:=f) (t:=t) (fun h=>h2 h t xt) hc a
   grind
  grind
theorem zOm {g:Int->List UInt8->Msg} {f:Fld} {i:Int} {l:List Th} (h1:∀t∈l,t.val.length+1<=t.raw.length) (h2:f.Kind=17->∀t∈l,wgM (g f.Of t.val)<=2*t.val.length+1)
  (hj:f.Kind=17->wgM (g f.Of (accF g f i acc0 l).1)<=2*(accF g f i acc0 l).1.length+1) (hm:0<zas (valO g f (accF g f i acc0 l))):wgV (valO g f (accF g f i acc0 l))<=ri i l:=by
 have hmet:(accF g f i acc0 l).2.1=true:=by
  cases h:(accF g f i acc0 l).2.1 with
  | true=>rfl
  | false=>
   grind [zas,valO,acc0,zqs]
 have w0:wv acc0=0:=rfl;have m0:acc0.2.1=false:=rfl;have k1:=zCc (g:=g) (f:=f) (i:=i) (c:=1) (.inl (xx _)) l acc0 h1 h2;rw [w0,m0,hmet] at k1;simp only [yu,qj,yp] at k1;rw [zjS];by_cases hc:f.Kind=17/\f.Repeated=false
 ·have k2:=zCc (g:=g) (f:=f) (i:=i) (c:=2) (.inr ⟨rfl,hc⟩) l acc0 h1 h2;rw [w0,m0,hmet] at k2;simp only [yu,qj,yp] at k2;have hjj:=hj hc.1
  generalize accF g f i acc0 l=q at hmet k2 hjj
  unfold valO;rw [xr ⟨hmet,hc⟩];unfold wv at k2;simp only [wgMs];omega
 ·grind [valO,wv]
theorem zMc:∀(l:List Th),(∀t∈l,t.val.length+1<=t.raw.length)->((unkO l).map fun t=>1+t.length).sum<=ru l
 | [],_=>by simp [unkO,ru]
 | t::l,h=>by
  have ih:=zMc l fun x hx=>h x (xu _ hx)
  have ht:=h t xt;unfold unkO at ih|-;rw [yD,ru]
  grind
theorem zLI (s:List Mes):∀(N:Nat) (b:List UInt8) (k:Int),b.length=N->wgM (ofM s k b)<=2*b.length+1:=by
 intro N
 induction N using Nat.strongRecOn with
 | _ N IH=>
  intro b k hN;have hwt:=zod (zm s k) b;have hwr:=zQd (zm s k) b;have hraw:=zOh (zm s k) b;rw [zks]
  generalize ths (zm s k) b=l at hwt hwr hraw
  generalize zm s k=m
  have hg:∀(f:Fld) (v:List UInt8),v.length+1<=b.length->wgM (ofM s f.Of v)<=2*v.length+1:=fun f v hv=>IH v.length (by omega) v f.Of rfl
  have kX:∀i,0<zas (valO (ofM s) (zt m i) (accF (ofM s) (zt m i) i acc0 l))->wgV (valO (ofM s) (zt m i) (accF (ofM s) (zt m i) i acc0 l))<=ri i l:=fun i hp=>by
   refine zOm hraw (fun _ t ht=>hg _ _ (by have:=ztL ht;omega)) (fun _=>?_) hp;have hw:=(zqt (ofM s) (zt m i) i acc0 l).2;have j0:wJ acc0=0:=rfl;rw [j0] at hw;cases hm:(accF (ofM s) (zt m i) i acc0 l).2.1 with
   | true=>
    rw [wJ,xr hm] at hw
    grind
   | false=>
    grind [zas,valO,acc0,zqs]
  have hsum:∀o:List Int,wgVs ((o.map fun i=>valO (ofM s) (zt m i) (accF (ofM s) (zt m i) i acc0 l)).filter fun v=>decide (0<zas v))<=(o.map fun i=>ri i l).sum:=by
   intro o
   induction o with
   | nil=>simp [wgVs]
   | cons i o ih=>
    rw [xJ,yD,xJ,qQ];by_cases hp:0<zas (valO (ofM s) (zt m i) (accF (ofM s) (zt m i) i acc0 l))
    ·rw [xr (by simpa using hp),wgVs]
     grind
    grind
  have h1:=hsum (zcx (zaV m) m.Fields.length);have hnd:(zcx (zaV m) m.Fields.length).Nodup:=(zpH (zaV m) m.Fields.length).imp fun {a b} h e=>by
   rw [e] at h;exact zCi h h
  have h2:=zLY hnd (fun i hi=>(zen.1 hi).1) l
  grind [zdR,zmL,zMc,zlt]
theorem zkq:∀(y x:Nat),x<=y->lenN x<=lenN y:=by
 intro y
 induction y using Nat.strongRecOn with
 | _ y ih=>
  intro x h;by_cases hy:y<128
  ·grind [zdW]
  ·rw [zdB hy];by_cases hx:x<128
   ·rw [zdW hx];have:=zoB (y/128);omega
   ·rw [zdB hx];have:=ih (y/128) (by omega) (x/128) (by omega);omega
theorem zvF:∀(x:Nat),lenN (x+1)<=lenN x+1:=by
 intro x
 induction x using Nat.strongRecOn with
 | _ x ih=>
  by_cases h:x+1<128
  ·rw [zdW h];omega
  ·rw [zdB h];by_cases hx:x<128
   ·rw [zdW hx,zdW (by omega)];omega
   ·rw [zdB hx];have h1:=zkq (x/128+1) ((x+1)/128) (by omega)
    grind
theorem zLr:∀(n x y:Nat),x+y=n->lenN (x+y)<=lenN x+lenN y:=by
 intro n
 induction n using Nat.strongRecOn with
 | _ n ih=>
  intro x y hn;have px:=zoB x;have py:=zoB y;by_cases h:x+y<128
  ·rw [zdW h];omega
  ·rw [zdB h];by_cases hx:x<128
   ·by_cases hy:y<128
    ·rw [zdW (n:=(x+y)/128) (by omega)];omega
    ·rw [zdB hy];have h1:=zkq (y/128+1) ((x+y)/128) (by omega);have h2:=zvF (y/128);omega
   ·rw [zdB hx];by_cases hy:y<128
    ·have h1:=zkq (x/128+1) ((x+y)/128) (by omega);have h2:=zvF (x/128);omega
    ·rw [zdB hy];have h1:=zkq (x/128+y/128+1) ((x+y)/128) (by omega)
     grind [zvF]
theorem zuE (n:Int) (v:List UInt8):(put5 n 2 v).length=lenN (tW n 2)+lenN v.length+v.length:=by
 rw [ziz,xr rfl,ziG,ziG]
theorem zvP (n:Int) {z x y:List UInt8} (h:z.length<=x.length+y.length):(put5 n 2 z).length<=(put5 n 2 x).length+(put5 n 2 y).length:=by
 rw [zuE,zuE,zuE];have h1:=zkq _ _ h;have h2:=zLr _ x.length y.length rfl;omega
def lenF (s:List Mes) (f:Fld) (o:Option Vlu):Nat:=match o with
 | some u=>(encV s u f).length
 | none=>0
theorem zJi {s:List Mes} {v:Vlu} {o:Option Vlu} {f:Fld} (hv:zhK s v f) (ho:∀u,o=some u->zhK s u f)
  (ih:∀x∈v.Subs,∀y:Msg,zay s x f.Of=true->zay s y f.Of=true->(encM s (zkX s x y f.Of) f.Of).length<=(encM s x f.Of).length+(encM s y f.Of).length):
  (encV s (zhl s v o f) f).length<=(encV s v f).length+lenF s f o:=by
 rw [ziw];cases o with
 | none=>exact Nat.le_add_right _ _
 | some u=>
  have hu:=ho u rfl;simp only [lenF];by_cases hr:f.Repeated=true
  ·rw [xr hr,ziF,ziF,ziF];by_cases hk:kNum f.Kind=true
   ·simp only [xr hk,xr hr,ym];have:=zvP f.Number (z:=u.Words.flatMap (sPut f.Kind)++v.Words.flatMap (sPut f.Kind)) (x:=u.Words.flatMap (sPut f.Kind)) (y:=v.Words.flatMap (sPut f.Kind)) (by rw [xz];exact xx _);omega
   grind [ztW]
  ·rw [xq hr];by_cases kq:f.Kind=17
   ·rw [xr kq];obtain ⟨x,hvx,hx⟩:=hv.msg kq (by simpa using hr);obtain ⟨y,huy,hy⟩:=hu.msg kq (by simpa using hr);have hvs:v.Subs=[x]:=by rw [hvx]
    have hus:u.Subs=[y]:=by rw [huy]
    have hnk:¬kNum f.Kind=true:=fun h=>(zhd h).1 kq
    have hvt:v.Texts=[]:=by rw [hvx]
    have hut:u.Texts=[]:=by rw [huy]
    rw [ziF,ziF,ziF,xq hnk,xq hnk,xq hnk,hvs,hus,hvt,hut,zln];simp only [zgI,yS,xH,xQ];have h1:=ih x (by rw [hvs];exact xt) y hx hy;have:=zvP f.Number h1;omega
   grind
def zvG (s:List Mes) (m:Mes) (o:Option Vlu):Nat:=match o with
 | some u=>(encV s u (zt m (fldI m u.Number))).length
 | none=>0
theorem zEY {s:List Mes} {m:Mes} {v:Vlu}:∀{d:Bool} {l:List Vlu},zel l->(zcU s (putL v d l) m).length+zvG s m (look l v.Number)<=(zcU s l m).length+(if d=true then 0 else (encV s v (zt m (fldI m v.Number))).length)
 | d,[],_=>by
  rw [putL];cases d
  ·simp [zcU,look,zvG]
  ·simp [zcU,look,zvG]
 | d,u::l,h=>by
  obtain ⟨h1,h2⟩:=yd.1 h;have ih:=zEY (s:=s) (m:=m) (v:=v) (d:=d|| decide (v.Number<=u.Number)) h2;rw [putL,zpl,zpl,zdk,zcU,xz,xz,xz];by_cases hn:u.Number=v.Number
  ·rw [xr hn,xr hn];rw [zsd fun x hx=>by have:=h1 x hx;omega] at ih;have hle:v.Number<=u.Number:=by omega
   simp only [hle,decide_true,pp,yu,zvG] at ih|-;cases d
   ·rw [xr ⟨rfl,trivial⟩];simp only [zcU,xz,yv,qj,yp];omega
   ·rw [xq (fun hh=>by cases hh.1)];simp only [zcU,yv,yu];omega
  ·rw [xq hn,xq hn];have e2:(zcU s [u] m).length=(encV s u (zt m (fldI m u.Number))).length:=by rw [zcU,zcU,xQ]
   have e3:(zcU s [v] m).length=(encV s v (zt m (fldI m v.Number))).length:=by rw [zcU,zcU,xQ]
   rw [e2];cases d
   ·by_cases hle:v.Number<=u.Number
    ·grind
    ·have eb:(false|| decide (v.Number<=u.Number))=false:=by simp [hle]
     rw [eb] at ih|-;rw [xq (by simp)] at ih;rw [xq (fun hh=>hle hh.2),xq (by simp)];simp only [zcU,yv];omega
   ·rw [Bool.true_or] at ih|-;rw [xr rfl] at ih;rw [xq (fun hh=>by cases hh.1),xr rfl];simp only [zcU,yv];omega
theorem zyz {s:List Mes} {a:Msg} {m:Mes}:∀{l acc:List Vlu},zel acc->zel l->(∀v∈l,0<zas (zhl s v (look a.Values v.Number) (zt m (fldI m v.Number))))->
  (∀v∈l,look acc v.Number=look a.Values v.Number)->(∀v∈l,(encV s (zhl s v (look a.Values v.Number) (zt m (fldI m v.Number))) (zt m (fldI m v.Number))).length<=(encV s v (zt m (fldI m v.Number))).length+zvG s m (look a.Values v.Number))->
  (zcU s (ziq s l a m acc) m).length<=(zcU s acc m).length+(zcU s l m).length
 | [],acc,_,_,_,_,_=>by rw [ziq];simp [zcU]
 | v::l,acc,h1,h2,h3,h4,h5=>by
  obtain ⟨l1,l2⟩:=yd.1 h2;have hm:=h3 v xt;have hnum:=zvD s v (look a.Values v.Number) (zt m (fldI m v.Number));have hl:=h5 v xt;have hla:=h4 v xt;rw [ziq,zcU,xz];have hput:putM ⟨acc,[]⟩ (zhl s v (look a.Values v.Number) (zt m (fldI m v.Number)))=⟨putL (zhl s v (look a.Values v.Number) (zt m (fldI m v.Number))) false acc,[]⟩:=by
   unfold putM;have:decide (zas (zhl s v (look a.Values v.Number) (zt m (fldI m v.Number)))=0)=false:=xU (by omega);rw [this]
  rw [hput];have hpe:=zEY (s:=s) (m:=m) (v:=zhl s v (look a.Values v.Number) (zt m (fldI m v.Number))) (d:=false) h1;rw [hnum,hla] at hpe;simp only [qj,yp] at hpe
  have ih:=zyz (s:=s) (a:=a) (m:=m) (l:=l) (acc:=putL (zhl s v (look a.Values v.Number) (zt m (fldI m v.Number))) false acc) (znw h1) l2 (fun u hu=>h3 u (xu _ hu))
   (fun u hu=>by
    have:=l1 u hu;rw [zur h1,hnum,xq (by omega)];exact h4 u (xu _ hu)) fun u hu=>h5 u (xu _ hu)
  simp only;omega
theorem zEz {s:List Mes}:∀(N:Nat) (b a:Msg) (k:Int),szM b<=N->zay s a k=true->zay s b k=true->(encM s (zkX s b a k) k).length<=(encM s b k).length+(encM s a k).length
 | 0,b,a,k,h,_,_=>by rw [zcR] at h;omega
 | N+1,b,a,k,kG,ha,hb=>by
  obtain ⟨k0,k1,ra,ha',ua⟩:=zaY ha;obtain ⟨_,_,rb,hb',ub⟩:=zaY hb;rw [zcR] at kG;have fit:∀n u,look a.Values n=some u->zhK s u (zt (zm s k) (fldI (zm s k) n)):=fun n u hu=>by
   obtain ⟨e,hm⟩:=zfj hu;have:=zdI (ha' u hm).2
   grind
  rw [zmp,zlA,zlA,zlA];have:=zyz (s:=s) (a:=a) (m:=zm s k) ra rb (fun v hv=>ztm (zdI (hb' v hv).2) fun u hu=>fit _ u hu) (fun _ _=>rfl) (fun v hv=>by
   have h:=zJi (zdI (hb' v hv).2) (o:=look a.Values v.Number) (fun u hu=>fit _ u hu) fun x hx y hxr hyr=>by
    have s1:=zfb hv;rw [zgr] at s1;have s2:=zfa hx;exact zEz N x y _ (by omega) hyr hxr
   refine yg h (Nat.add_le_add_left ?_ _);cases hl:look a.Values v.Number with
   | none=>exact xC _
   | some u=>
    have e:=(zfj hl).1;unfold zvG lenF;simp only [e];exact xx _)
  grind
def zbo (s:List Mes) (k:Int) (b:List UInt8):List UInt8:=encM s (ofM s k b) k
theorem zDf {s:List Mes} (hs:zca s) {d k:Nat} (hk:k<s.length) {b:List UInt8} (hb:b.length<=14000) (hv:zH s d k b=none) {fuel:Nat} (hf:b.length<fuel) (hf2:szM (ofM s k b)+12<=fuel):zgg fuel s k b=some (zbo s k b):=by
 have hr:=(zhv hs _ b d k rfl hk hv).1;have hbd:=(zLH hs b.length b k rfl (by omega) hk).1;have hw:=zLI s b.length b k rfl;unfold zgg zbo;rw [zHg hs hk (by omega) hf,sb,zzn hs hf2 hbd (by omega) hr,sb]
def cpl:List UInt8->List UInt8->Nat
 | x::a,y::b=>if x=y then 1+cpl a b else 0
 | _,_=>0
def zpp (a b:List UInt8):Int:=if a=b then -1 else ((cpl a b:Nat):Int)
theorem zAw {a b:List UInt8} (ha:a.length<=1048576) (hb:b.length<=1048576):zfA a b=some (zpp a b):=by
 unfold zfA zpp;rw [zty,sb];by_cases h:a=b
 ·rw [itT (by simpa using h),xr h]
 ·rw [itF (by simpa using h),xq h];have key:∀(c i:Nat),i+c=a.length->i<=b.length->zcM a b i=some ((i+cpl (a.drop i) (b.drop i):Nat):Int):=by
   intro c
   induction c with
   | zero=>
    intro i hi hib;have e:a.drop i=[]:=yo (by omega);rw [e];refine zfN ?_;unfold zbl;rw [uV,sb,uR,cpl]
    ·rfl
    ·intro _ _ _ _ hh;cases hh
   | succ c ih=>
    intro i hi hib;have hil:i<a.length:=by omega
    have hda:a.drop i=a[i]::a.drop (i+1):=yf hil;by_cases hbl:i=b.length
    ·have e:b.drop i=[]:=yo (by omega);rw [e,hda];refine zfN ?_;unfold zbl;rw [uW,uV,sb,uR,cpl]
     ·rfl
     ·intro _ _ _ _ _ hh;cases hh
    ·have hib':i<b.length:=by omega
     have hdb:b.drop i=b[i]::b.drop (i+1):=yf hib';rw [hda,hdb,cpl];have kW:zbl a b i=if a[i]=b[i] then some (.inl ((i+1:Nat):Int)) else some (.inr (i:Int)):=by
      unfold zbl;rw [uW,uW,zP rfl hil,sb,zP rfl hib',sb,sb];by_cases hx:a[i]=b[i]
      ·rw [xr hx,itF (by rw [hx];simp),uX];push_cast;rfl
      ·have:(a[i]).toNat≠(b[i]).toNat:=fun hh=>hx (UInt8.toNat_inj.1 hh)
       rw [xq hx,uV]
     by_cases hx:a[i]=b[i]
     ·rw [xr hx] at kW|-;rw [zng kW,ih (i+1) (by omega) (by omega)];congr 2;omega
     ·rw [xq hx] at kW|-;rw [zfN kW];rfl
  have h1:=key a.length 0 (xK _) (xC _);have h1':zcM a b 0=_:=h1;rw [h1',sb,yc,yc,xK]
def zhH (b:List UInt8) (n:Int):List UInt8:=((splR (spl 0 b)).1.filter fun r=>r.Number==n).flatMap (rawB b)
theorem zzj (b:List UInt8) (r:Rec):(rawB b r).length<=b.length:=by unfold rawB;simp;omega
theorem zAu {b:List UInt8} (hb:b.length<=1048576) (n:Int):zfz b n=some (zhH b n):=by
 unfold zfz zhH;rw [zFm hb,sb];have hr:∀r∈(splR (spl 0 b)).1,0<=r.From/\r.From<=r.To/\r.To<=b.length:=fun r hr=>by
  unfold splR at hr;split at hr
  ·have:=ztC 0 b r hr;omega
  ·cases hr
 have ku:(splR (spl 0 b)).1.length<=b.length:=by
  unfold splR;split
  ·exact zIM 0 b
  ·simp
 generalize splR (spl 0 b)=x at hr ku|-
 have key:∀(c i:Nat) (out:List UInt8),i+c=x.1.length->out.length<=1048576*i->zcL b n x out i=some (out++((x.1.drop i).filter fun r=>r.Number==n).flatMap (rawB b)):=by
  intro c
  induction c with
  | zero=>
   intro i out hi ho;have e:x.1.drop i=[]:=yo (by omega);rw [e];refine znf ?_;unfold zbk;rw [uW];simp
  | succ c ih=>
   intro i out hi ho;have hil:i<x.1.length:=by omega
   have hd:x.1.drop i=x.1[i]::x.1.drop (i+1):=yf hil;have hxi:idx x.1 (i:Int)=some x.1[i]:=zP rfl hil;have hri:=hr _ (xB hil);rw [hd,yD]
   generalize x.1[i]=r at hxi hri|-
   have hcut:cut b r.From r.To=some (rawB b r):=by
    obtain ⟨p,hp⟩:∃p:Nat,r.From=p:=⟨r.From.toNat,by omega⟩;obtain ⟨q,hq⟩:∃p:Nat,r.To=p:=⟨r.To.toNat,by omega⟩;rw [zgC hp hq (by omega) (by omega)];unfold rawB;rw [hp,hq];simp only [xD]
   have hrl:=zzj b r;have hw1:i64.wrap ((i:Int)+1)=((i+1:Nat):Int):=by rw [uX];push_cast;rfl
   by_cases hn:r.Number=n
   ·rw [xr (by simpa using hn),xE,<-yj,<-ih (i+1) (out++rawB b r) (by omega) (by simp;omega)];refine zim ?_;unfold zbk;rw [uV,hxi,sb,itT (by simpa using hn),sb,sb,hcut,sb,zaQ (by omega),sb,hw1]
   ·rw [xq (by simpa using hn),<-ih (i+1) out (by omega) (by omega)];refine zim ?_;unfold zbk;rw [uV,hxi,sb,itF (by simpa using hn),hw1]
 have h:=key x.1.length 0 [] (xK _) (xC _);have h':zcL b n x [] 0=_:=h;rw [h',sb,yc,xH]
theorem zKD {k w:Int} (h:0<=w/\w<=18446744073709551615):zbg k w<=w\/2147483648<=w:=by
 unfold zbg;split
 ·unfold zpV sgnS;split
  ·rw [xr (by omega)];omega
  ·rw [xq (by omega)];omega
 ·split
  ·omega
  ·split
   ·split<;>omega
   ·omega
theorem zBz {k:Int} (hk:kNum k=true) {p:List UInt8} (hf:zbt (zab k) p=true):(sPut k (zep k p)).length<=2*p.length:=by
 have hr:=znx k (b:=p);have h1:=zfB.1 hk;unfold zep;rw [zHm hr];have hc:=zhk k hr;unfold sPut zkz;by_cases h12:12<=k
 ·rw [xr h12,zaB];have:zab k=1:=by unfold zab;rw [xq (by omega),xr h12]
  rw [this] at hf;unfold zbt at hf;rw [xq (by omega)] at hf;have:=yx hf;omega
 ·rw [xq h12];by_cases h9:9<=k
  ·rw [xr h9,zaB];have:zab k=5:=by unfold zab;rw [xq (by omega),xq h12,xr h9]
   rw [this] at hf;unfold zbt at hf;rw [xq (by omega)] at hf;have:=yx hf;omega
  ·rw [xq h9,ziG];have h0:zab k=0:=by unfold zab;rw [xq (by omega),xq h12,xq h9]
   rw [h0] at hf;unfold zbt at hf;rw [xr rfl] at hf;obtain ⟨f1,f2⟩:=yx hf;have hraw:rawW k p=(rd p).1:=by unfold rawW;rw [xr h0]
   rw [hraw] at hr hc|-;have hm:=zCy (l:=p) (k:=p.length) (by rw [<-f1,<-f2]);rw [ziG] at hm;rcases zKD (k:=k) hr with hle| hge
   ·have:=zkq (rd p).1.toNat (zbg k (rd p).1).toNat (by omega);omega
   ·have h5:=zkq (rd p).1.toNat 2147483648 (by omega);have e5:lenN 2147483648=5:=by
     rw [zdB (by omega),zdB (by omega),zdB (by omega),zdB (by omega),zdW (by omega)]
    have h10:=zuo (n:=(zbg k (rd p).1).toNat) (by omega);omega
theorem zuC {k:Int} (hk:kNum k=true):∀{ps:List (List UInt8)},(∀p∈ps,zbt (zab k) p=true)->((ps.map (zep k)).flatMap (sPut k)).length<=2*ps.flatten.length
 | [],_=>by simp
 | p::ps,h=>by
  have h1:=zBz hk (h p xt);have h2:=zuC hk fun q hq=>h q (xu _ hq)
  rw [xJ,xE,xz,qt,xz];omega
theorem zrR {k:Int} (hk:kNum k=true) (v:List UInt8):((zag k v).1.flatMap (sPut k)).length<=2*v.length:=by
 unfold zag;rw [xq (by rw [hk];simp)];by_cases h:(pcs k v).2=0
 ·rw [xr h];have h1:=zuC hk (ps:=(pcs k v).1) fun p hp=>(zro hk v p hp).1
  rw [zze k v h] at h1;exact h1
 ·rw [xq h];simp
theorem zLs {n w:Int} (h:1<=n) (h0:0<=w/\w<=7):lenN (tW n 2)=lenN (tW n w):=by
 have key:∀(q a b:Nat),a<8->b<8->lenN (8*q+a)=lenN (8*q+b):=by
  intro q a b ha hb;by_cases hq:8*q+8<=128
  ·rw [zdW (by omega),zdW (by omega)]
  ·rw [zdB (n:=8*q+a) (by omega),zdB (n:=8*q+b) (by omega)];have:(8*q+a)/128=(8*q+b)/128:=by omega
   rw [this]
 have:=key n.toNat 2 w.toNat (by omega) (by omega);have e1:tW n 2=8*n.toNat+2:=by unfold tW;omega
 have e2:tW n w=8*n.toNat+w.toNat:=by unfold tW;omega
 rw [e1,e2];exact this
theorem zzh (n:Int) {z v:List UInt8} (h:z.length<=2*v.length):(put5 n 2 z).length<=2*(put5 n 2 v).length:=by
 have:=zvP n (z:=z) (x:=v) (y:=v) (by omega);omega
theorem zKK {s:List Mes} {d:Nat} {m:Mes} {t:Th} {g:Int->List UInt8->Msg} {f:Fld} (ht:OkT s d m t) (h0:0<=t.fi) (hf:zt m t.fi=f) (hn:1<=f.Number) {R:Nat}
  (hR1:t.run=true->(put5 f.Number 2 t.val).length<=R) (hR2:t.run=false->(put5 f.Number (zab f.Kind) t.val).length<=R) (hg:f.Kind=17->(encM s (g f.Of t.val) f.Of).length<=2*t.val.length):
  (encV s (valO g f (stp g f acc0 t)) f).length<=2*R:=by
 have kF:=ht.run h0;have hone:=ht.one h0;rw [hf] at kF hone;have hz1:(if f.Repeated=true then acc0.2.2.1 else [])=[]:=by split<;>rfl
 have hz2:(if f.Repeated=true then acc0.2.2.2.1 else [])=[]:=by split<;>rfl
 by_cases hr:t.run=true
 ·obtain ⟨hk,hrep,_⟩:=kF hr;have kq:=(zhd hk).1;have hw:=zrR hk t.val;have:=zzh f.Number hw;have:=hR1 hr;rw [ziF,xr hk,xr hrep];unfold stp valO;rw [xr hr,hz1];simp only [xH];omega
 ·have hr':t.run=false:=by simpa using hr
  obtain ⟨hkr,hfit,_,_⟩:=hone hr';have hR:=hR2 hr';by_cases hk:kNum f.Kind=true
  ·have hp:=zjh hk hfit;have hpt:=zBz hk hfit;have kq:=(zhd hk).1;rw [ziF,xr hk];have e:(valO g f (stp g f acc0 t)).Words=[zep f.Kind t.val]:=by
    unfold stp valO;rw [xq hr,xr hk,hz1,hp];rfl
   rw [e];have htg:=zLs (n:=f.Number) (w:=zab f.Kind) hn (zEA _);have htp:=zoB (tW f.Number (zab f.Kind));have hkw:zab f.Kind≠2:=by
    have:=zfB.1 hk;unfold zab;rw [xq (by omega)];split;omega;split<;>omega
   rw [ziz,xq hkw,ziG] at hR;have hsl:=zhS (k:=f.Kind) (w:=zep f.Kind t.val) (zhk _ (znx _));by_cases hrep:f.Repeated=true
   ·rw [xr hrep,zuE,htg];have e2:[zep f.Kind t.val].flatMap (sPut f.Kind)=sPut f.Kind (zep f.Kind t.val):=by simp
    rw [e2];have:lenN (sPut f.Kind (zep f.Kind t.val)).length=1:=zdW (by omega);omega
   ·rw [xq hrep];show (put5 f.Number (zab f.Kind) (sPut f.Kind (zep f.Kind t.val))).length<=_;rw [ziz,xq hkw,ziG];omega
  ·have hkk:zab f.Kind=2:=by
    have h1:¬(1<=f.Kind/\f.Kind<=14):=fun hh=>hk (zfB.2 hh)
    have h2:1<=f.Kind/\f.Kind<=17:=by simpa [zbb] using hkr
    unfold zab;rw [xr (by omega)]
   rw [hkk] at hR;rw [ziF,xq hk];by_cases kq:f.Kind=17
   ·have:=zzh f.Number (hg kq);have e1:(valO g f (stp g f acc0 t)).Texts=[]:=by
     unfold stp valO;rw [xq hr,xq hk];by_cases hrep:f.Repeated=true
     ·rw [xr ⟨kq,hrep⟩,hz2]
     ·rw [xq (fun hh=>hrep hh.2),xr kq,hz2]
    have e2:(valO g f (stp g f acc0 t)).Subs=[g f.Of t.val]:=by
     unfold stp valO;rw [xq hr,xq hk];by_cases hrep:f.Repeated=true
     ·rw [xr ⟨kq,hrep⟩];simp only;rw [xq (fun hh=>by rw [hrep] at hh;cases hh.2.2)];rfl
     ·rw [xq (fun hh=>hrep hh.2),xr kq];simp only;rw [xr ⟨trivial,kq,by simpa using hrep⟩];rfl
    rw [e1,e2];simp only [yS,xH,zgI,xQ];omega
   ·have e1:(valO g f (stp g f acc0 t)).Texts=[t.val]:=by
     unfold stp valO;rw [xq hr,xq hk,xq (fun hh=>kq hh.1),xq kq,hz2];rfl
    have e2:(valO g f (stp g f acc0 t)).Subs=[]:=by
     unfold stp valO;rw [xq hr,xq hk,xq (fun hh=>kq hh.1),xq kq];simp only;rw [xq (fun hh=>kq hh.2.1)];rfl
    rw [e1,e2];simp only [pB,zgI,xQ];omega
theorem zpr {s:List Mes} (hs:zca s):∀(N:Nat) (b:List UInt8) (d k:Nat),b.length=N->k<s.length->zH s d k b=none->(zbo s k b).length<=2*b.length:=by
 intro N
 induction N using Nat.strongRecOn with
 | _ N IH=>
  intro b d k hN hk hv;have hmm:zm s (k:Int)∈s:=by rw [zbq hk];exact xB hk
  have hv':=hv;rw [zej,zbX] at hv';by_cases kO:b=[]
  ·subst kO;unfold zbo;have e:ofM s k []=⟨[],[]⟩:=by
    rw [zks,zoc hv,zdr];unfold zdR zmL unkO;have:∀o:List Int,(o.map fun i=>valO (ofM s) (zt (zm s (k:Int)) i) (accF (ofM s) (zt (zm s (k:Int)) i) i acc0 [])).filter (fun v=>decide (0<zas v))=[]:=by
     intro o;rw [uI];intro v hv;obtain ⟨i,_,rfl⟩:=xA.1 hv;simp [accF,zas,valO,acc0]
    simp only [yL,List.filter_nil,this]
   rw [e,zlA];simp [zcU]
  ·rcases zhf b with ⟨c,hc,_⟩| ⟨n,w,kk,a,t,hc,_,htr,_,g1,g2,g3,g4,g5,_⟩
   ·rw [zfJ kO hc] at hv';cases hv'.2
   ·have hrv:=zzl hc;have hrl:(b.take t).length=t:=by simp;omega
    have hrn:b.take t≠[]:=fun e=>by
     rw [e,yv] at hrl;omega
    have hsr:spl 0 (b.take t)=([⟨n,w,((0:Nat):Int),((0+a:Nat):Int),((0+t:Nat):Int)⟩],none):=by
     have hd:(b.take t).drop t=[]:=yo (by omega);rw [zbW hrn (zsk hc),hd,zdr]
    have kX:valB (b.take t) ⟨n,w,((0:Nat):Int),((0+a:Nat):Int),((0+t:Nat):Int)⟩=(b.drop a).take (t - a):=by
     unfold valB;simp only [xD,xK];rw [qx,qo,Nat.min_self]
    have hstep:=hv'.1 ⟨n,w,((0:Nat):Int),((0+a:Nat):Int),((0+t:Nat):Int)⟩ (by rw [zbW kO hc];exact xt);have hr:zH s d k (b.take t)=none:=by
     rw [zej,zbX,hsr];refine ⟨fun r hr=>?_,rfl⟩;rw [xY.1 hr];refine (zrD (b:=b) (b':=b.take t) rfl rfl ?_).2 hstep;rw [kX];unfold valB;simp only [xD,xK]
    have hz:zH s d k (b.drop t)=none:=by
     have:=zid s d k (b.drop t) hr;rw [qn] at this;exact this.1 hv
    have hone:(zbo s k (b.take t)).length<=2*t:=by
     have hth:=zFG hr;have hmr:=(zhv hs _ (b.take t) d k rfl hk hr).1;obtain ⟨_,_,hrise,_,_⟩:=zaY hmr;have hths:ths (zm s (k:Int)) (b.take t)=[thR (zm s k) (b.take t) ⟨n,w,((0:Nat):Int),((0+a:Nat):Int),((0+t:Nat):Int)⟩]:=by rw [zoc hr,hsr];rfl
     have hraw:(thR (zm s (k:Int)) (b.take t) ⟨n,w,((0:Nat):Int),((0+a:Nat):Int),((0+t:Nat):Int)⟩).raw.length<=t:=by
      have:=zzj (b.take t) ⟨n,w,((0:Nat):Int),((0+a:Nat):Int),((0+t:Nat):Int)⟩;rw [hrl] at this;exact this
     have hput:=hrv.2.2;rw [<-kX] at hput;unfold zbo;rw [zks] at hrise|-;rw [hths] at hrise hth|-;have hu:=hth _ xt
     have hvw:vwG (zm s (k:Int)) ⟨n,w,((0:Nat):Int),((0+a:Nat):Int),((0+t:Nat):Int)⟩=match vw (zm s (k:Int)) n w with
      | .inl _=>(-1,false)
      | .inr p=>p:=rfl
     have hfi:(thR (zm s (k:Int)) (b.take t) ⟨n,w,((0:Nat):Int),((0+a:Nat):Int),((0+t:Nat):Int)⟩).fi=(vwG (zm s (k:Int)) ⟨n,w,((0:Nat):Int),((0+a:Nat):Int),((0+t:Nat):Int)⟩).1:=rfl;have kF:(thR (zm s (k:Int)) (b.take t) ⟨n,w,((0:Nat):Int),((0+a:Nat):Int),((0+t:Nat):Int)⟩).run=(vwG (zm s (k:Int)) ⟨n,w,((0:Nat):Int),((0+a:Nat):Int),((0+t:Nat):Int)⟩).2:=rfl;have hvl:(thR (zm s (k:Int)) (b.take t) ⟨n,w,((0:Nat):Int),((0+a:Nat):Int),((0+t:Nat):Int)⟩).val=valB (b.take t) ⟨n,w,((0:Nat):Int),((0+a:Nat):Int),((0+t:Nat):Int)⟩:=rfl;have hvlen:(valB (b.take t) ⟨n,w,((0:Nat):Int),((0+a:Nat):Int),((0+t:Nat):Int)⟩).length=t - a:=by rw [kX];exact hrv.2.1
     rw [hvw] at hfi kF
     generalize thR (zm s (k:Int)) (b.take t) ⟨n,w,((0:Nat):Int),((0+a:Nat):Int),((0+t:Nat):Int)⟩=u at hraw hu hfi kF hvl hrise|-
     rw [<-hvl] at hput hvlen
     -- values: of the record's field alone
     have hmem:∀v∈(zdR (ofM s) (zm s (k:Int)) [u]).Values,0<=u.fi/\v=valO (ofM s) (zt (zm s (k:Int)) u.fi) (stp (ofM s) (zt (zm s (k:Int)) u.fi) acc0 u):=fun v hv=>by
      unfold zdR zmL at hv;obtain ⟨h1,h2⟩:=xW.1 hv;obtain ⟨i,hi,rfl⟩:=xA.1 h1;have hi0:=(zen.1 hi).1;by_cases hui:u.fi=i
      ·rw [accF,accF,xr hui,<-hui];exact ⟨by omega,rfl⟩
      ·exfalso;rw [accF,accF,xq hui] at h2;simp [zas,valO,acc0] at h2
     rw [zlA];rcases zdE (zm s (k:Int)) n w with hvv| ⟨hvv,_⟩| ⟨i,run,hvv,hfii,hil⟩
     ·rw [hvv] at hfi;simp only at hfi;have hnil:(zdR (ofM s) (zm s (k:Int)) [u]).Values=[]:=by
       cases hvs:(zdR (ofM s) (zm s (k:Int)) [u]).Values with
       | nil=>rfl
       | cons v l=>have:=(hmem v (by rw [hvs];exact xt)).1;omega
      rw [hnil];have:(zdR (ofM s) (zm s (k:Int)) [u]).Unknown=[u.raw]:=by
       unfold zdR unkO;simp only;rw [yD,xr (by simp;omega)];rfl
      rw [this];simp [zcU];omega
     ·rw [hvv] at hfi;simp only at hfi;have hnil:(zdR (ofM s) (zm s (k:Int)) [u]).Values=[]:=by
       cases hvs:(zdR (ofM s) (zm s (k:Int)) [u]).Values with
       | nil=>rfl
       | cons v l=>have:=(hmem v (by rw [hvs];exact xt)).1;omega
      rw [hnil];have:(zdR (ofM s) (zm s (k:Int)) [u]).Unknown=[u.raw]:=by
       unfold zdR unkO;simp only;rw [yD,xr (by simp;omega)];rfl
      rw [this];simp [zcU];omega
     ·rw [hvv] at hfi kF;simp only at hfi kF;have hunk:(zdR (ofM s) (zm s (k:Int)) [u]).Unknown=[]:=by
       unfold zdR unkO;simp only;rw [yD,xq (by simp;omega)];rfl
      rw [hunk];have hfm:zt (zm s (k:Int)) u.fi∈(zm s (k:Int)).Fields:=by rw [hfi,zbe hil];exact xB hil
      have hfo:=hs.fld _ hmm _ hfm;have hnum:(zt (zm s (k:Int)) u.fi).Number=n:=by
       rcases zcX (zm s (k:Int)) n with ⟨hf,_⟩| ⟨j,hj,hf,hjn,_⟩
       ·omega
       ·have:j=i:=by omega
        subst this;rw [hfi,zbe hj,hjn]
      have hb1:(encV s (valO (ofM s) (zt (zm s (k:Int)) u.fi) (stp (ofM s) (zt (zm s (k:Int)) u.fi) acc0 u)) (zt (zm s (k:Int)) u.fi)).length<=2*t:=by
       refine zKK hu (by omega) rfl hfo.lo (fun hr=>?_) (fun hr=>?_) fun kq=>?_
       ·rw [hr] at kF;have:=(zDF (by rw [hvv,<-kF])).2.2;rw [hnum,<-this];exact hput
       ·rw [hr] at kF;have hkw:zab (zt (zm s (k:Int)) u.fi).Kind=w:=by
         unfold vw at hvv;rw [hfii,<-hfi] at hvv;split at hvv
         ·rename_i km;omega
         ·split at hvv
          ·have:=congrArg (fun q:Int⊕(Int×Bool)=>match q with| .inl _=>false| .inr p=>p.2) hvv;simp only at this;rw [<-kF] at this;cases this
          ·split at hvv
           ·cases hvv
           ·rename_i h4;by_cases hq:zab (zt (zm s (k:Int)) u.fi).Kind=w
            ·exact hq
            ·exact absurd (.inr hq) h4
        rw [hnum,hkw];exact hput
       ·have hrf:u.run=false:=by
         cases hrr:u.run with
         | false=>rfl
         | true=>
          have:=(hu.run (by omega) hrr).1;rw [kq] at this;cases this
        obtain ⟨e,he,hve⟩:=(hu.one (by omega) hrf).2.2.2 kq;have hof:=hfo.sub kq;obtain ⟨q,hq⟩:∃q:Nat,(zt (zm s (k:Int)) u.fi).Of=q:=⟨(zt (zm s (k:Int)) u.fi).Of.toNat,by omega⟩;rw [hq] at hve|-;exact IH u.val.length (by omega) u.val e q rfl (by omega) hve
      have hkn:0<=fldI (zm s (k:Int)) (zt (zm s (k:Int)) u.fi).Number:=by rw [hnum];omega
      have hfld:zt (zm s (k:Int)) (fldI (zm s (k:Int)) (zt (zm s (k:Int)) u.fi).Number)=zt (zm s (k:Int)) u.fi:=by rw [hnum,hfii,hfi]
      cases hvs:(zdR (ofM s) (zm s (k:Int)) [u]).Values with
      | nil=>simp [zcU]
      | cons v l=>
       rw [hvs] at hrise hmem;obtain ⟨r1,_⟩:=yd.1 hrise;have hl:l=[]:=by
        cases l with
        | nil=>rfl
        | cons v2 l=>
         have h1:=(hmem v xt).2;have h2:=(hmem v2 (xu _ xt)).2;have:=r1 v2 xt;rw [h1,h2] at this;omega
       have hv1:=(hmem v xt).2;rw [hl,zcU,zcU,hv1];have hnn:(valO (ofM s) (zt (zm s (k:Int)) u.fi) (stp (ofM s) (zt (zm s (k:Int)) u.fi) acc0 u)).Number=(zt (zm s (k:Int)) u.fi).Number:=rfl;rw [hnn,hfld];simp only [xQ,List.flatten_nil];exact hb1
    have hap:=zGT hs _ (b.take t) (b.drop t) d k rfl hk hr hz;rw [qn] at hap;have hra:=(zhv hs _ (b.take t) d k rfl hk hr).1;have hrz:=(zhv hs _ (b.drop t) d k rfl hk hz).1;have hj:=zEz _ (ofM s k (b.drop t)) (ofM s k (b.take t)) k (xx _) hra hrz;have hzl:(b.drop t).length=b.length - t:=by simp
    have hih:=IH (b.drop t).length (by omega) (b.drop t) d k rfl hk hz;unfold zbo at hih hone|-;rw [hap];omega
theorem zMI:∀(N:Nat) (x:Msg),szM x<=N->szM x<=wgM x
 | 0,x,h=>by rw [zcR] at h;omega
 | N+1,x,h=>by
  rw [zcR] at h;have hv:∀v∈x.Values,szV v<=wgV v:=fun v hv=>by
   have h1:=zfb hv;have he:=zgr v;have:∀l:List Msg,(∀y∈l,y∈v.Subs)->szMs l<=wgMs l:=by
    intro l
    induction l with
    | nil=>intro _;rw [szMs];omega
    | cons y l ih=>
     intro hl;have hy:=hl y xt;have h2:=zfa hy;have:=zMI N y (by omega);have:=ih fun z hz=>hl z (xu _ hz)
     rw [szMs,wgMs];omega
   have:=this v.Subs fun y hy=>hy
   rw [he,zjS];omega
  have:∀l:List Vlu,(∀v∈l,v∈x.Values)->szVs l<=wgVs l:=by
   intro l
   induction l with
   | nil=>intro _;rw [szVs];omega
   | cons v l ih=>
    intro hl;have:=hv v (hl v xt);have:=ih fun z hz=>hl z (xu _ hz)
    rw [szVs,wgVs];omega
  have:=this x.Values fun v hv=>hv
  rw [zcR,zlt];omega
theorem zOR:∀(N:Nat) (x:Msg),szM x<=N->wgM x<=1048576->smM x
 | 0,x,h,_=>by rw [zcR] at h;omega
 | N+1,x,h,hw=>by
  rw [zcR] at h;rw [zlt] at hw;have hl:=zFU x.Values;have hu:=zxx (l:=x.Unknown);refine (zzE _).2 ⟨by omega,⟨by omega,fun t ht=>by have:=zst ht;omega⟩,zoQ.2 fun v hv=>?_⟩;have h1:=zfb hv;have h2:=zrP hv;rw [zgr] at h1;rw [zjS] at h2;have ht:=zxx (l:=v.Texts);have hs:=zzY v.Subs;refine (zzF _).2 ⟨by omega,⟨by omega,fun t ht=>by have:=zst ht;omega⟩,by omega,zoP.2 fun y hy=>?_⟩;have h3:=zfa hy;have h4:=zli hy;exact zOR N y (by omega) (by omega)
theorem zve:∀(l m:List Vlu),wgVs (l++m)=wgVs l+wgVs m
 | [],m=>by rw [xH,wgVs];omega
 | v::l,m=>by rw [yn,wgVs,wgVs,zve l m];omega
theorem zFT:∀(l m:List Msg),wgMs (l++m)=wgMs l+wgMs m
 | [],m=>by rw [xH,wgMs];omega
 | v::l,m=>by rw [yn,wgMs,wgMs,zFT l m];omega
def wgO:Option Vlu->Nat
 | none=>0
 | some u=>wgV u
theorem zLS (v:Vlu):∀(d:Bool) (l:List Vlu),zel l->wgVs (putL v d l)+wgO (look l v.Number)<=wgVs l+(if d=true then 0 else wgV v)
 | d,[],_=>by
  rw [putL];cases d
  ·show wgVs [v]+0<=_;simp [wgVs]
  ·show wgVs []+0<=_;simp
 | d,u::l,h=>by
  obtain ⟨h1,h2⟩:=yd.1 h;have ih:=zLS v (d|| decide (v.Number<=u.Number)) l h2;rw [putL,zve,zve,zdk,wgVs];by_cases he:u.Number=v.Number
  ·rw [xr he,xr he];have hn:look l v.Number=none:=zsd fun x hx=>by have:=h1 x hx;omega
   rw [hn] at ih;have hle:decide (v.Number<=u.Number)=true:=by simp;omega
   rw [hle,pp,xr rfl] at ih;simp only [wgO,wgVs,hle,pp] at ih|-;cases d
   ·rw [xr ⟨rfl,by omega⟩,wgVs,wgVs];simp;omega
   ·rw [xq (by simp),wgVs];simp;omega
  ·rw [xq he,xq he,wgVs,wgVs];cases d
   ·by_cases hv:v.Number<=u.Number
    ·rw [xr ⟨rfl,hv⟩,wgVs,wgVs];simp only [hv,decide_true,pp,yu,qj,yp] at ih|-;omega
    ·rw [xq (fun hh=>hv hh.2),wgVs];simp only [hv,decide_false,pw,qj,yp] at ih|-;omega
   ·rw [xq (by simp),wgVs];simp only [Bool.true_or,yu] at ih|-;omega
theorem zBf :∀(l acc:List Vlu),zel l->zel acc->(∀v∈l,look acc v.Number=look a.Values v.Number)->(∀v∈l,wgV (zhl s v (look a.Values v.Number) (zt m (fldI m v.Number)))<=wgV v+wgO (look a.Values v.Number))->wgVs (ziq s l a m acc)<=wgVs acc+wgVs l
 | [],acc,_,_,_,_=>by rw [ziq];omega
 | v::l,acc,hl,ha,he,hw=>by
  obtain ⟨l1,l2⟩:=yd.1 hl;have hv:=he v xt;have hwv:=hw v xt;have hn:=zvD s v (look a.Values v.Number) (zt m (fldI m v.Number));rw [ziq]
  generalize zhl s v (look a.Values v.Number) (zt m (fldI m v.Number))=v' at hn hwv|-
  have hp:=zLS v' (decide (zas v'=0)) acc ha;have ih:=zBf (s:=s) (a:=a) (m:=m) l (putM ⟨acc,[]⟩ v').Values l2 (znw ha) (fun u hu=>by
   show look (putL v' _ acc) u.Number=_;have:=l1 u hu;rw [zur ha,xq (by omega)];exact he u (xu _ hu)) (fun u hu=>hw u (xu _ hu))
  have hq:wgVs (putM ⟨acc,[]⟩ v').Values=wgVs (putL v' (decide (zas v'=0)) acc):=rfl;rw [hn,hv] at hp;rw [wgVs];split at hp<;>omega
theorem zIf :∀(N:Nat) (b a:Msg) (k:Int),szM b<=N->zay s a k=true->zay s b k=true->wgM (zkX s b a k)<=wgM a+wgM b
 | 0,b,a,k,h,_,_=>by rw [zcR] at h;omega
 | N+1,b,a,k,kG,ha,hb=>by
  obtain ⟨_,_,ra,ha',_⟩:=zaY ha;obtain ⟨_,_,rb,hb',_⟩:=zaY hb;rw [zcR] at kG;have:=zBf (s:=s) (a:=a) (m:=zm s k) b.Values a.Values rb ra (fun _ _=>rfl) fun v hv=>by
   rw [ziw];cases hla:look a.Values v.Number with
   | none=>simp only [wgO];omega
   | some u=>
    obtain ⟨hun,hum⟩:=zfj hla;have hve:=zjS v;have hue:=zjS u;simp only [wgO];split
    ·rw [zjS];simp only [xz,qi,List.sum_append,zFT];omega
    ·split
     ·rename_i hrep kq;have ov:=zdI (hb' v hv).2;have ou:=zdI (ha' u hum).2;rw [hun] at ou;have hsv:=zfb hv;rw [zgr] at hsv;rw [zjS];simp only [yv,yL,List.sum_nil];cases hvs:v.Subs with
      | nil=>rw [zln,wgMs];omega
      | cons y ys=>
       cases hus:u.Subs with
       | nil=>rw [zln,wgMs];omega
       | cons z zs=>
        rw [zln];have hy:y∈v.Subs:=by rw [hvs];exact xt
        have hz:z∈u.Subs:=by rw [hus];exact xt
        have hsy:=zfa hy;have hj:=zIf N y z _ (by omega) (ou.subs z hz).2 (ov.subs y hy).2;have w1:=zli hy;have w2:=zli hz;rw [wgMs,wgMs];omega
     ·omega
  rw [zmp,zlt,zlt,zlt];simp only [qi,List.sum_append];omega
theorem zID :∀(N:Nat) (x:Msg) (k:Int) (w:List zal) (keep:Bool),szM x<=N->wgM (zuA s x k w keep)<=wgM x
 | 0,x,k,w,keep,h=>by rw [zcR] at h;omega
 | N+1,x,k,w,keep,kG=>by
  rw [zcR] at kG;have key:∀v∈x.Values,∀f:Fld,wgVs (zzd s v f w keep)<=wgV v:=fun v hv f=>by
   have hsv:=zfb hv;rw [zgr] at hsv;have hve:=zjS v;rw [zuB];split
   ·cases hs:v.Subs with
    | nil=>
     rw [zrl,wgVs,wgVs,zjS];simp only [yv,yL,List.sum_nil];rw [wgMs];omega
    | cons y ys=>
     have hy:y∈v.Subs:=by rw [hs];exact xt
     have hsy:=zfa hy;have hwy:=zli hy;have:=zID (s:=s) N y f.Of (zoh w v.Number) keep (by omega);rw [zrl,wgVs,wgVs,zjS];simp only [yv,yL,List.sum_nil];rw [wgMs,wgMs];omega
   ·split
    ·rw [wgVs,wgVs];omega
    ·rw [wgVs];omega
  have all:∀l:List Vlu,(∀v∈l,v∈x.Values)->wgVs (zjD s l (zm s k) w keep)<=wgVs l:=by
   intro l
   induction l with
   | nil=>intro _;rw [zjD];exact xx _
   | cons v l ih=>
    intro h;have i2:=ih fun u hu=>h u (xu _ hu)
    have k2:=key v (h v xt) (zt (zm s k) (fldI (zm s k) v.Number));rw [zjD,zve,wgVs];omega
  have:=all x.Values fun v hv=>hv
  rw [zzb,zlt,zlt];simp only;cases keep<;>simp<;>omega
theorem zGh (s:List Mes) (root d:Int):argS s root d=0\/argS s root d=2\/argS s root d=9:=by
 unfold argS;split
 ·omega
 ·split<;>omega
theorem zCo (s:List Mes) (root:Int) (b:List UInt8) (d:Int):0<=(zaE s root b d).2/\(zaE s root b d).2<=9:=by
 unfold zaE;by_cases h:argS s root d=0
 ·rw [xq (by simpa using h)];cases hf:zH s d.toNat root b with
  | none=>simp
  | some p=>
   have:=zkl s d.toNat root b p.1 p.2 hf;simp only [pl];omega
 ·rw [xr h];rcases zGh s root d with h| h| h<;>rw [h]<;>simp
structure V18 (s:List Mes) (d k:Nat) (b:List UInt8):Prop where
 bd:bdM (ofM s k b)
 sm:smM (ofM s k b)
 right:zay s (ofM s k b) k=true
 depth:dM (ofM s k b)<=d
 wg:wgM (ofM s k b)<=2*b.length+1
 sz:szM (ofM s k b)<=2*b.length+1
 valid:zH s d k (zbo s k b)=none
 means:ofM s k (zbo s k b)=ofM s k b
 twice:(zbo s k b).length<=2*b.length
 stays:zbo s k (zbo s k b)=zbo s k b
theorem zQf {s:List Mes} (hs:zca s) {d k:Nat} (hk:k<s.length) {b:List UInt8} (hb:b.length<=14000) (h:zH s d k b=none):V18 s d k b:=by
 obtain ⟨p1,p2⟩:=zLH hs _ b k rfl (by omega) hk;obtain ⟨p3,p4⟩:=zhv hs _ b d k rfl hk h;have p5:=zLI s _ b k rfl;have p6:=zMI _ (ofM s k b) (xx _);obtain ⟨p7,p8⟩:=zwj hs _ (ofM s k b) k d (xx _) p1 (by omega) p3 p4;exact ⟨p1,p2,p3,p4,p5,by omega,p7,p8,zpr hs _ b d k rfl hk h,by unfold zbo at*;rw [p8]⟩
def zxh (s:List Mes) (root:Int) (b:List UInt8) (d:Int):List UInt8×Int:=if (zaE s root b d).2≠0 then ([],(zaE s root b d).2) else (zbo s root b,0)
theorem zqM {s:List Mes} {root:Int} {b:List UInt8} {d:Int} (h:(zaE s root b d).2≠0):zxh s root b d=([],(zaE s root b d).2):=xr h
theorem ztk {s:List Mes} {root:Int} {b:List UInt8} {d:Int} (h:(zaE s root b d).2=0):zxh s root b d=(zbo s root b,0):=xq (fun g=>g h)
def zua (s:List Mes) (root:Int) (b:List UInt8) (d:Int):Int×Int:=if (zaE s root b d).2≠0 then (0,(zaE s root b d).2) else (zpp b (zbo s root b),0)
def ztY (s:List Mes) (root:Int) (b:List UInt8) (d n:Int):List UInt8×Int:=if (zaE s root b d).2≠0 then ([],(zaE s root b d).2) else (zhH (zbo s root b) n,0)
theorem zBH (hg:∀v u,g v=some u->u.Number=v.Number):∀{l:List Vlu},zel l->zel (l.filterMap g)
 | [],_=> .nil
 | v::l,h=>by
  obtain ⟨h1,h2⟩:=yd.1 h;have ih:=zBH hg h2;cases e:g v with
  | none=>rw [List.filterMap_cons_none e];exact ih
  | some u=>
   rw [List.filterMap_cons_some e];refine yd.2 ⟨fun w hw=>?_,ih⟩;obtain ⟨w',hw',e'⟩:=List.mem_filterMap.1 hw;rw [hg _ _ e,hg _ _ e'];exact h1 w' hw'
def goB (m:Mes) (w:List zal) (v:Vlu):Bool:= !zpL w v.Number&&decide (zoh w v.Number≠[])&&decide ((zt m (fldI m v.Number)).Kind=17)&& !(zt m (fldI m v.Number)).Repeated
theorem zCC :goB m w v=true↔zpL w v.Number=false/\zoh w v.Number≠[]/\(zt m (fldI m v.Number)).Kind=17/\(zt m (fldI m v.Number)).Repeated=false:=by
 unfold goB;simp only [xw,xZ,xT,and_assoc]
def inV (s:List Mes) (m:Mes) (w:List zal) (keep:Bool) (v:Vlu):Vlu:=⟨v.Number,[],[],zrl s v.Subs (zt m (fldI m v.Number)).Of (zoh w v.Number) keep⟩
def zzc (s:List Mes) (m:Mes) (w:List zal) (keep:Bool) (v:Vlu):Option Vlu:=if goB m w v=true then some (inV s m w keep v) else if zpL w v.Number=keep then some v else none
theorem zBv (v u:Vlu) (h:zzc s m w keep v=some u):u.Number=v.Number:=by
 unfold zzc at h;split at h
 ·cases h;rfl
 ·split at h
  ·cases h;rfl
  ·cases h
theorem zBw (s:List Mes) (m:Mes) (w:List zal) (keep:Bool):∀l:List Vlu,zjD s l m w keep=l.filterMap (zzc s m w keep)
 | []=>by rw [zjD];rfl
 | v::l=>by
  rw [zjD,zBw s m w keep l,zuB];by_cases hg:goB m w v=true
  ·rw [xr (zCC.1 hg),List.filterMap_cons_some (b:=inV s m w keep v) (by unfold zzc;rw [xr hg])];rfl
  ·rw [xq (fun h=>hg (zCC.2 h))];by_cases hk:zpL w v.Number=keep
   ·rw [xr hk,List.filterMap_cons_some (b:=v) (by unfold zzc;rw [xq hg,xr hk])];rfl
   ·rw [xq hk,List.filterMap_cons_none (by unfold zzc;rw [xq hg,xq hk])];rfl
theorem zNi (hg:goB m w v=true) (hf:zhK s v (zt m (fldI m v.Number))):∃y,v=⟨v.Number,[],[],[y]⟩/\zay s y (zt m (fldI m v.Number)).Of=true/\∀keep,inV s m w keep v=⟨v.Number,[],[],[zuA s y (zt m (fldI m v.Number)).Of (zoh w v.Number) keep]⟩:=by
 obtain ⟨_,_,h3,h4⟩:=zCC.1 hg;obtain ⟨y,e,hy⟩:=hf.msg h3 h4;have hs:v.Subs=[y]:=by rw [e]
 refine ⟨y,e,hy,fun keep=>?_⟩;unfold inV;rw [hs,zrl]
theorem zKP (hf:zhK s ⟨n,[],[],[y]⟩ f) (hz:zay s z f.Of=true):zhK s ⟨k,[],[],[z]⟩ f:=
 ⟨by simp [zas],(fun _=>by simp [zas]),hf.kind,(fun w hw=>nomatch hw),(fun w hw=>nomatch hw),fun w hw=>by rw [xY.1 hw];exact ⟨(hf.subs y xt).1,hz⟩⟩
theorem zPZ (hv:v∈x.Values) (e:v=⟨v.Number,[],[],[y]⟩):szM y<szM x:=by
 have s1:=zfb hv;rw [zgr] at s1;have hs:v.Subs=[y]:=by rw [e]
 have s2:szM y<=szMs v.Subs:=zfa (by rw [hs];exact xt);rw [zcR x];omega
theorem zwy :∀(N:Nat) (x:Msg) (k:Int) (w:List zal) (keep:Bool),szM x<=N->zay s x k=true->zay s (zuA s x k w keep) k=true
 | 0,x,k,w,keep,h,_=>by rw [zcR] at h;omega
 | N+1,x,k,w,keep,kG,hx=>by
  obtain ⟨k0,k1,rx,hx',ux⟩:=zaY hx;rw [zzb,zBw];refine zBG k0 k1 (zBH zBv rx) (fun v hv=>?_) fun u hu=>?_
  ·obtain ⟨v0,hv0,e⟩:=List.mem_filterMap.1 hv;obtain ⟨w0,wf⟩:=hx' v0 hv0;have hn:=zBv _ _ e;unfold zzc at e;by_cases hg:goB (zm s k) w v0=true
   ·rw [xr hg] at e;have hf:=zdI wf;obtain ⟨y,e1,hy,hin⟩:=zNi hg hf;rw [hin] at e;have hsy:=zPZ hv0 e1;rw [hn];refine ⟨w0,zHT ?_⟩;rw [<-qO e];rw [e1] at hf;exact zKP hf (zwy N y _ _ _ (by omega) hy)
   ·rw [xq hg] at e;by_cases hk:zpL w v0.Number=keep
    ·rw [xr hk] at e;rw [<-qO e];exact ⟨w0,wf⟩
    ·rw [xq hk] at e;cases e
  ·cases keep with
   | true=>exact absurd hu (by simp)
   | false=>exact ux u hu
theorem zyA (s:List Mes) (a:Msg) (m:Mes):∀(l acc:List Vlu),(ziq s l a m acc).length<=acc.length+l.length
 | [],acc=>by rw [ziq];simp
 | v::l,acc=>by
  rw [ziq];have h1:=zyA s a m l (putM ⟨acc,[]⟩ (zhl s v (look a.Values v.Number) (zt m (fldI m v.Number)))).Values;have h2:=zLQ acc [] (zhl s v (look a.Values v.Number) (zt m (fldI m v.Number)));simp only [yk];omega
theorem zIe :∀(N:Nat) (b a:Msg) (k:Int),szM b<=N->zay s a k=true->zay s b k=true->bdM a->bdM b->smM a->smM b->bdM (zkX s b a k)
 | 0,b,a,k,h,_,_,_,_,_,_=>by rw [zcR] at h;omega
 | N+1,b,a,k,kG,ha,hb,ba,bb,sa,sb'=>by
  obtain ⟨_,_,ra,ha',_⟩:=zaY ha;obtain ⟨_,_,rb,hb',_⟩:=zaY hb;obtain ⟨j1,j2⟩:=zvH ha hb;obtain ⟨a1,⟨a2,a3⟩,a4⟩:=(zlk a).1 ba;obtain ⟨b1,⟨b2,b3⟩,b4⟩:=(zlk b).1 bb;obtain ⟨sa1,⟨sa2,sa3⟩,sa4⟩:=(zzE a).1 sa;obtain ⟨sb1,⟨sb2,sb3⟩,sb4⟩:=(zzE b).1 sb';rw [zcR] at kG;have ku:(zkX s b a k).Values.length<=a.Values.length+b.Values.length:=by rw [zmp];exact zyA s a _ _ _
  have hun:(zkX s b a k).Unknown=a.Unknown++b.Unknown:=by rw [zmp]
  refine (zlk _).2 ⟨by omega,⟨by rw [hun];simp;omega,fun t ht=>by
   rw [hun] at ht;rcases xF.1 ht with h| h
   ·exact a3 t h
   ·exact b3 t h⟩,zfo.2 fun x hx=>?_⟩
  have hl:=zyG j1 hx;rw [j2] at hl;cases hlb:look b.Values x.Number with
  | none=>rw [hlb] at hl;exact zfo.1 a4 x (zfj hl).2
  | some v=>
   rw [hlb] at hl;have e:x=zhl s v (look a.Values x.Number) (zt (zm s k) (fldI (zm s k) x.Number)):=(qO hl).symm;obtain ⟨hvn,hvm⟩:=zfj hlb;have bv:=zfo.1 b4 v hvm;have sv:=zoQ.1 sb4 v hvm;rw [e,ziw];cases hla:look a.Values x.Number with
   | none=>exact bv
   | some u=>
    obtain ⟨hun',hum⟩:=zfj hla;have bu:=zfo.1 a4 u hum;have su:=zoQ.1 sa4 u hum;obtain ⟨v1,⟨v2,v3⟩,⟨v4,v5⟩,v6,v7⟩:=(ziK v).1 bv;obtain ⟨u1,⟨u2,u3⟩,⟨u4,u5⟩,u6,u7⟩:=(ziK u).1 bu;obtain ⟨q1,⟨q2,q3⟩,q4,q5⟩:=(zzF v).1 sv;obtain ⟨r1,⟨r2,r3⟩,r4,r5⟩:=(zzF u).1 su;simp only;split
    ·refine (ziK _).2 ⟨v1,⟨by simp;omega,fun w hw=>?_⟩,⟨by simp;omega,fun w hw=>?_⟩,by simp;omega,zfn.2 fun w hw=>?_⟩
     ·rcases xF.1 hw with h| h
      ·exact u3 w h
      ·exact v3 w h
     ·rcases xF.1 hw with h| h
      ·exact u5 w h
      ·exact v5 w h
     ·rcases xF.1 hw with h| h
      ·exact zfn.1 u7 w h
      ·exact zfn.1 v7 w h
    ·split
     ·rename_i hrep kq;have fv:=hb' v hvm;have fu:=ha' u hum;rw [hvn] at fv;rw [hun'] at fu;have ov:=zdI fv.2;have ou:=zdI fu.2;refine (ziK _).2 ⟨v1,⟨by simp,by simp⟩,⟨by simp,by simp⟩,?_⟩;cases hvs:v.Subs with
      | nil=>rw [zln];exact ⟨by simp,by rw [bdMs];trivial⟩
      | cons y ys=>
       cases hus:u.Subs with
       | nil=>rw [zln];exact ⟨by simp,by rw [bdMs];trivial⟩
       | cons z zs=>
        rw [zln];simp only;have hy:y∈v.Subs:=by rw [hvs];exact xt
        have hz:z∈u.Subs:=by rw [hus];exact xt
        have hsv:=zfb hvm;rw [zgr] at hsv;have hsy:=zfa hy;have hj:=zIe N y z _ (by omega) (ou.subs z hz).2 (ov.subs y hy).2 (zfn.1 u7 z hz) (zfn.1 v7 y hy) (zoP.1 r5 z hz) (zoP.1 q5 y hy);exact ⟨by simp,by rw [bdMs,bdMs];exact ⟨hj,trivial⟩⟩
     ·exact bv
theorem zwJ:∀(l m:List Vlu),szVs (l++m)=szVs l+szVs m
 | [],m=>by rw [xH,szVs];omega
 | v::l,m=>by rw [yn,szVs,szVs,zwJ l m];omega
theorem zIC :∀(N:Nat) (x:Msg) (k:Int) (w:List zal) (keep:Bool),szM x<=N->bdM x->bdM (zuA s x k w keep)/\szM (zuA s x k w keep)<=szM x
 | 0,x,k,w,keep,h,_=>by rw [zcR] at h;omega
 | N+1,x,k,w,keep,kG,hb=>by
  obtain ⟨b1,⟨b2,b3⟩,b4⟩:=(zlk x).1 hb;rw [zcR] at kG;have key:∀v∈x.Values,∀f:Fld,(∀u∈zzd s v f w keep,bdV u)/\szVs (zzd s v f w keep)<=szV v:=fun v hv f=>by
   have bv:=zfo.1 b4 v hv;obtain ⟨v1,v2,v3,v6,v7⟩:=(ziK v).1 bv;have hsv:=zfb hv;have hve:=zgr v;rw [zuB];split
   ·cases hs:v.Subs with
    | nil=>
     rw [zrl];refine ⟨fun u hu=>?_,?_⟩
     ·rw [xY.1 hu];exact (ziK _).2 ⟨v1,⟨by simp,by simp⟩,⟨by simp,by simp⟩,by simp,by rw [bdMs];trivial⟩
     ·rw [szVs,szVs,zgr];simp only;rw [szMs];omega
    | cons y ys=>
     have hy:y∈v.Subs:=by rw [hs];exact xt
     have hsy:=zfa hy;obtain ⟨p1,p2⟩:=zIC N y f.Of (zoh w v.Number) keep (by omega) (zfn.1 v7 y hy);rw [zrl];refine ⟨fun u hu=>?_,?_⟩
     ·rw [xY.1 hu];exact (ziK _).2 ⟨v1,⟨by simp,by simp⟩,⟨by simp,by simp⟩,by simp,by rw [bdMs,bdMs];exact ⟨p1,trivial⟩⟩
     ·rw [szVs,szVs,zgr];simp only;rw [szMs,szMs];omega
   ·split
    ·refine ⟨(fun u hu=>by rw [xY.1 hu];exact bv),?_⟩;rw [szVs,szVs];omega
    ·exact ⟨(fun u hu=>by cases hu),(by rw [szVs];omega)⟩
  have all:∀l:List Vlu,(∀v∈l,v∈x.Values)->(∀u∈zjD s l (zm s k) w keep,bdV u)/\szVs (zjD s l (zm s k) w keep)<=szVs l/\(zjD s l (zm s k) w keep).length<=l.length:=by
   intro l
   induction l with
   | nil=>intro _;rw [zjD];exact ⟨(fun u hu=>by cases hu),xx _,xx _⟩
   | cons v l ih=>
    intro h;obtain ⟨i1,i2,i3⟩:=ih fun u hu=>h u (xu _ hu)
    obtain ⟨k1,k2⟩:=key v (h v xt) (zt (zm s k) (fldI (zm s k) v.Number));have k3:=zJM s v (zt (zm s k) (fldI (zm s k) v.Number)) w keep;rw [zjD];refine ⟨fun u hu=>?_,?_,?_⟩
    ·rcases xF.1 hu with hu| hu
     ·exact k1 u hu
     ·exact i1 u hu
    ·rw [zwJ,szVs];omega
    ·rw [xz,yk];omega
  obtain ⟨a1,a2,a3⟩:=all x.Values fun v hv=>hv
  rw [zzb];refine ⟨(zlk _).2 ⟨by simp only;omega,⟨?_,?_⟩,zfo.2 a1⟩,by rw [zcR,zcR];simp only;omega⟩
  ·simp only;cases keep<;>simp<;>omega
  ·simp only;cases keep with
   | true=>intro t ht;cases ht
   | false=>exact b3
structure Gd (s:List Mes) (root:Int) (n:Nat) (x:Msg):Prop where
 r:zay s x root=true
 b:bdM x
 w:wgM x<=n
theorem Gd.s {s:List Mes} {root:Int} {n:Nat} {x:Msg} (h:Gd s root n x) (hn:n<=1048576):smM x:=zOR _ x (xx _) (yg h.w hn)
theorem Gd.z {s:List Mes} {root:Int} {n fuel:Nat} {x:Msg} (h:Gd s root n x) (hn:n<fuel):szM x<fuel:=Nat.lt_of_le_of_lt (yg (zMI _ x (xx _)) h.w) hn
theorem Gd.join {s:List Mes} {root:Int} {n m:Nat} {a b:Msg} (ha:Gd s root n a) (hb:Gd s root m b) (hn:n<=1048576) (hm:m<=1048576):Gd s root (n+m) (zkX s b a root):=
 ⟨zwq _ b a root (xx _) ha.r hb.r,zIe _ b a root (xx _) ha.r hb.r ha.b hb.b (ha.s hn) (hb.s hm),yg (zIf _ b a root (xx _) ha.r hb.r) (Nat.add_le_add ha.w hb.w)⟩
theorem Gd.part {s:List Mes} {root:Int} {n:Nat} {a:Msg} (ha:Gd s root n a) (w:List zal) (keep:Bool):Gd s root n (zuA s a root w keep):=
 ⟨zwy _ a root w keep (xx _) ha.r,(zIC _ a root w keep (xx _) ha.b).1,yg (zID _ a root w keep (xx _)) ha.w⟩
theorem zCp (h:(zaE s root b d).2=0):argS s root d=0:=by
 unfold zaE at h;by_cases h0:argS s root d=0
 ·exact h0
 ·rw [xr h0] at h;exact h
theorem znl {s:List Mes} {d:Nat} {k:Int} {b:List UInt8} (h:zH s d k b=none):zai (zm s k) b=((spl 0 b).1.map (fun r=>⟨r,(vwG (zm s k) r).1,(vwG (zm s k) r).2⟩),0,0):=by
 rw [zej,zbX] at h;unfold zai;rw [h.2,zHB fun r hr=>zDs (h.1 r hr)];rfl
theorem zAj {s:List Mes} {root:Int} {b:List UInt8} {d:Int} (h:(zaE s root b d).2=0):argS s root d=0/\zH s d.toNat root b=none:=zEq.1 (by unfold is11;simpa using h)
theorem zAi (s:List Mes) (root:Int) (b:List UInt8) (d:Int):0<=(zaE s root b d).2/\(zaE s root b d).2<=255:=by
 have:=zCo s root b d;omega
theorem zOy:∀n:Nat,(∀x:Msg,szM x<=n->dM x<szM x)/\(∀l:List Msg,szMs l<=n->dMs l<=szMs l)/\(∀v:Vlu,szV v<=n->dV v<szV v)/\∀l:List Vlu,szVs l<=n->dVs l<=szVs l
 | 0=>⟨fun x h=>by rw [zcR] at h;omega,fun l h=>by
   cases l with
   | nil=>simp [dMs]
   | cons x l=>rw [szMs,zcR] at h;omega,fun v h=>by rw [zgr] at h;omega,fun l h=>by
   cases l with
   | nil=>simp [dVs]
   | cons x l=>rw [szVs,zgr] at h;omega⟩
 | n+1=>by
  obtain ⟨i1,i2,i3,i4⟩:=zOy n;have h2:∀l:List Msg,szMs l<=n->dMs l<=szMs l:=i2;have h4:∀l:List Vlu,szVs l<=n->dVs l<=szVs l:=i4;have k1:∀x:Msg,szM x<=n+1->dM x<szM x:=fun x h=>by rw [zcR] at h|-;rw [zHN];have:=h4 x.Values (by omega);omega
  have k3:∀v:Vlu,szV v<=n+1->dV v<szV v:=fun v h=>by rw [zgr] at h|-;rw [zDY];have:=h2 v.Subs (by omega);omega
  refine ⟨k1,fun l=>?_,k3,fun l=>?_⟩
  ·induction l with
   | nil=>intro _;simp [dMs]
   | cons x l ih=>intro h;rw [szMs] at h|-;rw [dMs];have:=ih (by omega);have:=k1 x (by omega);omega
  ·induction l with
   | nil=>intro _;simp [dVs]
   | cons x l ih=>intro h;rw [szVs] at h|-;rw [dVs];have:=ih (by omega);have:=k3 x (by omega);omega
theorem zQv (x:Msg):dM x<szM x:=(zOy (szM x)).1 x (xx _)
theorem zIT:∀(fuel:Nat) (x:Msg) (kK:Nat),szM x<fuel->bdM x->dM x<=kK->kK<=1048576->zhi fuel x kK=some ((dM x:Nat):Int)
 | 0,x,_,h,_,_,_=>by omega
 | fuel+1,x,kK,hs,hb,hd,hm=>by
  obtain ⟨b1,_,b4⟩:=(zlk x).1 hb;rw [zcR] at hs;rw [zHN] at hd|-;show zpJ (zhi fuel) x kK=_;unfold zpJ;have inner:∀(v:Vlu),v∈x.Values->∀(c i d:Nat),i+c=v.Subs.length->d<=kK->zhz kK (zhi fuel) v d i=some (.inl ((max d (dMs (v.Subs.drop i)):Nat):Int)):=by
   intro v hv c;have kG:=zfb hv;have hdv:=zxc hv;obtain ⟨_,_,_,c1,c2⟩:=(ziK _).1 (zfo.1 b4 _ hv);rw [zgr] at kG;rw [zDY] at hdv
   induction c with
   | zero=>
    intro i d hi hdm;have e:v.Subs.drop i=[]:=yo (by omega);rw [e,dMs];refine zuW ?_;unfold ziD;rw [uW,Nat.max_zero]
   | succ c ih=>
    intro i d hi hdm;have hil:i<v.Subs.length:=by omega
    have hm2:=xB hil;have s2:=zfa hm2;have d2:=zCv hm2;rw [yf hil,dMs];have hr:=zIT fuel v.Subs[i] (kK - 1) (by omega) (zfn.1 c2 _ hm2) (by omega) (by omega);have hmost:i64.wrap ((kK:Int) - 1)=((kK - 1:Nat):Int):=by rw [uX];omega
    have hw:i64.wrap (1+((dM v.Subs[i]:Nat):Int))=1+((dM v.Subs[i]:Nat):Int):=by rw [uX]
    have hmax:(if (d:Int)<1+((dM v.Subs[i]:Nat):Int) then 1+((dM v.Subs[i]:Nat):Int) else (d:Int))=((max d (1+dM v.Subs[i]):Nat):Int):=by
     split<;>omega
    refine (zuV (deep3':=((max d (1+dM v.Subs[i]):Nat):Int)) (v3':=((i+1:Nat):Int)) ?_).trans ?_
    ·unfold ziD;rw [uV,zP rfl hil,sb,uW,hmost,hr,sb,hw,hmax,uW,uX];push_cast;rfl
    ·rw [ih (i+1) (max d (1+dM v.Subs[i])) (by omega) (by omega)];congr 3;omega
  have outer:∀(c i d:Nat),i+c=x.Values.length->d<=kK->zhy kK (zhi fuel) x d i=some (.inl ((max d (dVs (x.Values.drop i)):Nat):Int)):=by
   intro c
   induction c with
   | zero=>
    intro i d hi hdm;have e:x.Values.drop i=[]:=yo (by omega);rw [e,dVs];refine zuU ?_;unfold ziC;rw [uW,Nat.max_zero]
   | succ c ih=>
    intro i d hi hdm;have hil:i<x.Values.length:=by omega
    have hmem:=xB hil;have hdv:=zxc hmem;rw [yf hil,dVs];have h2:=inner x.Values[i] hmem (x.Values[i]).Subs.length 0 d (xK _) hdm;rw [yc,<-zDY] at h2;have h2':zhz kK (zhi fuel) x.Values[i] d 0=_:=h2;refine (zuT (deep':=((max d (dV x.Values[i]):Nat):Int)) (v':=((i+1:Nat):Int)) ?_).trans ?_
    ·unfold ziC;rw [uV,zP rfl hil,sb,h2',sb,uX];push_cast;rfl
    ·rw [ih (i+1) (max d (dV x.Values[i])) (by omega) (by omega)];congr 3;omega
  have h:=outer x.Values.length 0 0 (xK _) (xC _);have h':zhy kK (zhi fuel) x 0 0=_:=h;rw [h',sb,yc,Nat.zero_max]
theorem zKf (hf:szM x<fuel) (hb:bdM x) (hd:dM x<=131072):ztD fuel x=some ((dM x:Nat):Int):=by
 unfold ztD;have h:=zIT fuel x 131072 hf hb hd (by omega);have h':zhi fuel x 131072=_:=h;rw [h',sb]
theorem zFF (hf:szM x<fuel) (hb:bdM x) (hd:dM x<=131072):zsu fuel x=some true:=by
 unfold zsu;rw [zKf hf hb hd,sb];congr 1;simp;omega
section
open Classical
end
theorem zGt (h:a.length*80<=140737488355328):zct a=some a:=by
 unfold zct;rw [zaQ (by simp;omega),sb,xH]
theorem zGs (h:a.length*48<=140737488355328):zds a=some a:=by
 unfold zds;rw [zaQ (by simp;omega),sb,xH]
theorem zAP (h:a.length*16<=140737488355328):zcE a=some a:=by
 unfold zcE;rw [zaQ (by simp;omega),sb,xH]
theorem zJh (h:a.length*8<=140737488355328):zeC a=some a:=by
 unfold zeC;rw [zaQ (by simp;omega),sb,xH]
theorem zzB {α:Type}:∀(l:List α) (i:Nat) (h:i<l.length),l.set i l[i]=l
 | [],i,h=>by simp at h
 | x::l,0,h=>rfl
 | x::l,i+1,h=>by simp only [List.set_cons_succ,uJ];rw [zzB l i (by simpa using h)]
theorem zIS:∀(fuel:Nat),(∀x:Msg,szM x<fuel->bdM x->zjj fuel x=some x)/\∀v:Vlu,szV v<fuel->bdV v->zgM fuel v=some v
 | 0=>⟨fun x h=>by omega,fun v h=>by omega⟩
 | fuel+1=>by
  obtain ⟨ih1,ih2⟩:=zIS fuel;refine ⟨fun x hs hb=>?_,fun v hs hb=>?_⟩
  ·obtain ⟨b1,⟨b2,b3⟩,b4⟩:=(zlk x).1 hb;rw [zcR] at hs;show zog (zjj fuel) (zgM fuel) x=_;unfold zog;have hloop:∀(c i:Nat),i+c=x.Values.length->zgN (zgM fuel) x.Values x.Values i=some x.Values:=by
    intro c
    induction c with
    | zero=>
     intro i hi;refine ztG ?_;unfold zhW;rw [uW]
    | succ c ih=>
     intro i hi;have hil:i<x.Values.length:=by omega
     have hm:=xB hil;have:=zfb hm;refine (ztF (v':=x.Values) (v2':=((i+1:Nat):Int)) ?_).trans (ih (i+1) (by omega));unfold zhW;rw [uV,zP rfl hil,sb,ih2 _ (by omega) (zfo.1 b4 _ hm),sb,sb,uX,xD,zzB _ _ hil];push_cast;rfl
   have h:=hloop x.Values.length 0 (xK _);have h':zgN (zgM fuel) x.Values x.Values 0=_:=h;rw [zGt (by omega),sb,zAP (by omega),sb,h',sb];cases x;rfl
  ·obtain ⟨b0,⟨b1,_⟩,⟨b2,b3⟩,b4,b5⟩:=(ziK v).1 hb;rw [zgr] at hs;show ziO (zjj fuel) (zgM fuel) v=_;unfold ziO;have hloop:∀(c i:Nat),i+c=v.Subs.length->zdL (zjj fuel) v.Subs v.Subs i=some v.Subs:=by
    intro c
    induction c with
    | zero=>
     intro i hi;refine zoU ?_;unfold zfc;rw [uW]
    | succ c ih=>
     intro i hi;have hil:i<v.Subs.length:=by omega
     have hm:=xB hil;have:=zfa hm;refine (zoT (v2':=v.Subs) (v3':=((i+1:Nat):Int)) ?_).trans (ih (i+1) (by omega));unfold zfc;rw [uV,zP rfl hil,sb,ih1 _ (by omega) (zfn.1 b5 _ hm),sb,sb,uX,xD,zzB _ _ hil];push_cast;rfl
   have h:=hloop v.Subs.length 0 (xK _);have h':zdL (zjj fuel) v.Subs v.Subs 0=_:=h;rw [zJh (by omega),sb,zAP (by omega),sb,zGs (by omega),sb,h',sb];cases v;rfl
theorem zMA (hf:szM x<fuel) (hb:bdM x) (hd:dM x<=131072):zvZ fuel x=some x:=by
 unfold zvZ;rw [zFF hf hb hd,sb,uS,(zIS fuel).1 x hf hb,sb]
theorem zNR:∀a<256,zuX ((a:Nat):Int)=some (if a<128 then (1,(a:Int)) else if a/32=6 then (2,((a%32:Nat):Int)) else if a/16=14 then (3,((a%16:Nat):Int)) else if a/8=30 then (4,((a%8:Nat):Int)) else (0,0)):=by decide+kernel
theorem zDp (w k:Nat) (h:k<=32):shrI .u32 (w:Int) (k:Int)=((w/2^k:Nat):Int):=zuQ (k:= .u32) (a:=w) (b:=k) (by simpa [IntKind.bits] using h)
theorem zxm (w:Nat):zoX (w:Int)=some (if w<128 then 1 else if w<2048 then 2 else if 55296<=w/\w<=57343 then 0 else if w<65536 then 3 else if w<=1114111 then 4 else 0):=by
 unfold zoX;have e7:shrI .u32 (w:Int) 7=((w/128:Nat):Int):=zDp w 7 (by omega);have e11:shrI .u32 (w:Int) 11=((w/2048:Nat):Int):=zDp w 11 (by omega);have e16:shrI .u32 (w:Int) 16=((w/65536:Nat):Int):=zDp w 16 (by omega);rw [e7,e11,e16];by_cases h1:w<128
 ·rw [uV,xr h1]
 ·rw [uW,xq h1];by_cases h2:w<2048
  ·rw [uV,xr h2]
  ·rw [uW,xq h2];by_cases h3:55296<=w/\w<=57343
   ·rw [uV,xr h3]
   ·rw [uW,xq h3];by_cases h4:w<65536
    ·rw [uV,xr h4]
    ·rw [uW,xq h4];by_cases h5:w<=1114111
     ·rw [uV,xr h5]
     ·rw [uW,xq h5]
theorem zJx:∀c<256,shrI .u8 ((c:Nat):Int) 6=((c/64:Nat):Int)/\u32.wrap (andI .u8 ((c:Nat):Int) 63)=((c%64:Nat):Int):=by decide+kernel
theorem zlN {v:List UInt8} {w i:Nat} (h:i<v.length) (hv:v.length<=1000) (hw:w<=1000000):
  zcF v w i=if cont v[i] then zcF v ((64*w+v[i].toNat%64:Nat):Int) ((i+1:Nat):Int) else some (.inr ()):=by
 have hc:=v[i].toNat_lt;obtain ⟨e1,e2⟩:=zJx v[i].toNat (by omega);have hb:zgQ v w i=if cont v[i] then some (.inl (((64*w+v[i].toNat%64:Nat):Int),((i+1:Nat):Int))) else some (.inr (.inr ())):=by
  unfold zgQ;rw [uV,zP rfl h,sb,e1,e2];by_cases hk:cont v[i]=true
  ·rw [xr hk];unfold cont at hk;simp only [xT] at hk;rw [uW,uX];have e3:shlI .u32 (w:Int) 6=((w*64:Nat):Int):=by
    have:shlI .u32 (w:Int) 6=((w*64%4294967296:Nat):Int):=by simp [shlI,IntKind.bits,zGa]
    rw [this,qu (by omega)]
   rw [e3,zxp rfl (by simp [IntKind.bits];omega) (by simp [IntKind.bits];omega),pT,zyX _ w 6 (by omega)];have e4:v[i].toNat%64+w*2^6=64*w+v[i].toNat%64:=by omega
   rw [e4];rfl
  ·rw [xq hk];unfold cont at hk;simp only [xT] at hk;rw [uV]
 by_cases hk:cont v[i]=true
 ·rw [xr hk] at hb|-;exact zwW hb
 ·rw [xq hk] at hb|-;exact zpS hb
theorem zum (h:v.length<=i):zcF v w i=some (.inl (w:Int)):=by
 refine zpS ?_;unfold zgQ;rw [uW]
theorem zQF {w:Nat} {b:UInt8} (hw:w<=100):zcF [b] w 0=if cont b then some (.inl ((64*w+b.toNat%64:Nat):Int)) else some (.inr ()):=by
 have h:=zlN (v:=[b]) (w:=w) (i:=0) (by simp) (by simp) (by omega);refine Eq.trans h ?_;simp only [uK];rw [zum (by simp)]
theorem zQG {w:Nat} {b c:UInt8} (hw:w<=100):zcF [b,c] w 0=if cont b then (if cont c then some (.inl ((64*(64*w+b.toNat%64)+c.toNat%64:Nat):Int)) else some (.inr ())) else some (.inr ()):=by
 have h:=zlN (v:=[b,c]) (w:=w) (i:=0) (by simp) (by simp) (by omega);refine Eq.trans h ?_;rw [zlN (i:=0+1) (by simp) (by simp) (by omega)];simp only [uK,uJ,xK];rw [zum (by simp)]
theorem zQH {w:Nat} {b c d:UInt8} (hw:w<=100):zcF [b,c,d] w 0=if cont b then (if cont c then (if cont d then some (.inl ((64*(64*(64*w+b.toNat%64)+c.toNat%64)+d.toNat%64:Nat):Int)) else some (.inr ())) else some (.inr ())) else some (.inr ()):=by
 have h:=zlN (v:=[b,c,d]) (w:=w) (i:=0) (by simp) (by simp) (by omega);refine Eq.trans h ?_;rw [zlN (i:=0+1) (by simp) (by simp) (by omega),zlN (i:=0+1+1) (by simp) (by simp) (by omega)];simp only [uK,uJ,xK];rw [zum (by simp)]
theorem zLG (n:Nat) (h:∀m,m≠n->isN m l=false):nxt l=if isN n l then n else 0:=by
 by_cases hn:isN n l=true
 ·rw [xr hn,zPF hn]
 ·rw [xq hn];by_cases h0:nxt l=0
  ·exact h0
  ·have h1:=zxo h0;by_cases h2:nxt l=n
   ·rw [h2] at h1;exact absurd h1 hn
   ·rw [h _ h2] at h1;cases h1
theorem zoF (n:Nat) (h:n=1/\a.toNat<128\/n=2/\192<=a.toNat/\a.toNat<224\/n=3/\224<=a.toNat/\a.toNat<240\/n=4/\240<=a.toNat):nxt (a::t)=if isN n (a::t) then n else 0:=by
 refine zLG n fun m hm=>?_
 cases hh:isN m (a::t) with
 | false=>rfl
 | true=>
  obtain ⟨a',t',e,_,g⟩:=zox hh;cases e;omega
theorem zIj (b:List UInt8):zoW b=some ((nxt b:Nat):Int):=by
 cases b with
 | nil=>rfl
 | cons a t=>
  have ha:=a.toNat_lt;unfold zoW;have e00:idx (a::t) (0:Int)=some a:=zP (n:=0) rfl (by simp);rw [uW,e00,sb];rw [zNR _ (by omega),sb];by_cases h1:a.toNat<128
  ·rw [zoF 1 (.inl ⟨rfl,h1⟩),xr h1];simp only;rw [uW,zgC (i:=1) (j:=1) (a:=1) (b:=1) rfl rfl (by omega) (by simp),sb];have e0:zcF (((a::t).drop 1).take (1 - 1)) (a.toNat:Int) 0=some (.inl (a.toNat:Int)):=zum (i:=0) (by simp);rw [e0,sb];simp only;rw [zxm,sb,xr h1,uS];simp [isN,is1,h1]
  ·rw [xq h1];by_cases h2:a.toNat/32=6
   ·rw [zoF 2 (.inr (.inl ⟨rfl,by omega,by omega⟩)),xr h2];simp only
    match t with
    | []=>rw [uT];rfl
    | b::t=>
     rw [uW,zgC (i:=1) (j:=2) (a:=1) (b:=2) rfl rfl (by omega) (by simp),sb];have e0:=zQF (w:=a.toNat%32) (b:=b) (by omega);have e0':zcF (((a::b::t).drop 1).take (2 - 1)) ((a.toNat%32:Nat):Int) 0=_:=e0;rw [e0'];have hb:=b.toNat_lt;by_cases c1:cont b=true
     ·rw [xr c1,sb];simp only;have hn:=zxm (64*(a.toNat%32)+b.toNat%64);simp only [isN,is2,c1,qy,xT];simp only [cont,xT] at c1;by_cases h:194<=a.toNat
      ·rw [xq (by omega),xr (by omega)] at hn;rw [hn,sb,uS,xr (by omega)];rfl
      ·rw [xr (by omega)] at hn;rw [hn,sb,uR,xq (by omega)];rfl
     ·rw [xq c1,sb];simp only;simp [isN,is2,c1]
   ·rw [xq h2];by_cases h3:a.toNat/16=14
    ·rw [zoF 3 (.inr (.inr (.inl ⟨rfl,by omega,by omega⟩))),xr h3];simp only
     match t with
     | []=>rw [uT];rfl
     | [b]=>rw [uT];rfl
     | b::c::t=>
      rw [uW,zgC (i:=1) (j:=3) (a:=1) (b:=3) rfl rfl (by omega) (by simp),sb];have e0:=zQG (w:=a.toNat%16) (b:=b) (c:=c) (by omega);have e0':zcF (((a::b::c::t).drop 1).take (3 - 1)) ((a.toNat%16:Nat):Int) 0=_:=e0;rw [e0'];have hb:=b.toNat_lt;have hc:=c.toNat_lt;by_cases c1:cont b=true
      ·rw [xr c1];by_cases c2:cont c=true
       ·rw [xr c2,sb];simp only;have hn:=zxm (64*(64*(a.toNat%16)+b.toNat%64)+c.toNat%64);simp only [isN,is3,c1,c2,qz,xT];simp only [cont,xT] at c1 c2;by_cases h:(a.toNat=224->160<=b.toNat)/\(a.toNat=237->b.toNat<160)
        ·rw [xq (by omega),xq (by omega),xq (by omega),xr (by omega)] at hn;rw [hn,sb,uS,xr (by omega)];rfl
        ·by_cases g:64*(64*(a.toNat%16)+b.toNat%64)+c.toNat%64<2048
         ·by_cases g':64*(64*(a.toNat%16)+b.toNat%64)+c.toNat%64<128
          ·rw [xr g'] at hn;rw [hn,sb,uR,xq (by omega)];rfl
          ·rw [xq g',xr g] at hn;rw [hn,sb,uR,xq (by omega)];rfl
         ·rw [xq (by omega),xq g,xr (by omega)] at hn;rw [hn,sb,uR,xq (by omega)];rfl
       ·rw [xq c2,sb];simp only;simp [isN,is3,c2]
      ·rw [xq c1,sb];simp only;simp [isN,is3,c1]
    ·rw [xq h3];by_cases h4:a.toNat/8=30
     ·rw [zoF 4 (.inr (.inr (.inr ⟨rfl,by omega⟩))),xr h4];simp only
      match t with
      | []=>rw [uT];rfl
      | [b]=>rw [uT];rfl
      | [b,c]=>rw [uT];rfl
      | b::c::d::t=>
       rw [uW,zgC (i:=1) (j:=4) (a:=1) (b:=4) rfl rfl (by omega) (by simp),sb];have e0:=zQH (w:=a.toNat%8) (b:=b) (c:=c) (d:=d) (by omega);have e0':zcF (((a::b::c::d::t).drop 1).take (4 - 1)) ((a.toNat%8:Nat):Int) 0=_:=e0;rw [e0'];have hb:=b.toNat_lt;have hc:=c.toNat_lt;have hd:=d.toNat_lt;by_cases c1:cont b=true
       ·rw [xr c1];by_cases c2:cont c=true
        ·rw [xr c2];by_cases c3:cont d=true
         ·rw [xr c3,sb];simp only;have hn:=zxm (64*(64*(64*(a.toNat%8)+b.toNat%64)+c.toNat%64)+d.toNat%64);simp only [isN,is4,c1,c2,c3,qz,xT];simp only [cont,xT] at c1 c2 c3;by_cases h:a.toNat<245/\(a.toNat=240->144<=b.toNat)/\(a.toNat=244->b.toNat<144)
          ·rw [xq (by omega),xq (by omega),xq (by omega),xq (by omega),xr (by omega)] at hn;rw [hn,sb,uS,xr (by omega)];rfl
          ·have hw:¬(65536<=64*(64*(64*(a.toNat%8)+b.toNat%64)+c.toNat%64)+d.toNat%64/\64*(64*(64*(a.toNat%8)+b.toNat%64)+c.toNat%64)+d.toNat%64<=1114111):=by omega
           generalize 64*(64*(64*(a.toNat%8)+b.toNat%64)+c.toNat%64)+d.toNat%64=w at hn hw
           have hx:∃x:Int,zoX w=some x/\x≠4:=⟨_,hn,by (repeat' split)<;>omega⟩;obtain ⟨x,hx,h4⟩:=hx;rw [hx,sb,uV,xq (by omega)];rfl
         ·rw [xq c3,sb];simp only;simp [isN,is4,c3]
        ·rw [xq c2,sb];simp only;simp [isN,is4,c2]
       ·rw [xq c1,sb];simp only;simp [isN,is4,c1]
     ·rw [xq h4,uR];by_cases h5:240<=a.toNat
      ·rw [zoF 4 (.inr (.inr (.inr ⟨rfl,h5⟩)))];cases hh:isN 4 (a::t) with
       | false=>rfl
       | true=>
        match t,hh with
        | b::c::d::t,hh=>simp only [isN,is4,xT] at hh;omega
      ·by_cases h0:nxt (a::t)=0
       ·rw [h0];rfl
       ·obtain ⟨a',t',e,_,g⟩:=zox (zxo h0);cases e;omega
theorem zKo (hb:b.length<=1152921504606846976) (l:List UInt8):∀(a c:Nat),c<=a->a<=b.length->l=b.drop a->
  zhY b a c ((nxt l:Nat):Int)=some (((a+(pre4 l).1:Nat):Int),((c+(pre4 l).2:Nat):Int)):=by
 refine zLP (fun l=>∀(a c:Nat),c<=a->a<=b.length->l=b.drop a->zhY b a c ((nxt l:Nat):Int)=some (((a+(pre4 l).1:Nat):Int),((c+(pre4 l).2:Nat):Int))) ?_ ?_ l
 ·intro l h a c hc ha hl;rw [h,zJP h];refine zwY ?_;unfold zhX;rw [uS];rfl
 ·intro l h ih a c hc ha hl;subst hl;have h4:=zCU (b.drop a);have hle:=ztq (b.drop a);simp only [xR] at hle;have e1:(b.drop a).drop (nxt (b.drop a))=b.drop (a+nxt (b.drop a)):=by rw [yb]
  refine (zwX (atv':=((a+nxt (b.drop a):Nat):Int)) (points':=((c+1:Nat):Int)) (size':=((nxt (b.drop (a+nxt (b.drop a))):Nat):Int)) ?_).trans ?_
  ·unfold zhX;rw [uV,uX,zqx (a:=a+nxt (b.drop a)) (by push_cast;rfl) rfl (by omega),sb,zIj,sb,uX];rfl
  ·rw [<-e1,ih (a+nxt (b.drop a)) (c+1) (by omega) (by omega) e1,zNW h];simp only [qW,pU 1]
theorem zMF (hb:b.length<=1152921504606846976):zrK b=some (((pre4 b).1:Int),((pre4 b).2:Int)):=by
 unfold zrK;rw [zIj,sb];have h:=zKo hb b 0 0 (xx _) (xC _) rfl;simp only [xK] at h;have h':zhY b 0 0 ((nxt b:Nat):Int)=some (((pre4 b).1:Int),((pre4 b).2:Int)):=h;rw [h',sb]
theorem zKi (hb:b.length<=1152921504606846976):zoV b=some ((pre4 b).1:Int):=by
 unfold zoV;rw [zMF hb,sb]
theorem zwa (hb:b.length<=1152921504606846976):zlV b=some (zhE b):=by
 unfold zlV zhE;rw [zKi hb,sb,ztO]
def zPD:List Str:=[[],[105,110,116,51,50],[105,110,116,54,52],[117,105,110,116,51,50],[117,105,110,116,54,52],[115,105,110,116,51,50],[115,105,110,116,54,52],[98,111,111,108],[101,110,117,109],[102,105,120,101,100,51,50],[115,102,105,120,101,100,51,50],[102,108,111,97,116],[102,105,120,101,100,54,52],[115,102,105,120,101,100,54,52],[100,111,117,98,108,101],[115,116,114,105,110,103],[98,121,116,101,115],[109,101,115,115,97,103,101]]
def zLi (k:Int):Str:=(zPD[k.toNat]?).getD []
def kT:List (Int×zu):=[(1,⟨[105,110,116,51,50],0⟩),(2,⟨[105,110,116,54,52],0⟩),(3,⟨[117,105,110,116,51,50],0⟩),(4,⟨[117,105,110,116,54,52],0⟩),(5,⟨[115,105,110,116,51,50],0⟩),(6,⟨[115,105,110,116,54,52],0⟩),(7,⟨[98,111,111,108],0⟩),(8,⟨[101,110,117,109],0⟩),(9,⟨[102,105,120,101,100,51,50],5⟩),(10,⟨[115,102,105,120,101,100,51,50],5⟩),(11,⟨[102,108,111,97,116],5⟩),(12,⟨[102,105,120,101,100,54,52],1⟩),(13,⟨[115,102,105,120,101,100,54,52],1⟩),(14,⟨[100,111,117,98,108,101],1⟩),(15,⟨[115,116,114,105,110,103],2⟩),(16,⟨[98,121,116,101,115],2⟩),(17,⟨[109,101,115,115,97,103,101],2⟩)]
theorem zEF:zmq=some kT:=rfl
theorem zwC (h:zbb k=true):k=1\/k=2\/k=3\/k=4\/k=5\/k=6\/k=7\/k=8\/k=9\/k=10\/k=11\/k=12\/k=13\/k=14\/k=15\/k=16\/k=17:=by
 have:=yx h;omega
theorem zPl (h:zbb k=true):mget kT k=some ⟨zLi k,zab k⟩:=by
 rcases zwC h with rfl| rfl| rfl| rfl| rfl| rfl| rfl| rfl| rfl| rfl| rfl| rfl| rfl| rfl| rfl| rfl| rfl<;>rfl
theorem zNr (h:e∈kT):zbb e.1=true/\e.2=⟨zLi e.1,zab e.1⟩:=by
 have:kT.all (fun e=>zbb e.1&&decide (e.2=⟨zLi e.1,zab e.1⟩))=true:=by decide
 have h1:=xI.1 this e h;simp only [xw,xT] at h1;exact h1
theorem zNs (h:zbb k=false):mget kT k=none:=by
 cases hg:mget kT k with
 | none=>rfl
 | some x=>
  have mem:∀{m:List (Int×zu)} {x:zu},mget m k=some x->(k,x)∈m:=fun {m x} hg=>by
   induction m with
   | nil=>cases hg
   | cons p m ih=>
    rw [mget] at hg;split at hg
    ·rename_i e;cases hg;rw [e];exact xt
    ·exact xu _ (ih hg)
  have h1:=(zNr (mem hg)).1;simp only at h1;rw [h] at h1;cases h1
theorem zEI (k:Int):zlM k=some (if zbb k then (zab k,0) else (0,2)):=by
 unfold zlM;rw [zEF,sb];cases h:zbb k with
 | true=>rw [zPl h];rfl
 | false=>rw [zNs h];rfl
theorem zyB (k:Int):ziY k=some (kNum k):=by
 unfold ziY;rw [zEI,sb];cases h:zbb k with
 | true=>
  rcases zwC h with rfl| rfl| rfl| rfl| rfl| rfl| rfl| rfl| rfl| rfl| rfl| rfl| rfl| rfl| rfl| rfl| rfl<;>rfl
 | false=>
  have h1:=uc h;have:kNum k=false:=xU (by omega);rw [this];rfl
theorem zNt:zqR=some [1,2,3,4,5,6,7,8,9,10,11,12,13,14,15,16,17]:=by
 have e:zoA kT=some [1,2,3,4,5,6,7,8,9,10,11,12,13,14,15,16,17]:=by
  unfold zoA;rfl
 unfold zqR;rw [zEF,sb,e,sb]
theorem zlL (k:Int) (h:0<=w/\w<=18446744073709551615):zhO k w=some (if kNum k then (zbg k w,0) else (0,2)):=by
 have hs:=zDo w;have hc:=zhk k h;unfold zhO;by_cases h1:k=1\/k=8
 ·have e:(if (k==1)=true then some (k==1) else some (k==8))=some true:=by rcases h1 with rfl| rfl<;>rfl
  have hn:kNum k=true:=xO (by omega);rw [e,sb,itT rfl,zKa,sb,zKp (by omega),sb,hn];unfold zbg;rw [xr h1];rfl
 ·have e:(if (k==1)=true then some (k==1) else some (k==8))=some false:=by rw [uW];simp;omega
  rw [e,sb,itF rfl];by_cases h2:k=3\/k=5\/k=9\/k=10\/k=11
  ·have e2:(if (k==3)=true then some (k==3) else if (k==5)=true then some (k==5) else if (k==9)=true then some (k==9) else if (k==10)=true then some (k==10) else some (k==11))=some true:=by
    rcases h2 with rfl| rfl| rfl| rfl| rfl<;>rfl
   have hn:kNum k=true:=xO (by omega);have hw:u64.wrap (w%4294967296)=w%4294967296:=by rw [wrap_u64];omega
   rw [e2,sb,itT rfl,zEQ,sb,hn,hw];unfold zbg;rw [xq h1,xr h2];rfl
  ·have e2:(if (k==3)=true then some (k==3) else if (k==5)=true then some (k==5) else if (k==9)=true then some (k==9) else if (k==10)=true then some (k==10) else some (k==11))=some false:=by
    rw [uW,uW,uW,uW];simp;omega
   rw [e2,sb,itF rfl];by_cases h7:k=7
   ·have hn:kNum k=true:=xO (by omega);rw [itT (by simpa using h7),hn];unfold zps zbg;rw [sb,xq h1,xq h2,xr h7];by_cases h0:0<w
    ·rw [xr h0];by_cases h10:1<w
     ·rw [xr h10];rfl
     ·rw [xq h10,show w=1 by omega];rfl
    ·rw [xq h0,xq (by omega),show w=0 by omega];rfl
   ·rw [itF (by simpa using h7)];by_cases hn:kNum k=true
    ·have hk:=yx hn;have e3:(if (k==2)=true then some (k==2) else if (k==4)=true then some (k==4) else if (k==6)=true then some (k==6) else if (k==12)=true then some (k==12) else if (k==13)=true then some (k==13) else some (k==14))=some true:=by
      have:k=2\/k=4\/k=6\/k=12\/k=13\/k=14:=by omega
      rcases this with rfl| rfl| rfl| rfl| rfl| rfl<;>rfl
     rw [e3,sb,itT rfl,hn];unfold zbg;rw [xq h1,xq h2,xq h7];rfl
    ·have hn:kNum k=false:=by simpa using hn
     have hk:=uc hn;have e3:(if (k==2)=true then some (k==2) else if (k==4)=true then some (k==4) else if (k==6)=true then some (k==6) else if (k==12)=true then some (k==12) else if (k==13)=true then some (k==13) else some (k==14))=some false:=by
      rw [uW,uW,uW,uW,uW];simp;omega
     rw [e3,sb,itF rfl,hn];rfl
def lt7 (c:UInt8):Bool:=decide (97<=c.toNat/\c.toNat<=122\/65<=c.toNat/\c.toNat<=90\/c.toNat=95)
def dg7 (c:UInt8):Bool:=decide (48<=c.toNat/\c.toNat<=57)
theorem zyw (c:UInt8):zgK (c.toNat:Int)=some (dg7 c):=by
 unfold zgK dg7;congr 1;rw [yN];simp;omega
theorem zEr (c:UInt8):zho (c.toNat:Int)=some (lt7 c):=by
 unfold zho lt7;congr 1;by_cases h1:(c.toNat:Int)>=97<;>by_cases h2:(c.toNat:Int)>=65<;>simp only [h1,h2,decide_true,decide_false,yu,yp,qj]<;>rw [yN]<;>simp<;>omega
theorem zEs (s:List UInt8) (hs:s.length<=1152921504606846976):∀(l:List UInt8) (i:Nat),s.drop i=l->zfk s i=some (if (l.all fun c=>lt7 c|| dg7 c)=true then .inl () else .inr ()):=by
 intro l
 induction l with
 | nil=>
  intro i hd;have:=zib hd;refine zld ?_;unfold zem;rw [uW];rfl
 | cons c l ih=>
  intro i hd;obtain ⟨hi,hc,hd'⟩:=zgV hd;have hb:zem s i=if (lt7 c|| dg7 c)=true then some (.inl ((i+1:Nat):Int)) else some (.inr (.inr ())):=by
   unfold zem;rw [uV,zP rfl hi,sb,hc,zEr,sb,sb,zyw,uX];cases lt7 c<;>cases dg7 c<;>rfl
  rw [yO];cases hk:(lt7 c|| dg7 c) with
  | false=>
   rw [hk] at hb;rw [zld hb];rfl
  | true=>
   rw [hk] at hb;rw [zrB hb,ih _ hd',ye]
theorem zIu:∀(l:List UInt8) (i:Nat),0<i->nmA i l=l.all fun c=>lt7 c|| dg7 c
 | [],_,_=>rfl
 | c::l,i,h=>by
  rw [nmA,zIu l (i+1) (by omega),yO];congr 1;unfold nmc lt7 dg7;rw [yN];simp;omega
theorem zBd (hs:s.length<=1152921504606846976):zhx s=some (zfP s):=by
 unfold zhx zfP;have hl:=zEs s hs s 0 rfl;have hl':zfk s 0=_:=hl;cases s with
 | nil=>rfl
 | cons c l=>
  rw [uU];by_cases h60:((c::l).length:Int)>60
  ·rw [itT (by simpa using h60),sb,itT rfl];have:decide (1<=(c::l).length/\(c::l).length<=60)=false:=by simp only [uE];omega
   rw [this,pg]
  ·have hd:decide (1<=(c::l).length/\(c::l).length<=60)=true:=by simp only [xT];refine ⟨by simp,by omega⟩
   have hc:idx (c::l) 0=some c:=by simp [idx]
   rw [itF (by simpa using h60),hc,sb,zyw,sb,sb,hd,pd,hl',sb];have e:nmA 0 (c::l)=(lt7 c&&l.all fun c=>lt7 c|| dg7 c):=by
    rw [nmA,zIu l 1 (by omega)];congr 1;unfold nmc lt7;rw [yN];simp;omega
   have hx:lt7 c=true->dg7 c=false:=by
    unfold lt7 dg7;simp only [xT,uE];omega
   rw [e,yO];cases h1:lt7 c<;>cases h2:dg7 c<;>first| (rw [hx h1] at h2;cases h2;done)| skip
   ·rfl
   ·rfl
   ·cases l.all fun c=>lt7 c|| dg7 c<;>rfl
theorem zKX (hl:l.length<=1152921504606846976) (v:Int):zdo l v=some (zlm (fun x=>v==x) l):=by
 unfold zdo;have h:=zrX (fun x=>v==x) l (fun i=>zbs l v i) (zgL (by unfold zaK;rw [uU])) (fun i hi=>by
  by_cases hp:(v==l[i])=true
  ·rw [xr hp];exact zgL (by unfold zaK;rw [uV,zP rfl hi,sb,itT hp])
  ·rw [xq hp];exact zkB (by unfold zaK;rw [uV,zP rfl hi,sb,itF (by simpa using hp),uX];rfl)) l.length 0 (by omega) (fun j _ h=>by omega)
 have h':zbs l v 0=_:=h;rw [h',sb];unfold zlm;cases l.findIdx? (fun x=>v==x)<;>rfl
theorem zAl {α:Type} (p:α->Bool) (l:List α):decide (zlm p l>=0)=l.any p:=by
 cases h:l.findIdx? p with
 | none=>
  rw [znq h];rw [uQ] at h
  symm
  rw [List.any_eq_false.2 fun x hx=>by simpa using h x hx];rfl
 | some i=>
  rw [znr h];rw [pY] at h;obtain ⟨hi,hp,_⟩:=h
  symm
  rw [List.any_eq_true.2 ⟨l[i],xB hi,hp⟩];simp
theorem zDW (hl:l.length<=1152921504606846976) (v:Int):zck l v=some (l.any fun x=>v==x):=by
 unfold zck;rw [zKX hl,sb,zAl]
def K17:List Int:=[1,2,3,4,5,6,7,8,9,10,11,12,13,14,15,16,17]
theorem zJu (k:Int):(K17.any fun x=>k==x)=zbb k:=by
 unfold zbb K17;rw [yN];simp;omega
def hasN (m:List (zv×Bool)) (i:Int) (n:Str):Bool:=(mget m (⟨i,n⟩:zv)).getD false
def hasU (m:List (zg×Bool)) (i:Int) (n:Int):Bool:=(mget m (⟨i,n⟩:zg)).getD false
theorem zow (m:List (zv×Bool)) (i j:Int) (n k:Str):hasN (mput m ⟨i,n⟩ true) j k=(decide (j=i/\k=n)|| hasN m j k):=by
 unfold hasN;rw [zfR];by_cases h:j=i/\k=n
 ·obtain ⟨rfl,rfl⟩:=h;simp
 ·rw [xq (fun e=>h (by injection e with e1 e2;exact ⟨e1,e2⟩))];simp [h]
theorem zEm (m:List (zg×Bool)) (i j:Int) (n k:Int):hasU (mput m ⟨i,n⟩ true) j k=(decide (j=i/\k=n)|| hasU m j k):=by
 unfold hasU;rw [zfR];by_cases h:j=i/\k=n
 ·obtain ⟨rfl,rfl⟩:=h;simp
 ·rw [xq (fun e=>h (by injection e with e1 e2;exact ⟨e1,e2⟩))];simp [h]
theorem zEt (n:Int):zhp n=some (decide ¬(n<1\/n>536870911\/(19000<=n/\n<20000))):=by
 unfold zhp;congr 1;rw [yN];simp;omega
theorem zGN (f:Fld):zhU f=some (f.Repeated&&kNum f.Kind):=by
 unfold zhU;rw [zyB];cases f.Repeated<;>rfl
theorem zLp (n:Int) (K:List Int) (nm:List (zv×Bool)) (nu:List (zg×Bool)) (f:Fld):zfE ⟨n,K,nm,nu⟩ f=some (decide ¬(f.Kind=17/\(f.Of<0\/f.Of>=n)\/f.Kind≠17/\f.Of≠0)):=by
 unfold zfE;by_cases h:f.Kind=17
 ·rw [itT (by simpa using h)];congr 1;rw [yN];simp [h]
 ·rw [itF (by simpa using h)];congr 1;rw [yN];simp [h]
theorem zKN (hf:f.Name.length<=1152921504606846976) (hN:hasN nm i f.Name=prev.any fun g=>g.Name==f.Name) (hU:hasU nu i f.Number=prev.any fun g=>g.Number==f.Number):
  zfD ⟨n,K17,nm,nu⟩ i f=some (zcO n prev f,if zcO n prev f=0 then (mput nm ⟨i,f.Name⟩ true,mput nu ⟨i,f.Number⟩ true) else (nm,nu)):=by
 unfold zfD;rw [zBd hf,sb];have e1:(mget nm (⟨i,f.Name⟩:zv)).getD false=hasN nm i f.Name:=rfl;have e2:(mget nu (⟨i,f.Number⟩:zg)).getD false=hasU nu i f.Number:=rfl;simp only [e1,e2,hN,hU];have hz:∀(k:Int) (x y:List (zv×Bool)×List (zg×Bool)),k≠0->(if k=0 then x else y)=y:=fun k x y h=>xq h
 by_cases h1:zfP f.Name=false
 ·have hF:zcO n prev f=5:=by unfold zcO;rw [xr h1]
  rw [hF,hz 5 _ _ (by decide),itT (by rw [h1];rfl)]
 rw [itF (show (!zfP f.Name)=false by simpa using h1)];by_cases h2:(prev.any fun g=>g.Name==f.Name)=true
 ·have hF:zcO n prev f=6:=by unfold zcO;rw [xq h1,xr h2]
  rw [hF,hz 6 _ _ (by decide),itT h2]
 have h2':(prev.any fun g=>g.Name==f.Name)=false:=pC h2;rw [itF h2',zEt,sb];by_cases h3:f.Number<1\/f.Number>536870911\/(19000<=f.Number/\f.Number<20000)
 ·have hF:zcO n prev f=7:=by unfold zcO;rw [xq h1,xq h2,xr h3]
  rw [hF,hz 7 _ _ (by decide),itT (by rw [xU (fun h=>h h3)];rfl)]
 rw [itF (by rw [xO h3];rfl)];by_cases h4:(prev.any fun g=>g.Number==f.Number)=true
 ·have hF:zcO n prev f=8:=by unfold zcO;rw [xq h1,xq h2,xq h3,xr h4]
  rw [hF,hz 8 _ _ (by decide),itT h4]
 have h4':(prev.any fun g=>g.Number==f.Number)=false:=pC h4;rw [itF h4',zDW (by decide),sb,zJu];by_cases h5:zbb f.Kind=false
 ·have hF:zcO n prev f=9:=by unfold zcO;rw [xq h1,xq h2,xq h3,xq h4,xr h5]
  rw [hF,hz 9 _ _ (by decide),itT (by rw [h5];rfl)]
 rw [itF (show (!zbb f.Kind)=false by simpa using h5),zGN];have hg:(if f.Packed=true then (some (f.Repeated&&kNum f.Kind)>>=fun kE=>some (!kE)) else some false)=some (decide (f.Packed=true/\¬(f.Repeated=true/\kNum f.Kind=true))):=by
  cases f.Packed<;>cases f.Repeated<;>cases kNum f.Kind<;>rfl
 rw [hg,sb];by_cases h6:f.Packed=true/\¬(f.Repeated=true/\kNum f.Kind=true)
 ·have hF:zcO n prev f=10:=by unfold zcO;rw [xq h1,xq h2,xq h3,xq h4,xq h5,xr h6]
  rw [hF,hz 10 _ _ (by decide),itT (xO h6)]
 rw [itF (xU h6),zLp,sb];by_cases h7:f.Kind=17/\(f.Of<0\/f.Of>=n)\/f.Kind≠17/\f.Of≠0
 ·have hF:zcO n prev f=11:=by unfold zcO;rw [xq h1,xq h2,xq h3,xq h4,xq h5,xq h6,xr h7]
  rw [hF,hz 11 _ _ (by decide),itT (by rw [xU (fun h=>h h7)];rfl)]
 have hF:zcO n prev f=0:=by unfold zcO;rw [xq h1,xq h2,xq h3,xq h4,xq h5,xq h6,xq h7]
 rw [hF,xr rfl,itF (by rw [xO h7];rfl)]
theorem zGO {n:Int} {nm:List (zv×Bool)} {nu:List (zg×Bool)} {prev:List Mes} {m:Mes} (hm:m.Name.length<=1152921504606846976) (hN:hasN nm (-1) m.Name=prev.any fun g=>g.Name==m.Name):
  zeA ⟨n,K17,nm,nu⟩ m=some (if zfP m.Name=false then (2,nm,nu) else if (prev.any fun g=>g.Name==m.Name)=true then (3,nm,nu) else if 200<m.Fields.length then (4,nm,nu) else (0,mput nm ⟨-1,m.Name⟩ true,nu)):=by
 unfold zeA;rw [zBd hm,sb];have e1:(mget nm (⟨(-1),m.Name⟩:zv)).getD false=hasN nm (-1) m.Name:=rfl;simp only [e1,hN];by_cases h1:zfP m.Name=false
 ·rw [xr h1,itT (show (!zfP m.Name)=true by rw [h1];rfl)]
 rw [xq h1,itF (show (!zfP m.Name)=false by simpa using h1)];by_cases h2:(prev.any fun g=>g.Name==m.Name)=true
 ·rw [xr h2,itT h2]
 have h2':(prev.any fun g=>g.Name==m.Name)=false:=pC h2;rw [xq h2,itF h2'];by_cases h3:200<m.Fields.length
 ·rw [xr h3,itT (show decide ((m.Fields.length:Int)>200)=true by simp;omega)]
 rw [xq h3,itF (show decide ((m.Fields.length:Int)>200)=false by simp;omega)]
structure Met (nm:List (zv×Bool)) (nu:List (zg×Bool)) (i:Nat) (prev:List Mes) (p:List Fld):Prop where
 mes:∀n,hasN nm (-1) n=prev.any fun g=>g.Name==n
 nam:∀n,hasN nm i n=p.any fun g=>g.Name==n
 num:∀n,hasU nu i n=p.any fun g=>g.Number==n
 later:∀(j:Nat) n,i<j->hasN nm j n=false
 laterU:∀(j:Nat) n,i<j->hasU nu j n=false
theorem Met.step (h:Met nm nu i prev p) (f:Fld):Met (mput nm ⟨i,f.Name⟩ true) (mput nu ⟨i,f.Number⟩ true) i prev (p++[f]):=by
 refine ⟨fun n=>?_,fun n=>?_,fun n=>?_,fun j n hj=>?_,fun j n hj=>?_⟩
 ·rw [zow,h.mes,xU (by omega),pk]
 ·rw [zow,h.nam,uL,Bool.or_comm];congr 1;simp only [q9,List.any_nil,pw];rw [yN];simp;exact eq_comm
 ·rw [zEm,h.num,uL,Bool.or_comm];congr 1;simp only [q9,List.any_nil,pw];rw [yN];simp;exact eq_comm
 ·rw [zow,h.later j n hj,xU (by omega)];rfl
 ·rw [zEm,h.laterU j n hj,xU (by omega)];rfl
theorem zKH (hb:m.Fields.length<=140737488351232) (hn:∀f∈m.Fields,f.Name.length<=140737488351232):
  ∀(l:List Fld) (k:Nat) (nm:List (zv×Bool)) (nu:List (zg×Bool)),m.Fields.drop k=l->k<=m.Fields.length->Met nm nu i prev (m.Fields.take k)->
   (∃j w,msgF s.length (m.Fields.take k) l=some (j,w)/\zdT K17 s i m k nm nu=some (.inr ((j:Int),w)))\/
   (msgF s.length (m.Fields.take k) l=none/\∃nm' nu',zdT K17 s i m k nm nu=some (.inl (nm',nu'))/\Met nm' nu' i prev m.Fields):=by
 intro l
 induction l with
 | nil=>
  intro k nm nu hd hk hM;have:=zib hd;have hkl:k=m.Fields.length:=by omega
  subst hkl;refine .inr ⟨rfl,nm,nu,zlx ?_,by simpa using hM⟩;unfold zcT;rw [uU]
 | cons f l ih=>
  intro k nm nu hd hk hM;obtain ⟨hi,hc,hd'⟩:=zgV hd;have hf:=hn f (by rw [<-hc];exact xB hi);have hfld:=zKN (n:=(s.length:Int)) (i:=(i:Int)) (nm:=nm) (nu:=nu) (prev:=m.Fields.take k) (f:=f) (by omega) (hM.nam _) (hM.num _);have htk:m.Fields.take (k+1)=m.Fields.take k++[f]:=by rw [pZ hi,hc]
  have ku:(m.Fields.take k).length=k:=by simp;omega
  obtain ⟨bd,_⟩:=zyd (s.length:Int) (m.Fields.take k) f;rw [msgF];by_cases h0:zcO s.length (m.Fields.take k) f=0
  ·rw [xq (by omega)];rw [h0,xr rfl] at hfld;have hstep:zcT K17 s i m k nm nu=some (.inl (((k+1:Nat):Int),mput nm ⟨i,f.Name⟩ true,mput nu ⟨i,f.Number⟩ true)):=by
    unfold zcT;rw [uV,zP rfl hi,sb,hc,hfld,sb];dsimp only;rw [itF (show ((0:Int) !=0)=false from rfl),uX];rfl
   rw [zsJ hstep,<-htk];exact ih (k+1) _ _ hd' (by omega) (by rw [htk];exact hM.step f)
  ·rw [xr (by omega)];rw [xq h0] at hfld;refine .inl ⟨k,_,by rw [ku],zlx ?_⟩;unfold zcT;rw [uV,zP rfl hi,sb,hc,hfld,sb];dsimp only;rw [itT (show (zcO (s.length:Int) (m.Fields.take k) f !=0)=true by simpa using h0)]
theorem zKG {s:List Mes} (hw:WS s):∀(l:List Mes) (i:Nat) (nm:List (zv×Bool)) (nu:List (zg×Bool)),s.drop i=l->i<=s.length->Met nm nu i (s.take i) []->
  zfT K17 s i nm nu=some (match chkF s.length (s.take i) l with| some (j,k,w)=> .inr ((j:Int),k,w)| none=> .inl ()):=by
 intro l
 induction l with
 | nil=>
  intro i nm nu hd hi hM;have:=zib hd;refine zeZ ?_;unfold zbn;rw [uW];rfl
 | cons m l ih=>
  intro i nm nu hd hi hM;obtain ⟨hil,hc,hd'⟩:=zgV hd;obtain ⟨w1,w2⟩:=hw;obtain ⟨m1,m2,m3⟩:=w2 m (by rw [<-hc];exact xB hil);have hmes:=zGO (n:=(s.length:Int)) (nm:=nm) (nu:=nu) (prev:=s.take i) (m:=m) (by omega) (hM.mes _);have htk:s.take (i+1)=s.take i++[m]:=by rw [pZ hil,hc]
  have ku:(s.take i).length=i:=by simp;omega
  rw [chkF];by_cases h1:zfP m.Name=false
  ·rw [xr h1] at hmes|-;refine zeZ ?_;unfold zbn;rw [uV,zP rfl hil,sb,hc,hmes,sb];dsimp only;rw [itT (show ((2:Int) !=0)=true from rfl),ku]
  rw [xq h1] at hmes|-;by_cases h2:((s.take i).any fun g=>g.Name==m.Name)=true
  ·rw [xr h2] at hmes|-;refine zeZ ?_;unfold zbn;rw [uV,zP rfl hil,sb,hc,hmes,sb];dsimp only;rw [itT (show ((3:Int) !=0)=true from rfl),ku]
  rw [xq h2] at hmes|-;by_cases h3:200<m.Fields.length
  ·rw [xr h3] at hmes|-;refine zeZ ?_;unfold zbn;rw [uV,zP rfl hil,sb,hc,hmes,sb];dsimp only;rw [itT (show ((4:Int) !=0)=true from rfl),ku]
  rw [xq h3] at hmes|-;have hM0:Met (mput nm ⟨-1,m.Name⟩ true) nu i (s.take i++[m]) (m.Fields.take 0):=by
   refine ⟨fun n=>?_,fun n=>?_,fun n=>?_,fun j n hj=>?_,fun j n hj=>hM.laterU j n hj⟩
   ·rw [zow,hM.mes,uL,Bool.or_comm];congr 1;simp only [q9,List.any_nil,pw];rw [yN];simp;exact eq_comm
   ·rw [zow,hM.nam,xU (by omega)];rfl
   ·rw [hM.num];rfl
   ·rw [zow,hM.later j n hj,xU (by omega)];rfl
  have hl2:=zKH (s:=s) (i:=i) m2 m3 m.Fields 0 _ nu rfl (by omega) hM0;simp only [qA] at hl2;rcases hl2 with ⟨j,w,g1,g2⟩| ⟨g1,nm',nu',g2,g3⟩
  ·rw [g1];refine zeZ ?_;unfold zbn;have g2':zdT K17 s i m 0 (mput nm ⟨-1,m.Name⟩ true) nu=_:=g2;rw [uV,zP rfl hil,sb,hc,hmes,sb];dsimp only;rw [itF (show ((0:Int) !=0)=false from rfl),g2',sb];simp only [ku]
  ·rw [g1];have hstep:zbn K17 s i nm nu=some (.inl (((i+1:Nat):Int),nm',nu')):=by
    unfold zbn;have g2':zdT K17 s i m 0 (mput nm ⟨-1,m.Name⟩ true) nu=_:=g2;rw [uV,zP rfl hil,sb,hc,hmes,sb];dsimp only;rw [itF (show ((0:Int) !=0)=false from rfl),g2',sb];dsimp only;rw [uX];rfl
   rw [zsI hstep];simp only [];rw [<-htk];refine ih (i+1) nm' nu' hd' (by omega) ⟨fun n=>?_,fun n=>?_,fun n=>?_,fun j n hj=>g3.later j n (by omega),fun j n hj=>g3.laterU j n (by omega)⟩
   ·rw [htk];exact g3.mes n
   ·rw [g3.later (i+1) n (by omega)];rfl
   ·rw [g3.laterU (i+1) n (by omega)];rfl
theorem zKF (hw:WS s):zjL s=some (⟨(zkh s).1,(zkh s).2.1,(zkh s).2.2⟩,if (zkh s).2.2=0 then 0 else 9):=by
 unfold zjL zkh;by_cases h:s.length=0\/100<s.length
 ·rw [uV,xr h];rfl
 ·rw [uW,xq h,zNt,sb];have hl:=zKG hw s 0 [] [] rfl (by omega) ⟨fun n=>rfl,fun n=>rfl,fun n=>rfl,fun j n _=>rfl,fun j n _=>rfl⟩;simp only [qA] at hl;have hl':zfT [1,2,3,4,5,6,7,8,9,10,11,12,13,14,15,16,17] s 0 [] []=_:=hl;rw [hl',sb];cases hc:chkF s.length [] s with
  | none=>rfl
  | some q=>
   obtain ⟨i,k,w⟩:=q;have:=zHK _ _ _ _ _ _ hc;simp only;rw [xq (by omega)]
theorem zLZ (hw:WS s):zjM s=some (zlq s):=by
 unfold zjM zlq;rw [zKF hw,sb];by_cases h:(zkh s).2.2=0<;>simp [h]
theorem zlj (h:(zag k b).2=0):kNum k=true/\(pcs k b).2=0/\(zag k b).1=(pcs k b).1.map (zep k):=by
 unfold zag at h|-;cases hn:kNum k with
 | false=>rw [hn,xr rfl] at h;simp at h
 | true=>
  rw [hn,xq (by simp)] at h;rw [xq (by simp)];by_cases h0:(pcs k b).2=0
  ·rw [xr h0];exact ⟨rfl,h0,rfl⟩
  ·rw [xq h0] at h;exact absurd h h0
theorem zsx {k:Int} {b:List UInt8} (hn:kNum k=true) (h0:(pcs k b).2=0):zag k b=((pcs k b).1.map (zep k),0):=by
 unfold zag;rw [hn,xq (by simp),xr h0]
theorem ztK (h:(zag k b).2≠0):(zag k b).1=[]/\((zag k b).2=2\/(zag k b).2=3\/(zag k b).2=4):=by
 unfold zag at h|-;by_cases hn:kNum k=false
 ·rw [xr hn];simp
 ·rw [xq hn] at h|-;by_cases h0:(pcs k b).2=0
  ·rw [xr h0] at h;exact absurd rfl h
  ·rw [xq h0];rcases zEV k b with h1| h1| h1
   ·exact absurd h1 h0
   ·rw [h1];simp
   ·rw [h1];simp
theorem zzZ (k:Int) (b:List UInt8):(zag k b).1.length<=b.length:=by
 by_cases h:(zag k b).2=0
 ·rw [(zlj h).2.2,pv];exact zxr k b
 ·rw [(ztK h).1];exact xC _
theorem zDG {k:Int} {a b:List UInt8} (ha:(zag k a).2=0):(zag k (a++b)).2=(zag k b).2/\((zag k b).2=0->(zag k (a++b)).1=(zag k a).1++(zag k b).1):=by
 obtain ⟨hn,h0,e⟩:=zlj ha;have hp:=zGY k b a h0;by_cases hb:(pcs k b).2=0
 ·rw [zsx hn (b:=a++b) (by rw [hp];exact hb),zsx hn hb,e,hp];exact ⟨rfl,fun _=>by simp⟩
 ·have:(zag k b).2=(pcs k b).2:=by unfold zag;rw [xq (by rw [hn];simp),xq hb]
  have h2:(zag k (a++b)).2=(pcs k b).2:=by unfold zag;rw [xq (by rw [hn];simp),hp,xq hb]
  rw [this,h2];exact ⟨rfl,fun h=>absurd h hb⟩
theorem zLc {α:Type} (x y:α):(if (true:Bool)=false then x else y)=y:=rfl
def wid (k:Int):Nat:=if 12<=k then 8 else if 9<=k then 4 else 0
theorem zvX (k:Int):zhh k=some (if kNum k then ((wid k:Int),0) else (0,2)):=by
 cases hn:kNum k with
 | true=>
  have h:=zfB.1 hn;have hk:k=1\/k=2\/k=3\/k=4\/k=5\/k=6\/k=7\/k=8\/k=9\/k=10\/k=11\/k=12\/k=13\/k=14:=by omega
  rcases hk with rfl| rfl| rfl| rfl| rfl| rfl| rfl| rfl| rfl| rfl| rfl| rfl| rfl| rfl<;>rfl
 | false=>
  have h:=uc hn;unfold zhh;have kO:∀c:Int,1<=c->c<=14->(k==c)=false:=fun c h1 h2=>by simp;omega
  simp only [kO 1 (by omega) (by omega),kO 2 (by omega) (by omega),kO 3 (by omega) (by omega),kO 4 (by omega) (by omega),kO 5 (by omega) (by omega),kO 6 (by omega) (by omega),kO 7 (by omega) (by omega),kO 8 (by omega) (by omega),kO 9 (by omega) (by omega),kO 10 (by omega) (by omega),kO 11 (by omega) (by omega),kO 12 (by omega) (by omega),kO 13 (by omega) (by omega),kO 14 (by omega) (by omega)];rfl
theorem zJt (hk:kNum k=true):(zab k=0↔wid k=0)/\(wid k≠0->∀b:List UInt8,zbt (zab k) b=decide (wid k=b.length))/\(wid k=0\/wid k=4\/wid k=8):=by
 have:=zfB.1 hk;unfold zab wid zbt;by_cases h1:12<=k
 ·rw [xq (by omega),xr h1,xr h1];refine ⟨by simp,fun _ b=>?_,by simp⟩;rw [xq (by omega)];simp only [show ((1:Int)=2)=False from by simp,show ((1:Int)=5)=False from by simp,false_or,false_and,xM,qz];simp [eq_comm]
 ·rw [xq (by omega),xq h1,xq h1];by_cases h2:9<=k
  ·rw [xr h2,xr h2];refine ⟨by simp,fun _ b=>?_,by simp⟩;rw [xq (by omega)];simp [eq_comm]
  ·rw [xq h2,xq h2];exact ⟨by simp,fun h=>absurd rfl h,by simp⟩
theorem zKe (b:List UInt8):zjJ b=some (if zbt 0 b then ((rd b).1,0) else (0,12)):=by
 unfold zjJ zbt;rw [zxu,sb,xr rfl];by_cases h:(rd b).2.2=0/\(rd b).2.1=(b.length:Int)
 ·rw [itF (by simp [h.1,h.2]),xr (by simpa using h)]
 ·rw [uV,xq (by simpa using h)]
theorem zKc (k:Int) (b:List UInt8):zjI k b=some (if kNum k=false then (0,2) else if zbt (zab k) b=false then (0,12) else (rawW k b,0)):=by
 unfold zjI;rw [zvX,sb];cases hn:kNum k with
 | false=>rw [xr rfl];rfl
 | true=>
  obtain ⟨e0,ef,_⟩:=zJt hn;simp only [yu];rw [uU,xq (show ¬(true=false) by simp)];by_cases h0:wid k=0
  ·have hw:=e0.2 h0;rw [itT (by simp [h0]),zKe,sb,hw];unfold rawW;cases hf:zbt 0 b with
   | true=>simp [hw]
   | false=>simp
  ·rw [itF (by simpa using h0),ef h0];by_cases hl:wid k=b.length
   ·rw [uW,zOr,sb,xq (by simpa using hl)];unfold rawW;rw [xq (fun h=>h0 (e0.1 h))]
   ·rw [uV,xr (by simpa using hl)]
theorem zMr (k:Int) (b:List UInt8):zlc k b=some (zmE k b):=by
 unfold zlc zmE;rw [zKc,sb];cases hn:kNum k with
 | false=>rfl
 | true=>
  simp only [zLc];cases hf:zbt (zab k) b with
  | false=>rfl
  | true=>
   simp only [zLc];rw [uS,zlL k (znx k),sb,hn,xr rfl]
theorem zIN {k w:Int} (h:0<=w/\w<=18446744073709551615):zkA k w=some (if kNum k then (sPut k w,0) else ([],2)):=by
 have hc:=zhk k h;obtain ⟨c,hcc⟩:∃c:Nat,zbg k w=c:=⟨(zbg k w).toNat,by omega⟩;unfold zkA;rw [zvX,sb];cases hn:kNum k with
 | false=>rfl
 | true=>
  simp only [yu];rw [uS,zlL k h,sb,hn];simp only [yu];rw [hcc];unfold sPut zkz;rw [hcc,xD];unfold wid;by_cases h1:12<=k
  ·rw [xr h1,xr h1,uS,zBj,sb];rfl
  ·rw [xq h1,xq h1];by_cases h2:9<=k
   ·rw [xr h2,xr h2,uS,zBj,sb];rfl
   ·rw [xq h2,xq h2,uR,zHa [] (by omega) (by simp),sb,xH]
theorem zzI (h:0<=w/\w<=18446744073709551615):zhT k w=some (if kNum k then ((sPut k w).length:Int) else 0):=by
 have hc:=zhk k h;obtain ⟨c,hcc⟩:∃c:Nat,zbg k w=c:=⟨(zbg k w).toNat,by omega⟩;unfold zhT;rw [zvX,sb];cases hn:kNum k with
 | false=>rfl
 | true=>
  simp only [yu];unfold sPut zkz;rw [hcc,xD];unfold wid;by_cases h1:12<=k
  ·rw [xr h1,xr h1,uR,zaB]
  ·rw [xq h1,xq h1];by_cases h2:9<=k
   ·rw [xr h2,xr h2,uR,zaB]
   ·rw [xq h2,xq h2,uS,zlL k h,sb,hn];simp only [yu];rw [hcc,zLt (by omega),sb,ziG]
theorem zAQ {α:Type} {l t:List α} {x:α} {k:Nat} (h:l.drop k=x::t):∃hk:k<l.length,l[k]=x/\l.drop (k+1)=t:=by
 have hk:k<l.length:=by
  rcases yB k l.length with h'| h'
  ·exact h'
  ·rw [yo h'] at h;cases h
 rw [yf hk] at h;injection h with h1 h2;exact ⟨hk,h1,h2⟩
theorem zCq (l:List (List UInt8)) (hl:l.length<=1099511627776):∀(t:List (List UInt8)) (k s:Nat),l.drop k=t->s+t.flatten.length<=1099511627776->
  zaN l s k=some ((s+t.flatten.length:Nat):Int):=by
 intro t
 induction t with
 | nil=>
  intro k s hd _;have hk:l.length<=k:=by have:=congrArg List.length hd;simp at this;omega
  refine zjo ?_;unfold zaw;rw [uW];simp
 | cons x t ih=>
  intro k s hd hs;obtain ⟨hk,hx,hd'⟩:=zAQ hd;simp only [qt,xz] at hs;refine (zjn (size':=((s+x.length:Nat):Int)) (v':=((k+1:Nat):Int)) ?_).trans ?_
  ·unfold zaw;rw [uV,zP rfl hk,sb,hx,uX,uW,uX];push_cast;rfl
  ·rw [ih _ _ hd' (by omega)];simp only [qt,xz];congr 2;omega
theorem zCr (l:List (List UInt8)) (hl:l.length<=1099511627776):∀(t:List (List UInt8)) (k:Nat) (acc:List UInt8),l.drop k=t->acc.length+t.flatten.length<=1099511627776->
  zaO l acc k=some (acc++t.flatten):=by
 intro t
 induction t with
 | nil=>
  intro k acc hd _;have hk:l.length<=k:=by have:=congrArg List.length hd;simp at this;omega
  refine zjq ?_;unfold zax;rw [uW];simp
 | cons x t ih=>
  intro k acc hd hs;obtain ⟨hk,hx,hd'⟩:=zAQ hd;simp only [qt,xz] at hs;refine (zjp (newslice':=acc++x) (v2':=((k+1:Nat):Int)) ?_).trans ?_
  ·unfold zax;rw [uV,zP rfl hk,sb,hx,zaQ (by omega),sb,uX];push_cast;rfl
  ·rw [ih _ _ hd' (by rw [xz];omega)];simp
theorem zNj {n:Nat} (h:n<=1099511627776):zcP (n:Int)=some []:=by
 unfold zcP;have e:i64.wrap ((n:Int) - i64.wrap (0 - 0))=n:=by rw [wrap_i64 (x:=0 - 0) (by omega),uX];omega
 rw [uU,e];by_cases h0:(n:Int)>0
 ·rw [itT (by simpa using h0),zGP (a:=n) rfl (Int.le_refl _) (by omega),sb];have e0:cut (List.replicate n (0:UInt8)) 0 0=some []:=ztT (b:=0) rfl (xC _);rw [e0,sb]
 ·rw [itF (by simpa using h0)]
theorem zvp (hl:l.length<=1099511627776) (h:l.flatten.length<=1099511627776):zaJ l=some l.flatten:=by
 unfold zaJ;have h1:=zCq l hl l 0 0 rfl (by omega);have h1':zaN l 0 0=_:=h1;have h2:=zCr l hl l 0 [] rfl (by simpa using h);have h2':zaO l [] 0=_:=h2;rw [h1',sb,zNj (by omega),sb,h2',sb];simp
def wid9 (k:Int):Int:=if kNum k then (if 12<=k then 8 else if 9<=k then 4 else 1) else 0
theorem zAB (hk:kNum k=true):(((sPut k 0).length:Nat):Int)=(if 12<=k then 8 else if 9<=k then 4 else 1):=by
 have hk':=zfB.1 hk;have hc:(zbg k 0).toNat=0:=by
  have:k=1\/k=2\/k=3\/k=4\/k=5\/k=6\/k=7\/k=8\/k=9\/k=10\/k=11\/k=12\/k=13\/k=14:=by omega
  rcases this with h| h| h| h| h| h| h| h| h| h| h| h| h| h<;>subst h<;>decide
 unfold sPut;rw [hc];unfold zkz;by_cases h1:12<=k
 ·rw [xr h1,xr h1,zaB];rfl
 ·rw [xq h1,xq h1];by_cases h2:9<=k
  ·rw [xr h2,xr h2,zaB];rfl
  ·rw [xq h2,xq h2,ziG];simp [lenN]
theorem zBI (k:Int):zlS k=some (wid9 k):=by
 unfold zlS wid9;rw [zzI (by omega),sb];cases hk:kNum k with
 | false=>rfl
 | true=>simp only [yu];rw [zAB hk]
theorem zIZ (hk:kNum k=true):(k<9->wid9 k=1)/\(¬k<9->k<12->wid9 k=4)/\(¬k<12->wid9 k=8):=by
 unfold wid9
 grind
theorem zFV (hk:kNum k=false):wid9 k=0:=by unfold wid9;rw [hk];rfl
theorem zIY (hk:kNum k=true):(wid9 k==0)=false:=by
 obtain ⟨h1,h2,h3⟩:=zIZ hk
 grind
theorem zBF (hk:kNum k=true) (b:List UInt8):zoM (wid9 k) b=some (match zjP k b with| .inl c=>(0,c)| .inr n=>((n:Int),0)):=by
 grind [zoM,zjP,zIZ,zIJ,sb,zmz]
def zlh (k:Int) (b:List UInt8):List (List UInt8)×Int:=if kNum k=false then ([],2) else pcs k b
def go9 {σ ρ:Type} (kb:σ->(List UInt8×Int)->Option (σ⊕ρ)):List (List UInt8)->Int->σ->Option (σ⊕ρ)
 | [],c,s=>if c=0 then some (.inl s) else kb s ([],c)
 | p::ps,c,s=>match kb s (p,0) with
  | some (.inl s')=>go9 kb ps c s'
  | some (.inr r)=>some (.inr r)
  | none=>none
theorem zHi {σ ρ χ:Type} {kb:σ->χ->Option (σ⊕ρ)} {s:σ} {x:χ} {o:σ⊕ρ} (h:kb s x=some o):∃c,rnd kb (.inl s) x=some (c,o)/\(c=true/\(∃s',o= .inl s')\/c=false/\∃r,o= .inr r):=by
 cases o with
 | inl s'=>exact ⟨true,by simp only [rnd,h],.inl ⟨rfl,s',rfl⟩⟩
 | inr r=>exact ⟨false,by simp only [rnd,h],.inr ⟨rfl,r,rfl⟩⟩
theorem zQQ {σ ρ:Type} (kb:σ->(List UInt8×Int)->Option (σ⊕ρ)) {k:Int} (hk:kNum k=true) (b:List UInt8):∀(s:σ) (o:σ⊕ρ),go9 kb (pcs k b).1 (pcs k b).2 s=some o->
  ∃q,zfS (rnd kb) (wid9 k) b (.inl s)=some q/\(q= .inl o\/q= .inr o):=by
 refine zpB k (fun b=>∀(s:σ) (o:σ⊕ρ),go9 kb (pcs k b).1 (pcs k b).2 s=some o->
  ∃q,zfS (rnd kb) (wid9 k) b (.inl s)=some q/\(q= .inl o\/q= .inr o)) ?_ ?_ ?_ b
 ·intro s o h;rw [zjE] at h;have h':some (.inl s)=some o:=h;refine ⟨.inl o,zis ?_,.inl rfl⟩;unfold zcm
  grind
 ·intro l c hl hu hc s o h;rw [zpA hl hu] at h;have h':kb s ([],c)=some o:=by
   have h2:(if c=0 then some (.inl s) else kb s ([],c))=some o:=h
   grind
  obtain ⟨t,ht,_⟩:=zHi h';refine ⟨.inr o,zis ?_,.inr rfl⟩;have hp:=qe.2 hl;unfold zcm;rw [uV,zBF hk,sb,hu];simp only;rw [zgC (i:=0) (j:=0) (a:=0) (b:=0) rfl rfl (xx _) (xC _),sb]
  grind
 ·intro l n hl hu g1 g2 g3 ih s o h;rw [ziy hl hu] at h;have hp:=qe.2 hl;have kW:∀{t:Bool} {y:σ⊕ρ},rnd kb (.inl s) (l.take n,0)=some (t,y)->zcm (rnd kb) (wid9 k) l (.inl s)=(if t then some (.inl (l.drop n,y)) else some (.inr (.inr y))):=by
   intro t y ht;unfold zcm;rw [uV,zBF hk,sb,hu];simp only;rw [zgC (i:=0) (j:=(n:Int)) (a:=0) (b:=n) rfl rfl (xC _) g2,sb];simp only [yc,qF];rw [ht,sb];cases t with
   | false=>rw [uR];rfl
   | true=>rw [uS,zqx (a:=n) rfl rfl g2,sb];rfl
  simp only [go9] at h;cases hb:kb s (l.take n,0) with
  | none=>rw [hb] at h;cases h
  | some z=>
   rw [hb] at h;obtain ⟨t,ht,hcase⟩:=zHi hb;have hB:=kW ht;rcases hcase with ⟨rfl,s',rfl⟩| ⟨rfl,r,rfl⟩
   ·obtain ⟨q,hq,hq'⟩:=ih s' o h;exact ⟨q,by rw [zsH hB];exact hq,hq'⟩
   ·have h':some (.inr r)=some o:=h;exact ⟨.inr (.inr r),zis hB,.inr (by rw [qO h'])⟩
theorem zIX {σ ρ:Type} (kb:σ->(List UInt8×Int)->Option (σ⊕ρ)) (k:Int) (b:List UInt8) {s:σ} {o:σ⊕ρ} (h:go9 kb (zlh k b).1 (zlh k b).2 s=some o):zff k b (rnd kb) (.inl s)=some o:=by
 unfold zff;rw [zBI,sb];unfold zlh at h;cases hk:kNum k with
 | false=>
  rw [hk,xr rfl] at h;have h':kb s ([],2)=some o:=h;obtain ⟨t,ht,_⟩:=zHi h';rw [zFV hk,uR,ht,sb]
 | true=>
  rw [hk,xq (by simp)] at h;have hw:=zIY hk;obtain ⟨q,hq,hq'⟩:=zQQ kb hk b s o h
  grind
theorem zzR (k:Int) (b:List UInt8):(zlh k b).2=(zag k b).2/\((zag k b).2=0->(zlh k b).1=(pcs k b).1)/\(∀p∈(zlh k b).1,zbt (zab k) p=true/\1<=p.length/\p.length<=10)/\(zlh k b).1.length<=b.length/\((zlh k b).1=[]\/kNum k=true):=by
 unfold zlh zag;by_cases hn:kNum k=false
 ·grind
 ·have hk:kNum k=true:=by simpa using hn
  rw [xq hn,xq hn];refine ⟨?_,fun _=>rfl,zro hk b,zxr k b,.inr hk⟩
  grind
theorem zFX (hk:kNum k=true) (c:Int):∀(ps:List (List UInt8)) (acc:List Int),(∀p∈ps,zbt (zab k) p=true/\1<=p.length/\p.length<=10)->acc.length+ps.length<=1048576->
  go9 (fun (s:List Int) (x:List UInt8×Int)=>zes k s x.1 x.2) ps c acc=some (if c=0 then .inl (acc++ps.map (zep k)) else .inr (c,acc++ps.map (zep k)))
 | [],acc,_,hl=>by
  simp only [go9,yL,xQ]
  grind [zes]
 | p::ps,acc,hf,hl=>by
  simp only [yk] at hl;have h1:zes k acc p 0=some (.inl (acc++[zep k p])):=by
   unfold zes
   grind [zMr,sb,zjh,zaQ]
  simp only [go9,h1];rw [zFX hk c ps _ (fun q hq=>hf q (xu _ hq)) (by simp;omega)];simp
theorem zJZ (k:Int) {b:List UInt8} (hb:b.length<=1048576):zoL k b=some (zag k b):=by
 obtain ⟨h1,h2,h3,h4,h5⟩:=zzR k b;unfold zoL zky;rw [sb];simp only;have hgo:go9 (fun (s:List Int) (x:List UInt8×Int)=>zes k s x.1 x.2) (zlh k b).1 (zlh k b).2 []=some (if (zlh k b).2=0 then .inl ([]++(zlh k b).1.map (zep k)) else .inr ((zlh k b).2,[]++(zlh k b).1.map (zep k))):=by
  rcases h5 with h5| h5
  ·rw [h5];simp only [go9,yL,xQ]
   grind [zes]
  ·exact zFX h5 _ _ _ h3 (by simp;omega)
 grind [zIX,sb,zlj,ztK]
theorem zDX (c:Int):∀(ps:List (List UInt8)) (n:Nat),n+ps.length<=1048576->
  go9 (fun (s:Int) (x:List UInt8×Int)=>zgm s x.1 x.2) ps c (n:Int)=some (if c=0 then .inl ((n+ps.length:Nat):Int) else .inr (c,((n+ps.length:Nat):Int)))
 | [],n,hl=>by
  simp only [go9,yv,yz]
  grind [zgm]
 | p::ps,n,hl=>by
  simp only [yk] at hl;have h1:zgm (n:Int) p 0=some (.inl ((n+1:Nat):Int)):=by
   grind [zgm,sb,wrap_i64]
  simp only [go9,h1];rw [zDX c ps (n+1) (by omega)]
  grind
theorem zJR (k:Int) {b:List UInt8} (hb:b.length<=1048576):zoK k b=some (((zag k b).1.length:Int),(zag k b).2):=by
 obtain ⟨h1,h2,h3,h4,h5⟩:=zzR k b;unfold zoK zky;rw [sb];simp only;have hgo:=zDX (zlh k b).2 (zlh k b).1 0 (by omega)
 grind [zIX,sb,zlj,ztK]
theorem zJL {k:Int} (hk:kNum k=true) {l:List Int} (h:∀w∈l,0<=w/\w<=18446744073709551615) (hl:l.length<=1048576):∀(d i:Nat),i+d=l.length->
  zlb k l ((l.take i).flatMap (sPut k)) i=some (l.flatMap (sPut k)):=by
 intro d
 induction d with
 | zero=>
  intro i hi;refine zwQ ?_;unfold zgP
  grind
 | succ d ih=>
  intro i hi;have km:i<l.length:=by omega
  have hw:=h _ (xB km);have ku:=zhS (k:=k) hw;have hpre:∀m:List Int,(∀w∈m,0<=w/\w<=18446744073709551615)->(m.flatMap (sPut k)).length<=10*m.length:=by
   intro m hm
   induction m with
   | nil=>simp
   | cons x m ihm=>
    have h1:=zhS (k:=k) (hm x xt);have h2:=ihm (fun w hw=>hm w (xu _ hw))
    grind
  have hp:=hpre (l.take i) (fun w hw=>h w (uh hw));have hti:(l.take i).length=i:=by rw [xS];omega
  have hb:zgP k l ((l.take i).flatMap (sPut k)) i=some (.inl ((l.take (i+1)).flatMap (sPut k),((i+1:Nat):Int))):=by
   unfold zgP;rw [uV,zP rfl km,sb,zIN hw,sb,hk,xr rfl];simp only;rw [zaQ (by omega),sb,uX,pZ km,ym];simp
  rw [zwP hb]
  grind
theorem zMb (k:Int) {l:List Int} (h:∀w∈l,0<=w/\w<=18446744073709551615) (hl:l.length<=1048576):zrA k l=some (if kNum k then (l.flatMap (sPut k),0) else ([],2)):=by
 unfold zrA;rw [zBI,sb];cases hk:kNum k with
 | false=>rw [zFV hk];rfl
 | true=>
  have hlp:=zJL hk h hl l.length 0 (by omega)
  grind [zIY,sb]
abbrev PVw:=zi
def prV (v:Vw):PVw:=⟨v.R,v.Field,v.Run⟩
def zFd (b:List UInt8) (r:Rec):List UInt8:=(b.drop r.From.toNat).take (r.To.toNat - r.From.toNat)
def of10 (m:Mes) (b:List UInt8) (n:Int):List Vw:=(zai m b).1.filter fun v=>v.R.Number==n
theorem zzW (m:Mes) (he:∀p c,e=some (p,c)->3<=c/\c<=5):∀(l:List Rec) (p c:Int),(vws m e l).2=some (p,c)->3<=c/\c<=6
 | [],p,c,h=>by
  cases e with
  | none=>cases h
  | some q=>
   simp only [vws,qM,yr,yy] at h;have:=he q.1 q.2 rfl;omega
 | r::l,p,c,h=>by
  rw [vws] at h;rcases zdE m r.Number r.Wire with hv| ⟨hv,_⟩| ⟨i,run,hv,_⟩
  ·simp only [hv,yr,yy] at h;omega
  ·simp only [hv] at h;exact zzW m he l p c h
  ·simp only [hv] at h;exact zzW m he l p c h
theorem zPP (b:List UInt8):∀p c,(spl 0 b).2=some (p,c)->3<=c/\c<=5:=fun p c h=>by
 have:=(zMq 0 b p c h).1;omega
theorem zwg (m:Mes) (b:List UInt8):(zai m b).2.2=0/\(vws m (spl 0 b).2 (spl 0 b).1).2=none/\(zai m b).1=(vws m (spl 0 b).2 (spl 0 b).1).1/\(zai m b).2.1=0\/(3<=(zai m b).2.2/\(zai m b).2.2<=6)/\(zai m b).1=[]:=by
 unfold zai vwR;cases h:(vws m (spl 0 b).2 (spl 0 b).1).2 with
 | none=>exact .inl ⟨rfl,rfl,rfl,rfl⟩
 | some q=>exact .inr ⟨zzW m (zPP b) _ q.1 q.2 h,rfl⟩
theorem zzX :∀{l:List Rec},(vws m e l).2=none->e=none/\(vws m e l).1.map (·.R)=l
 | [],h=>by
  cases e with
  | none=>exact ⟨rfl,rfl⟩
  | some q=>simp [vws] at h
 | r::l,h=>by
  rw [vws] at h|-;rcases zdE m r.Number r.Wire with hv| ⟨hv,_⟩| ⟨i,run,hv,_⟩
  ·simp only [hv] at h;cases h
  ·simp only [hv] at h|-;have:=zzX h;exact ⟨this.1,by simp [this.2]⟩
  ·simp only [hv] at h|-;have:=zzX h;exact ⟨this.1,by simp [this.2]⟩
theorem zFS :∀{l:List Rec},∀v∈(vws m e l).1,v.R∈l/\vw m v.R.Number v.R.Wire= .inr (v.Field,v.Run)
 | [],v,h=>by cases h
 | r::l,v,h=>by
  rw [vws] at h;rcases zdE m r.Number r.Wire with hv| ⟨hv,_⟩| ⟨i,run,hv,_⟩
  ·simp only [hv] at h;cases h
  all_goals
   simp only [hv] at h;rcases xy.1 h with rfl| h
   ·exact ⟨xt,hv⟩
   ·have:=zFS v h;exact ⟨xu _ this.1,this.2⟩
theorem zDD (h:v∈(zai m b).1):v.R∈(spl 0 b).1/\vw m v.R.Number v.R.Wire= .inr (v.Field,v.Run):=by
 rcases zwg m b with ⟨_,_,e,_⟩| ⟨_,e⟩
 ·rw [e] at h;exact zFS v h
 ·rw [e] at h;cases h
theorem zzH (b:List UInt8) (base:Nat) (l:List UInt8):l=b.drop base->base<=b.length->(spl base l).2=none->(spl base l).1.flatMap (zFd b)=l:=by
 refine zgz (fun base l=>l=b.drop base->base<=b.length->(spl base l).2=none->(spl base l).1.flatMap (zFd b)=l) ?_ ?_ ?_ base l
 ·intro base _ _ _;rw [zdr];rfl
 ·intro base l c hl h _ _ _ hn;rw [zfJ hl h] at hn;cases hn
 ·intro base l n w a t hl h _ g1 g2 g3 ih hld hbase hn;have ku:l.length=b.length - base:=by rw [hld];simp
  rw [zbW hl h] at hn|-;have ih':=ih (by rw [hld,yb]) (by omega) hn;have hr:zFd b ⟨n,w,(base:Int),((base+a:Nat):Int),((base+t:Nat):Int)⟩=l.take t:=by
   unfold zFd;simp only [xD];rw [<-hld,show base+t - base=t by omega]
  rw [xE,hr,ih',qn]
theorem zsv (t:zaa):zlT t=some (zaU t.Number t.Wire):=by
 have e:ziA t.Wire=some (decide (t.Wire=0\/t.Wire=1\/t.Wire=2\/t.Wire=5)):=by
  unfold ziA;by_cases h0:t.Wire=0
  ·simp [h0]
  by_cases h1:t.Wire=1
  ·simp [h1]
  by_cases h2:t.Wire=2
  ·simp [h2]
  by_cases h5:t.Wire=5
  ·simp [h5]
  simp [h0,h1,h2,h5]
 unfold zlT zaU;rw [e];by_cases h1:1<=t.Number
 ·by_cases h2:t.Number<=536870911
  ·rw [itT (by simpa using h1),itT (by simpa using h2),sb,sb];simp [h1,h2]
  ·rw [itT (by simpa using h1),itF (by simpa using h2),sb];simp [h2]
 ·rw [itF (by simpa using h1),sb];simp [h1]
theorem zQs (w:Nat) (h:w<18446744073709551616):andI .u64 (w:Int) 7=((w%8:Nat):Int):=by
 have e:=zDK (k:= .u64) rfl (a:=w) (b:=7) (by simpa [IntKind.bits] using h) (by simp [IntKind.bits]);have e2:w&&&7=w%8:=uP w 3;rw [e2] at e;exact e
theorem zQM (w:Nat):shrI .u64 (w:Int) 3=((w/8:Nat):Int):=zuQ (k:= .u64) (a:=w) (b:=3) (by simp [IntKind.bits])
theorem zMC (b:List UInt8):zrE b=some ((⟨(tg b).1,(tg b).2.1⟩:zaa),(tg b).2.2.1,(tg b).2.2.2):=by
 obtain ⟨h1,h2,h3,h4,h5,h6,h7⟩:=zhw b;unfold zrE tg;rw [zxu,sb];by_cases h:(rd b).2.2=0
 ·rw [itF (by simpa using h)];obtain ⟨w,hw⟩:∃w:Nat,(rd b).1=w:=⟨(rd b).1.toNat,by omega⟩;rw [hw] at h2|-;rw [zQM,zQs w (by omega)];have e0:i64.wrap ((w%8:Nat):Int)=(w:Int)%8:=by rw [uX];omega
  by_cases hg:4294967295<w
  ·have e1:i64.wrap (if (536870912:Int)<((w/8:Nat):Int) then 536870912 else ((w/8:Nat):Int))=536870912:=by
    split
    ·rfl
    ·rw [uX];omega
   rw [e0,e1,zsv,sb];have e2:zaU 536870912 ((w:Int)%8)=false:=by simp [zaU]
   simp only [e2];rw [uR,zrG h (.inl (by rw [hw];omega))]
  ·have e1:i64.wrap (if (536870912:Int)<((w/8:Nat):Int) then 536870912 else ((w/8:Nat):Int))=(w:Int)/8:=by
    rw [xq (by omega),uX];omega
   rw [e0,e1,zsv,sb];simp only;cases ht:zaU ((w:Int)/8) ((w:Int)%8)
   ·rw [uR,zrG h (.inr (by rw [hw];exact ht))]
   ·rw [uS,zDy h (by rw [hw,ht];simp;omega),hw]
 ·rw [itT (by simpa using h),zDx h]
theorem zQb {t:zaa} (h:zaU t.Number t.Wire=true):zrF t=some ((tW t.Number t.Wire:Nat):Int):=by
 have hr:=zcZ.1 h;obtain ⟨e,km⟩:=zsZ h;unfold zrF;congr 1;obtain ⟨n,hn⟩:∃n:Nat,t.Number=n:=⟨t.Number.toNat,by omega⟩;obtain ⟨w,hw⟩:∃w:Nat,t.Wire=w:=⟨t.Wire.toNat,by omega⟩;have e3:tW t.Number t.Wire=8*n+w:=by omega
 rw [e3,hn,hw,wrap_u64,wrap_u64,yG (by omega) (by omega),yG (by omega) (by omega)];have e4:shlI .u64 (n:Int) 3=((n*8:Nat):Int):=by
  have h3:shlI .u64 (n:Int) 3=((n*8%18446744073709551616:Nat):Int):=by
   simp [shlI,IntKind.bits,wrap_u64]
  rw [h3,qu (by omega)]
 rw [e4,zxp rfl (by simp [IntKind.bits];omega) (by simp [IntKind.bits];omega),pT,zyX w n 3 (by omega)];congr 1;omega
theorem zOi {t:zaa} (b:List UInt8) (hb:b.length<=1099511627776) (h:zaU t.Number t.Wire=true):zpI b t=some (b++enc (tW t.Number t.Wire),0):=by
 obtain ⟨_,km⟩:=zsZ h;unfold zpI;rw [zsv,sb,h,uS,zQb h,sb,zHa b (by omega) hb,sb]
theorem zOj {t:zaa} (b:List UInt8) (h:zaU t.Number t.Wire=false):zpI b t=some ([],2):=by
 unfold zpI;rw [zsv,sb,h,uR]
theorem zIL (hw:w=0\/w=1\/w=2\/w=5) (hb:b.length<=1048576):
  zje w b=some (match zev w 0 b with| .inl c=>(0,(if w=0 then (rd b).2.1 else 0),c)| .inr (a,t)=>((a:Int),(t:Int),0)):=by
 obtain ⟨h1,h2,h3,h4,h5,h6,h7⟩:=zhw b;unfold zje zev;rcases hw with rfl| rfl| rfl| rfl
 ·rw [uR,zIJ,sb,xr rfl];by_cases h:(rd b).2.2=0
  ·rw [xq (by simpa using h)];simp only [h,xK];congr 3;simp;omega
  ·rw [xr h];rfl
 ·rw [uS,uR,sb,uS,xq (show ¬((1:Int)=0) by omega),xq (show ¬((1:Int)=2) by omega)];simp only;have e:u64.wrap (i64.wrap ((b.length:Int) - 0))=(b.length:Int):=by rw [uX,wrap_u64];omega
  rw [e];by_cases g:b.length<8
  ·rw [uV,xr (by simpa using g)];rfl
  ·rw [uW,xq (by simpa using g)];rfl
 ·rw [uS,uS,uS,uR,zxu,sb,sb,xq (show ¬((2:Int)=0) by omega),xr (show (2:Int)=2 from rfl)];by_cases h:(rd b).2.2=0
  ·have hk:=h7 h;rw [itF (by simpa using h),xq (show ¬((rd b).2.2≠0) from fun g=>g h)];simp only;have e:u64.wrap (i64.wrap ((b.length:Int) - (rd b).2.1))=(b.length:Int) - (rd b).2.1:=by rw [uX,wrap_u64];omega
   rw [e];by_cases g:(b.length:Int) - (rd b).2.1<(rd b).1
   ·rw [itT (by simpa using g),xr g];rfl
   ·rw [itF (by simpa using g),xq g,wrap_i64 (x:=(rd b).1) (by omega),uX];simp;omega
  ·rw [itT (by simpa using h),xr h];rfl
 ·rw [uS,uS,uR,sb,uS,xq (show ¬((5:Int)=0) by omega),xq (show ¬((5:Int)=2) by omega)];simp only;have e:u64.wrap (i64.wrap ((b.length:Int) - 0))=(b.length:Int):=by rw [uX,wrap_u64];omega
  rw [e];by_cases g:b.length<4
  ·rw [uV,xr (by simpa using g)];rfl
  ·rw [uW,xq (by simpa using g)];rfl
theorem zDP (w:Int) (k:Nat) (m:List UInt8):zev w k m=match zev w 0 m with| .inl c=> .inl c| .inr (a,t)=> .inr (k+a,k+t):=by
 unfold zev
 repeat' split
 all_goals first
  | rfl
  | (rename_i h1 h2;injection h2 with h3;injection h3 with h4 h5;subst h4 h5;simp<;>omega)
  | simp_all<;>omega
theorem zus (hb:b.length<=1048576) (at5:Int):zgk b at5=some (zbm b at5):=by
 unfold zgk zbm;by_cases h:at5<0\/at5>=b.length
 ·rw [itT (by simpa using h),xr h];rfl
 ·rw [itF (by simpa using h),xq h];obtain ⟨p,rfl⟩:∃p:Nat,at5=p:=⟨at5.toNat,by omega⟩;rw [zqx rfl rfl (by omega),sb,zMC,sb,xD];have hdl:(b.drop p).length=b.length - p:=by simp
  rcases zzL (b.drop p) with ⟨c,ht,hc⟩| ⟨n,w,k,ht,hr,k1,k2,k3,hrd⟩
  ·have e:rec5 (b.drop p)= .inl c:=by unfold rec5;rw [ht,xr (by simp only;omega)]
   rw [e,ht,uV];rfl
  ·obtain ⟨k,rfl⟩:∃j:Nat,k=j:=⟨k.toNat,by omega⟩
   have e:rec5 (b.drop p)=match zev w k ((b.drop p).drop k) with
    | .inl c=> .inl c
    | .inr p=> .inr (n,w,p.1,p.2):=by unfold rec5;rw [ht];simp<;>rfl
   have hdd:(b.drop p).drop k=b.drop (p+k):=by rw [yb]
   have hml:(b.drop (p+k)).length=b.length - (p+k):=by simp
   have ew:i64.wrap ((p:Int)+k)=((p+k:Nat):Int):=by rw [uX];push_cast;rfl
   rw [e,ht,uU,hdd];simp only [ew];rw [zqx rfl rfl (by omega),sb,zIL (zcZ.1 hr).2.2 (by omega),sb,zDP w k];rcases zkP w 0 (b.drop (p+k)) with ⟨c,hc,hc2⟩| ⟨a,t,hc,_,_,hle,_⟩
   ·rw [hc];simp only;rw [uV];rfl
   ·rw [hc];simp only;rw [uS,uX,uX];simp only [yr,yy,zj.mk.injEq,qz,qy];push_cast;omega
theorem zNh {w:Int} {v:List UInt8} (hw:w=0\/w=1\/w=2\/w=5) (hv:v.length<=1048576):zkZ w v=some (zbt w v):=by
 obtain ⟨h1,h2,h3,h4,h5,h6,h7⟩:=zhw v;unfold zkZ;by_cases h:w=2
 ·rw [itT (by simpa using h)];subst h;rfl
 ·rw [itF (by simpa using h),zIL hw hv,sb];unfold zev zbt;congr 1;rcases hw with rfl| rfl| rfl| rfl
  ·rw [xr rfl,xr rfl];by_cases hg:(rd v).2.2=0
   ·rw [xq (by simpa using hg)];have e:(((0+(rd v).2.1.toNat:Nat):Int)==(v.length:Int))=decide ((rd v).2.1=v.length):=by rw [ztO];exact qB.2 (by omega)
    simp only [e,hg,qz];rfl
   ·rw [xr hg];simp [hg]
  ·by_cases g:v.length<8
   ·have:v.length≠8:=by omega
    simp [g,this]
   ·by_cases g8:v.length=8
    ·simp [g8]
    ·have:¬((8:Int)=v.length):=by omega
     simp [g,g8,this]
  ·exact absurd rfl h
  ·by_cases g:v.length<4
   ·have:v.length≠4:=by omega
    simp [g,this]
   ·by_cases g8:v.length=4
    ·simp [g8]
    ·have:¬((4:Int)=v.length):=by omega
     simp [g,g8,this]
theorem zEX {n w:Int} {v:List UInt8} (h:zaU n w=true) (hv:v.length<=1048576):(put5 n w v).length<=v.length+20:=by
 obtain ⟨_,km⟩:=zsZ h;have h1:=ziL (v:=tW n w) (by omega);have h2:=ziL (v:=v.length) (by omega);rw [ziz];split<;>omega
theorem zII {b v:List UInt8} {n w:Int} (hb:b.length<=1048576) (hv:v.length<=1048576):
  zku b n w v=some (if zaU n w=true/\zbt w v=true then (b++put5 n w v,0) else ([],2)):=by
 unfold zku;cases h:zaU n w
 ·rw [zOj [] h,sb,uR,sb,uR];rfl
 ·have hp:=zEX h hv;rw [zOi [] (by simp) h,sb,uS,zNh (zcZ.1 h).2.2 hv,sb,sb];cases hf:zbt w v
  ·rw [uR];rfl
  ·rw [uS];have e:u64.wrap (v.length:Int)=(v.length:Int):=by rw [wrap_u64,yG (by omega) (by omega)]
   obtain ⟨_,km⟩:=zsZ h;have h1:=ziL (v:=tW n w) (by omega);by_cases hw:w=2
   ·have hl:=ziz n w v;rw [xr hw] at hl;rw [itT (by simpa using hw),e,zHa _ (by omega) (by simp;omega),sb,zvp (by simp) (by simp;omega),sb];simp [put5,hw]
   ·have hl:=ziz n w v;rw [xq hw] at hl;rw [itF (by simpa using hw),zvp (by simp) (by simp;omega),sb];simp [put5,hw]
theorem zOa {b v:List UInt8} {n:Int} (hb:b.length<=1048576) (hv:v.length<=1048576):
  zmA b n v=some (if zaU n 2=true then b++put5 n 2 v else b):=by
 unfold zmA;rw [zII hb hv,sb];have hf:zbt 2 v=true:=rfl;simp only [hf,qy];cases h:zaU n 2
 ·rw [xq (show ¬(false=true) by simp),xq (show ¬(false=true) by simp),uR,zvp (by simp) (by simp;omega),sb];simp
 ·rw [xr rfl,xr rfl,uS]
abbrev Head:=zL
abbrev Role:=zQ
def rol (m:Mes) (h:Head):Role:=match vw m h.number h.wire with
 | .inl c=>⟨0,false,c⟩
 | .inr (i,run)=>⟨i,run,0⟩
theorem zKm (hm:m.Fields.length<=1152921504606846976) (n:Int):zmM m n=some (fldI m n):=by
 unfold zmM zak;have h:=zrX (fun f:Fld=>f.Number==n) m.Fields (fun i=>zO m.Fields n i) (zbf (by unfold zG;rw [uU])) (fun i hi=>by
  by_cases hp:(m.Fields[i].Number==n)=true
  ·rw [xr hp];exact zbf (by unfold zG zjR;rw [uV,zP rfl hi,sb,sb,itT hp])
  ·rw [xq hp];exact zdV (by unfold zG zjR;rw [uV,zP rfl hi,sb,sb,itF (pC hp),uX];rfl)) m.Fields.length 0 (by omega) (fun j _ h=>by omega)
 have h':zO m.Fields n 0=_:=h;rw [h',sb];unfold fldI zlm;cases m.Fields.findIdx? (fun f:Fld=>f.Number==n) with
 | none=>rfl
 | some i=>rfl
theorem zKn (f:Fld) (w:Int):zmN f w=some (decide (f.Repeated=true/\kNum f.Kind=true/\w=2)):=by
 unfold zmN;cases f.Repeated
 ·simp [sb]
 ·by_cases hw:w=2
  ·subst hw;rw [itT rfl,itT (c:=(2:Int)==2) rfl,zyB,sb,sb];simp_all
  grind
theorem zMH (k w:Int):zoY k w=some (decide (¬(zbb k=false\/zab k≠w))):=by
 unfold zoY;rw [zEI,sb];cases zbb k with
 | false=>rfl
 | true=>
  grind
theorem zHy (hm:m.Fields.length<=1152921504606846976) (h:Head):zjm m h=some (rol m h):=by
 unfold zjm rol;rw [zKm hm,sb]
 grind [vw,sb,wrap_i64,zcX,zP,zbe,zKn,zMH]
def zpM (m:Mes) (met:List (Head×Role)):Prop:=∀h x,mget met h=some x->x=rol m h
theorem zpM.nil (m:Mes):zpM m []:=fun h x g=>by cases g
theorem zpM.put (g:zpM m met) (h:Head):zpM m (mput met h (rol m h)):=fun j x hx=>by
 rw [zfR] at hx;by_cases e:j=h
 ·grind
 ·rw [xq e] at hx;exact g j x hx
theorem zyH (hm:m.Fields.length<=1152921504606846976) (hb:b.length<=1048576) (p:Int) (g:zpM m met):
  ∃kw,zlX m b p met=some (prV (zbp m b p).1,(zbp m b p).2,kw)/\zpM m kw:=by
 unfold zlX zbp;rw [zus hb,sb];by_cases h:(zbm b p).2=0
 ·rw [itF (by simpa using h),xq (show ¬((zbm b p).2≠0) from fun q=>q h)]
  generalize (zbm b p).1=r
  have key:∃kw,(if (!(mget met (⟨r.Number,r.Wire⟩:Head)).isSome) then (zjm m (⟨r.Number,r.Wire⟩:Head)>>=fun kj=>some ((mput met (⟨r.Number,r.Wire⟩:Head) kj),kj.field,kj.run,kj.e))
    else some (met,((mget met (⟨r.Number,r.Wire⟩:Head)).getD (⟨0,false,0⟩:Role)).field,((mget met (⟨r.Number,r.Wire⟩:Head)).getD (⟨0,false,0⟩:Role)).run,((mget met (⟨r.Number,r.Wire⟩:Head)).getD (⟨0,false,0⟩:Role)).e))=some (kw,(rol m ⟨r.Number,r.Wire⟩).field,(rol m ⟨r.Number,r.Wire⟩).run,(rol m ⟨r.Number,r.Wire⟩).e)/\zpM m kw:=by
   cases hg:mget met (⟨r.Number,r.Wire⟩:Head) with
   | none=>
    rw [uR,zHy hm,sb];exact ⟨_,rfl,g.put _⟩
   | some x=>
    rw [uS];refine ⟨met,?_,g⟩;rw [<-g _ x hg];rfl
  obtain ⟨kw,hk,hM⟩:=key;refine ⟨kw,?_,hM⟩;rw [hk,sb];unfold rol;rcases zdE m r.Number r.Wire with hv| ⟨hv,_⟩| ⟨i,run,hv,_⟩
  ·simp only [hv];rfl
  ·simp only [hv];rfl
  ·simp only [hv];rfl
 ·rw [itT (by simpa using h),xr h];exact ⟨met,rfl,g⟩
theorem zFR (hm:m.Fields.length<=1152921504606846976) (hb:b.length<=1048576) (p:Int):zlW m b p=some (prV (zbp m b p).1,(zbp m b p).2):=by
 obtain ⟨kw,h,_⟩:=zyH hm hb p (zpM.nil m);unfold zlW;rw [h,sb]
theorem zKk (hm:m.Fields.length<=1152921504606846976) (hb:b.length<=1048576) (base:Nat) (l:List UInt8):∀(out:List Vw) (met:List (Head×Role)),base<=b.length->l=b.drop base->out.length<=base->zpM m met->
  zhZ b m (out.map prV) met base=some (match (vws m (spl base l).2 (spl base l).1).2 with| none=> .inl ((out++(vws m (spl base l).2 (spl base l).1).1).map prV)| some (p,c)=> .inr (p,c)):=by
 refine zgz (fun base l=>∀(out:List Vw) (met:List (Head×Role)),base<=b.length->l=b.drop base->out.length<=base->zpM m met->
  zhZ b m (out.map prV) met base=some (match (vws m (spl base l).2 (spl base l).1).2 with| none=> .inl ((out++(vws m (spl base l).2 (spl base l).1).1).map prV)| some (p,c)=> .inr (p,c))) ?_ ?_ ?_ base l
 ·intro base out met hbase hl ho hM;have:b.length<=base:=by have:=congrArg List.length hl;simp at this;omega
  rw [zdr];simp only [vws,pR,xQ];refine zls ?_;unfold zfh
  grind
 ·intro base l c hl h hc out met hbase hld ho hM;subst hld;have km:base<b.length:=by have:=qe.2 hl;simp at this;omega
  rw [zfJ hl h];simp only [vws,qM];refine zls ?_;unfold zfh;have e:zbm b base=(zrec,c):=by unfold zbm;rw [xq (by omega),xD,h]
  have e2:zbp m b base=(zvw,c):=by unfold zbp;rw [e,xr (by simp only;omega)]
  obtain ⟨kw,hk,_⟩:=zyH hm hb base hM
  grind
 ·intro base l n w a t hl h _ g1 g2 g3 ih out met hbase hld ho hM;subst hld;simp only [xR] at g3;have km:base<b.length:=by omega
  rw [zbW hl h];have e:zbm b base=(⟨n,w,base,(base+a:Nat),(base+t:Nat)⟩,0):=by
   unfold zbm;rw [xq (by omega),xD,h];push_cast;rfl
  rw [vws];obtain ⟨kw,hk,hM'⟩:=zyH hm hb base hM;rcases zdE m n w with hv| ⟨hv,_⟩| ⟨i,run,hv,_,hi⟩
  ·have e2:zbp m b base=(zvw,6):=by unfold zbp;rw [e];simp only [yK,yQ,yp,hv]
   simp only [hv];refine zls ?_;unfold zfh
   grind
  ·have e2:zbp m b base=(⟨⟨n,w,base,(base+a:Nat),(base+t:Nat)⟩, -1,false⟩,0):=by unfold zbp;rw [e];simp only [yK,yQ,yp,hv]
   simp only [hv];refine (zpT (l':=(out++([⟨⟨n,w,base,(base+a:Nat),(base+t:Nat)⟩, -1,false⟩]:List Vw)).map prV) (kw:=kw) (fromv':=((base+t:Nat):Int)) ?_).trans ?_
   ·unfold zfh;rw [uV,hk,sb,e2,uS,zaQ (by simp;omega),sb,qi];rfl
   ·rw [ih _ kw (by omega) (by rw [yb]) (by simp;omega) hM']
    grind
  ·have e2:zbp m b base=(⟨⟨n,w,base,(base+a:Nat),(base+t:Nat)⟩,i,run⟩,0):=by unfold zbp;rw [e];simp only [yK,yQ,yp,hv]
   simp only [hv];refine (zpT (l':=(out++([⟨⟨n,w,base,(base+a:Nat),(base+t:Nat)⟩,i,run⟩]:List Vw)).map prV) (kw:=kw) (fromv':=((base+t:Nat):Int)) ?_).trans ?_
   ·unfold zfh;rw [uV,hk,sb,e2,uS,zaQ (by simp;omega),sb,qi];rfl
   ·rw [ih _ kw (by omega) (by rw [yb]) (by simp;omega) hM']
    grind
theorem zOo (hm:m.Fields.length<=1152921504606846976) (hb:b.length<=1048576):zrO m b=some ((zai m b).1.map prV,(zai m b).2.1,(zai m b).2.2):=by
 unfold zrO;have h:=zKk hm hb 0 b [] [] (xC _) rfl (xx _) (zpM.nil m);have h':zhZ b m [] [] 0=_:=h;rw [h',sb];unfold zai vwR;cases (vws m (spl 0 b).2 (spl 0 b).1).2 with
 | none=>rfl
 | some p=>rfl
theorem zQJ {α:Type} {xs pre post:List α} {v:α} (e:xs=pre++v::post):idx xs (pre.length:Nat)=some v:=by
 subst e;rw [zP rfl (by simp)];simp
theorem zxy (m:Mes) (b:List UInt8):(zai m b).1.length<=b.length:=by
 grind [zwg,zzX,zIM]
theorem zNQ (n:Int) (all:List Vw) (x:Int×Int) (hl:all.length<=1048576):∀(post pre:List Vw),all=pre++post->
  zkF n (all.map prV,x) ((pre.filter fun v=>v.R.Number==n).map prV) (pre.length:Nat)=some ((all.filter fun v=>v.R.Number==n).map prV):=by
 intro post
 induction post with
 | nil=>
  intro pre e;rw [xQ] at e;subst e;refine zzT ?_;unfold ziR
  grind
 | cons v post ih=>
  intro pre e;have hi:idx (all.map prV) (pre.length:Nat)=some (prV v):=by
   have:=zQJ (xs:=all.map prV) (pre:=pre.map prV) (post:=post.map prV) (v:=prV v) (by rw [e];simp)
   grind
  have km:pre.length<all.length:=by rw [e];simp
  have k1:(pre.filter fun v=>v.R.Number==n).length<=pre.length:=pz _ _;refine (zzS (l':=((pre++[v]).filter fun v=>v.R.Number==n).map prV) (v':=((pre++[v]).length:Nat)) ?_).trans (ih (pre++[v]) (by rw [e];simp));unfold ziR;rw [uV,hi,sb];by_cases hn:v.R.Number=n
  ·rw [itT (by simpa [prV] using hn),zaQ (by simp;omega),sb,uX];simp [hn]
  ·rw [itF (by simpa [prV] using hn),uX];simp [hn]
theorem zQh {m:Mes} (hm:m.Fields.length<=1152921504606846976) {b:List UInt8} (hb:b.length<=1048576) (n:Int):zvb m b n=some ((of10 m b n).map prV):=by
 have hl:=zxy m b;have h:=zNQ n (zai m b).1 ((zai m b).2.1,(zai m b).2.2) (by omega) (zai m b).1 [] rfl;have h':zkF n ((zai m b).1.map prV,(zai m b).2.1,(zai m b).2.2) [] 0=_:=h;unfold zvb;rw [zOo hm hb,sb,h',sb];rfl
def zpR (m:Mes) (g:Int->List UInt8->Nat) (b:List UInt8) (r:Rec):Nat:=match vw m r.Number r.Wire with
 | .inl _=>0
 | .inr (i,run)=>if i<0\/run=true then 0 else if (zt m i).Kind=17 then g (zt m i).Of (valB b r)+1 else 0
def zns (m:Mes) (g:Int->List UInt8->Nat) (b:List UInt8):List Rec->Nat
 | []=>0
 | r::l=>max (zpR m g b r) (zns m g b l)
def zkj (s:List Mes):Nat->Int->List UInt8->Nat
 | 0,k,b=>zns (zm s k) (fun _ _=>0) b (spl 0 b).1
 | d+1,k,b=>zns (zm s k) (zkj s d) b (spl 0 b).1
theorem zuf :∀{l:List Rec},zns m g b l<=e↔∀r∈l,zpR m g b r<=e
 | []=>by simp [zns]
 | r::l=>by
  have ih:=zuf (m:=m) (g:=g) (b:=b) (e:=e) (l:=l);unfold zns;rw [List.forall_mem_cons,<-ih];omega
theorem zsr (h:zcQ m a b r=none) (hc0:c=none↔e=0)
  (hc:∀q,a=some q->∀q',c=some q'->∀k v,q k v=none->(q' k v=none↔g k v+1<=e)):zcQ m c b r=none↔zpR m g b r<=e:=by
 unfold zcQ at h|-;unfold zpR;cases hv:vw m r.Number r.Wire with
 | inl x=>rw [hv] at h;cases h
 | inr p=>
  obtain ⟨i,run⟩:=p;rw [hv] at h;simp only at h|-;by_cases hi:i<0
  ·grind
  ·rw [xq hi] at h|-;unfold zir at h|-;by_cases hr:run=true
   ·grind
   ·rw [xq hr] at h|-;rw [xq (show ¬(i<0\/run=true) from fun q=>q.elim hi hr)];by_cases h15:(zt m i).Kind=15/\zhE (valB b r)=false
    ·grind
    ·rw [xq h15] at h|-;by_cases kq:(zt m i).Kind=17
     ·rw [xr kq] at h|-;rw [xr kq];cases a with
      | none=>cases h
      | some q=>
       simp only at h;cases hq:q (zt m i).Of (valB b r) with
       | some z=>rw [hq] at h;cases h
       | none=>
        cases c with
        | none=>
         grind
        | some q'=>
         grind
     grind
theorem zDZ (s:List Mes):∀(d e:Nat) (k:Int) (b:List UInt8),e<=d->zH s d k b=none->(zH s e k b=none↔zkj s d k b<=e)
 | 0,e,k,b,he,h=>by
  have:e=0:=by omega
  subst this;refine ⟨fun _=>zuf.2 (fun r hr=>?_),fun _=>h⟩;have h':=(zbX.1 h).1 r hr;exact (zsr (a:=none) (c:=none) h' (by simp) (fun q hq q' hq'=>nomatch hq')).1 h'
 | d+1,0,k,b,he,h=>by
  have h':zcB (zm s k) (some (zH s d)) b (spl 0 b)=none:=h;rw [zbX] at h';show zcB (zm s k) none b (spl 0 b)=none↔zns _ _ _ _<=0;rw [zbX,zuf];constructor
  ·intro hh r hr;exact (zsr (a:=some (zH s d)) (c:=none) (h'.1 r hr) (by simp) (fun q hq q' hq'=>nomatch hq')).1 (hh.1 r hr)
  ·intro hh;exact ⟨fun r hr=>(zsr (a:=some (zH s d)) (c:=none) (h'.1 r hr) (by simp) (fun q hq q' hq'=>nomatch hq')).2 (hh r hr),h'.2⟩
 | d+1,e+1,k,b,he,h=>by
  have h':zcB (zm s k) (some (zH s d)) b (spl 0 b)=none:=h;rw [zbX] at h';show zcB (zm s k) (some (zH s e)) b (spl 0 b)=none↔zns _ _ _ _<=e+1;rw [zbX,zuf];have key:∀r∈(spl 0 b).1,zcQ (zm s k) (some (zH s e)) b r=none↔zpR (zm s k) (zkj s d) b r<=e+1:=fun r hr=>
   zsr (a:=some (zH s d)) (h'.1 r hr) (by simp) (fun q hq q' hq' k v hk=>by
    cases hq;cases hq';have:=zDZ s d e k v (by omega) hk;rw [this];omega)
  exact ⟨fun hh r hr=>(key r hr).1 (hh.1 r hr),fun hh=>⟨fun r hr=>(key r hr).2 (hh r hr),h'.2⟩⟩
abbrev zke:=zn
def zhF (s:List Mes) (met:List (zke×PVw)):Prop:=∀h x,mget met h=some x->vw (zm s h.message) h.number h.wire= .inr (x.Field,x.Run)
theorem zhF.nil (s:List Mes):zhF s []:=fun h x g=>by cases g
theorem zhF.put (g:zhF s met) (hv:vw (zm s h.message) h.number h.wire= .inr (v.Field,v.Run)):zhF s (mput met h v):=fun j x hx=>by
 rw [zfR] at hx;by_cases e:j=h
 ·grind
 ·rw [xq e] at hx;exact g j x hx
theorem zFW {s:List Mes} {k:Nat} (hk:k<s.length) (hm:(zm s k).Fields.length<=1152921504606846976) {b:List UInt8} (hb:b.length<=1048576) (p:Int) {t:Nat} (ht:t<=b.length) {met:List (zke×PVw)} (g:zhF s met):
  ∃kw,zhq ⟨s,b,met⟩ k p t=some (prV (zbp (zm s k) (b.take t) p).1,(zbp (zm s k) (b.take t) p).2,kw)/\zhF s kw:=by
 have hbt:(b.take t).length<=1048576:=by rw [xS];omega
 have hcut:cut b 0 (t:Int)=some (b.take t):=by
  rw [zgC (i:=0) (j:=t) rfl rfl (xC _) ht];simp
 have hidx:idx s (k:Int)=some (zm s k):=by rw [zP rfl hk,zbq hk]
 have hvl:=zFR hm hbt p;unfold zhq;simp only;rw [hcut,sb,zus hbt,sb];unfold zbp at hvl|-;by_cases h:(zbm (b.take t) p).2=0
 ·rw [itF (by simpa using h),xq (show ¬((zbm (b.take t) p).2≠0) from fun q=>q h)];rw [xq (show ¬((zbm (b.take t) p).2≠0) from fun q=>q h)] at hvl
  generalize (zbm (b.take t) p).1=r at hvl|-
  cases hg:mget met (⟨(k:Int),r.Number,r.Wire⟩:zke) with
  | none=>
   rw [uR,hidx,sb,hvl,sb];cases hv:vw (zm s k) r.Number r.Wire with
   | inl c=>
    have hc:c=6:=by
     grind [zdE]
    subst hc;exact ⟨met,by rw [uR];rfl,g⟩
   | inr q=>
    obtain ⟨i,run⟩:=q;refine ⟨_,?_,g.put (h:=⟨(k:Int),r.Number,r.Wire⟩) (v:=prV ⟨r,i,run⟩) hv⟩;rfl
  | some x=>
   have hv:=g _ _ hg;simp only at hv;rw [uS,hv];exact ⟨met,rfl,g⟩
 ·rw [itT (by simpa using h),xr h];exact ⟨met,rfl,g⟩
def zqJ (f:Fld) (run:Bool) (v:List UInt8):Int:=if run=true then (zmn f.Kind v).2 else if f.Kind=15/\zhE v=false then 7 else if f.Kind=17 then 8 else 0
theorem zKl (f:Fld) (run:Bool) (hv:v.length<=1048576):zlg f run v=some (zqJ f run v):=by
 unfold zlg zqJ
 grind [zag,zmn,zwa,sb,zJR]
abbrev Find:=zw
def okR (o:Option (Int×Int)) (a dp:Nat) (r:Find):Prop:=match o with
 | none=>r=⟨(dp:Int),0,0⟩
 | some (p,c)=>r.place=(a:Int)+p/\r.e=c
def zzK (s:List Mes):Nat->znj
 | 0=>none
 | d+1=>some (zH s d)
def zvq (s:List Mes):Nat->Int->List UInt8->Nat
 | 0=>fun _ _=>0
 | d+1=>zkj s d
theorem zJl (s:List Mes) (d:Nat) (k:Int) (b:List UInt8):zH s d k b=zcB (zm s k) (zzK s d) b (spl 0 b):=by cases d<;>rfl
theorem zMZ (s:List Mes) (d:Nat) (k:Int) (b:List UInt8):zkj s d k b=zns (zm s k) (zvq s d) b (spl 0 b).1:=by cases d<;>rfl
theorem zMz (s:List Mes) (d:Nat):∀g,zzK s d=some g->zvk g:=fun g h=>by
 cases d with
 | zero=>cases h
 | succ d=>cases h;exact zkl s d
theorem zNT (b:List UInt8) (t a x y:Nat) (h:a+y<=t):(((b.take t).drop a).drop x).take (y - x)=(b.take (a+y)).drop (a+x):=by
 rw [yb,qx,qx,qo];congr 1;omega
theorem zKq {s:List Mes} {k:Nat} (hk:k<s.length) (hm:(zm s k).Fields.length<=1152921504606846976) {b:List UInt8} (hb:b.length<=1048576) {d:Int} {a t:Nat} (hat:a<=t) (ht:t<=b.length) {sub:znj} {gd:Int->List UInt8->Nat}
  (hg:∀g,sub=some g->zvk g) {recv:zah->Int->zi->Int->Option (zw×(List (zn×zi)))} {met0:List (zke×PVw)}
  (kX:∀met,zhF s met->∀(n w i:Int) (run:Bool) (base x y:Nat),vw (zm s k) n w= .inr (i,run)->1<=x->x<=y->a+base+y<=t->
   ∃R kw,recv ⟨s,b,met⟩ k ⟨⟨n,w,((a+base:Nat):Int),((a+(base+x):Nat):Int),((a+(base+y):Nat):Int)⟩,i,run⟩ d=some (R,kw)/\zhF s kw/\
    okR (zcQ (zm s k) sub ((b.take t).drop a) ⟨n,w,base,(base+x:Nat),(base+y:Nat)⟩) a (zpR (zm s k) gd ((b.take t).drop a) ⟨n,w,base,(base+x:Nat),(base+y:Nat)⟩) R)
  (base:Nat) (l:List UInt8):∀(met:List (zke×PVw)) (dp:Nat),zhF s met->l=((b.take t).drop a).drop base->base<=t - a->
  ∃kw D,zhF s kw/\zbT d k recv t ⟨s,b,met0⟩ met ((a+base:Nat):Int) dp=some (match zcB (zm s k) sub ((b.take t).drop a) (spl base l) with
   | none=> .inl (kw,((max dp (zns (zm s k) gd ((b.take t).drop a) (spl base l).1):Nat):Int))
   | some (p,c)=> .inr (kw,D,(a:Int)+p,c)):=by
 have hvl:((b.take t).drop a).length=t - a:=by simp;omega
 generalize hvv:(b.take t).drop a=v at kX hvl|-
 refine zgz (fun base l=>∀(met:List (zke×PVw)) (dp:Nat),zhF s met->l=v.drop base->base<=t - a->
  ∃kw D,zhF s kw/\zbT d k recv t ⟨s,b,met0⟩ met ((a+base:Nat):Int) dp=some (match zcB (zm s k) sub v (spl base l) with
   | none=> .inl (kw,((max dp (zns (zm s k) gd v (spl base l).1):Nat):Int))
   | some (p,c)=> .inr (kw,D,(a:Int)+p,c))) ?_ ?_ ?_ base l
 ·intro base met dp g hl hbase;have:v.length<=base:=by have:=congrArg List.length hl;simp at this;omega
  refine ⟨met,0,g,?_⟩;rw [zdr];refine zdX ?_;unfold zaC;rw [uW];simp [zcB,zns]
 ·intro base l c hl h hc met dp g hld hbase;have km:a+base<t:=by have:=qe.2 hl;rw [hld] at this;simp at this;omega
  have hdr:(b.take t).drop (a+base)=l:=by rw [hld,<-hvv,yb]
  have e:zbm (b.take t) ((a+base:Nat):Int)=(zrec,c):=by unfold zbm;rw [xq (by simp;omega),xD,hdr,h]
  have e2:zbp (zm s k) (b.take t) ((a+base:Nat):Int)=(zvw,c):=by unfold zbp;rw [e,xr (by simp only;omega)]
  obtain ⟨kw,hlk,g'⟩:=zFW hk hm hb ((a+base:Nat):Int) ht g;refine ⟨kw,0,g',?_⟩;rw [zfJ hl h];refine zdX ?_;unfold zaC;simp only;rw [uV,hlk,sb,e2,uV];simp [zcB]
 ·intro base l n w x y hl h _ g1 g2 g3 ih met dp g hld hbase;have hly:base+y<=t - a:=by rw [hld] at g3;simp at g3;omega
  have hdr:(b.take t).drop (a+base)=l:=by rw [hld,<-hvv,yb]
  have e:zbm (b.take t) ((a+base:Nat):Int)=(⟨n,w,((a+base:Nat):Int),((a+(base+x):Nat):Int),((a+(base+y):Nat):Int)⟩,0):=by
   unfold zbm;rw [xq (by simp;omega),xD,hdr,h]
   grind
  obtain ⟨kw,hlk,g'⟩:=zFW hk hm hb ((a+base:Nat):Int) ht g
  have hfr:zcB (zm s k) sub v (spl base l)=match zcQ (zm s k) sub v ⟨n,w,base,(base+x:Nat),(base+y:Nat)⟩ with
    | some p=>some p
    | none=>zcB (zm s k) sub v (spl (base+y) (l.drop y)):=by
   unfold zcB;rw [zbW hl h];simp only [uG];cases zcQ (zm s k) sub v ⟨n,w,base,(base+x:Nat),(base+y:Nat)⟩<;>rfl
  have hfd:zns (zm s k) gd v (spl base l).1=max (zpR (zm s k) gd v ⟨n,w,base,(base+x:Nat),(base+y:Nat)⟩) (zns (zm s k) gd v (spl (base+y) (l.drop y)).1):=by
   rw [zbW hl h];rfl
  cases hv:vw (zm s k) n w with
  | inl c=>
   have hc:c=6:=by
    grind [zdE]
   subst hc;have e2:zbp (zm s k) (b.take t) ((a+base:Nat):Int)=(zvw,6):=by unfold zbp;rw [e];simp only [yK,yQ,yp,hv]
   have hst:zcQ (zm s k) sub v ⟨n,w,base,(base+x:Nat),(base+y:Nat)⟩=some ((base:Int),6):=by unfold zcQ;simp only [hv]
   refine ⟨kw,0,g',?_⟩;rw [hfr,hst];refine zdX ?_;unfold zaC
   grind
  | inr q=>
   obtain ⟨i,run⟩:=q;have e2:zbp (zm s k) (b.take t) ((a+base:Nat):Int)=(⟨⟨n,w,((a+base:Nat):Int),((a+(base+x):Nat):Int),((a+(base+y):Nat):Int)⟩,i,run⟩,0):=by unfold zbp;rw [e];simp only [yK,yQ,yp,hv]
   obtain ⟨R,met2,hrv,g2',kz⟩:=kX kw g' n w i run base x y hv g1 g2 (by omega);have hpr:prV (⟨⟨n,w,((a+base:Nat):Int),((a+(base+x):Nat):Int),((a+(base+y):Nat):Int)⟩,i,run⟩:Vw)=⟨⟨n,w,((a+base:Nat):Int),((a+(base+x):Nat):Int),((a+(base+y):Nat):Int)⟩,i,run⟩:=rfl;cases hst:zcQ (zm s k) sub v ⟨n,w,base,(base+x:Nat),(base+y:Nat)⟩ with
   | some pc=>
    obtain ⟨p,c⟩:=pc;have hgd:=zBP hg g1 g2 (b:=v) (base:=base) (by omega) hst;rw [hst] at kz;obtain ⟨o1,o2⟩:=kz;refine ⟨met2,R.depth,g2',?_⟩;rw [hfr,hst];refine zdX ?_;unfold zaC
    grind
   | none=>
    rw [hst] at kz;have hok':R=⟨((zpR (zm s k) gd v ⟨n,w,base,(base+x:Nat),(base+y:Nat)⟩:Nat):Int),0,0⟩:=kz;obtain ⟨met3,D,g3',h3⟩:=ih met2 (max dp (zpR (zm s k) gd v ⟨n,w,base,(base+x:Nat),(base+y:Nat)⟩)) g2' (by rw [hld,yb]) hly;refine ⟨met3,D,g3',?_⟩;rw [hfr,hst,hfd,<-Nat.max_assoc,<-h3];refine znh ?_;unfold zaC
    grind
theorem zOt {s:List Mes} (hr:zca s) {k:Nat} (hk:k<s.length) {b:List UInt8} (hb:b.length<=1048576) {d fuel:Nat} (hd:d<=64) {a t:Nat} (ht:t<=b.length)
  (ih:∀e,d=e+1->∀(q A T:Nat) (met:List (zke×PVw)),q<s.length->A<=T->T<=b.length->zhF s met->
   ∃R kw,zaL fuel ⟨s,b,met⟩ q A T e=some (R,kw)/\zhF s kw/\okR (zH s e q ((b.take T).drop A)) A (zkj s e q ((b.take T).drop A)) R)
  (met:List (zke×PVw)) (g:zhF s met) (n w i:Int) (run:Bool) (base x y:Nat) (hv:vw (zm s k) n w= .inr (i,run)) (h1:1<=x) (h2:x<=y) (hy:a+base+y<=t):
  ∃R kw,zeo (fuel+1) ⟨s,b,met⟩ k ⟨⟨n,w,((a+base:Nat):Int),((a+(base+x):Nat):Int),((a+(base+y):Nat):Int)⟩,i,run⟩ d=some (R,kw)/\zhF s kw/\
    okR (zcQ (zm s k) (zzK s d) ((b.take t).drop a) ⟨n,w,base,(base+x:Nat),(base+y:Nat)⟩) a (zpR (zm s k) (zvq s d) ((b.take t).drop a) ⟨n,w,base,(base+x:Nat),(base+y:Nat)⟩) R:=by
 have hidx:idx s (k:Int)=some (zm s k):=by rw [zP rfl hk,zbq hk]
 have hun:∀w' v',zeo (fuel+1) w' k v' d=zfG (zaL fuel) (zeo fuel) w' k v' d:=fun _ _=>rfl
 have hvb:valB ((b.take t).drop a) ⟨n,w,base,(base+x:Nat),(base+y:Nat)⟩=(b.take (a+(base+y))).drop (a+(base+x)):=by
  unfold valB
  grind [zNT]
 rcases zdE (zm s k) n w with h'| ⟨h',_⟩| ⟨j,run',h',_,hi⟩
 ·grind
 ·rw [hv] at h';obtain ⟨rfl,rfl⟩:i= -1/\run=false:=by simpa using h'
  refine ⟨⟨0,0,0⟩,met,?_,g,?_⟩
  ·rfl
  ·unfold zcQ zpR;simp only [hv];rfl
 ·rw [hv] at h';obtain ⟨rfl,rfl⟩:i=j/\run=run':=by simpa using h'
  have hfm:zt (zm s k) (j:Int)∈(zm s k).Fields:=by rw [zbe hi];exact xB hi
  have hmem:zm s k∈s:=by rw [zbq hk];exact xB hk
  have kF:run=true->(zt (zm s k) (j:Int)).Kind≠17:=fun hh kq=>by
   subst hh;have:=(zDF hv).1;rw [kq] at this;cases this
  have hcut:cut b ((a+(base+x):Nat):Int) ((a+(base+y):Nat):Int)=some ((b.take (a+(base+y))).drop (a+(base+x))):=by
   rw [zgC rfl rfl (by omega) (by omega),qx]
  have ku:((b.take (a+(base+y))).drop (a+(base+x))).length<=1048576:=by simp;omega
  unfold zcQ zpR;simp only [hv];rw [xq (show ¬((j:Int)<0) by omega),hvb];have hif:(if ((j:Int)<0\/run=true) then 0 else if (zt (zm s k) (j:Int)).Kind=17 then zvq s d (zt (zm s k) (j:Int)).Of ((b.take (a+(base+y))).drop (a+(base+x)))+1 else 0)=(if (zt (zm s k) (j:Int)).Kind=17 then zvq s d (zt (zm s k) (j:Int)).Of ((b.take (a+(base+y))).drop (a+(base+x)))+1 else 0):=by
   cases run with
   | false=>rw [xq (by simp)]
   | true=>rw [xr (.inr rfl),xq (kF rfl)]
  rw [hif];simp only [hun];unfold zfG;simp only;rw [itF (show ((j:Int)== -1)=false by simp),hidx,sb,zP (i:=j) rfl hi,sb,<-zbe hi]
  generalize hvv:(b.take (a+(base+y))).drop (a+(base+x))=v at ku hcut|-
  have hof:=(hr.fld _ hmem _ hfm).sub
  generalize zt (zm s k) (j:Int)=f at hfm kF hof|-
  by_cases hs:f.Kind=17/\0<d
  ·obtain ⟨e,rfl⟩:∃e,d=e+1:=⟨d - 1,by omega⟩;have hrf:run=false:=by
    cases run with
    | false=>rfl
    | true=>exact absurd hs.1 (kF rfl)
   subst hrf;have hof':=hof hs.1;obtain ⟨q,hq⟩:∃q:Nat,f.Of=q:=⟨f.Of.toNat,by omega⟩;obtain ⟨R,kw,hR,g',kz⟩:=ih e rfl q (a+(base+x)) (a+(base+y)) met (by omega) (by omega) (by omega) g;rw [hvv] at kz;have hw1:i64.wrap (((e+1:Nat):Int) - 1)=(e:Int):=by rw [uX];omega
   refine ⟨⟨i64.wrap (R.depth+1),R.place,R.e⟩,kw,?_,g',?_⟩
   ·grind
   ·rw [xr hs.1];unfold zir;rw [xq (by simp),xq (by rw [hs.1];simp),xr hs.1];simp only [zzK,zvq,hq];cases hf:zH s e q v with
    | none=>
     rw [hf] at kz;have hok':R=⟨((zkj s e q v:Nat):Int),0,0⟩:=kz;have hdl:=(zDZ s e e q v (xx _) hf).1 hf;subst hok';show (⟨i64.wrap (((zkj s e q v:Nat):Int)+1),0,0⟩:Find)=_;rw [uX];rfl
    | some pc=>
     obtain ⟨p,c⟩:=pc;rw [hf] at kz;obtain ⟨o1,o2⟩:=kz;refine ⟨?_,o2⟩
     grind
  ·have hno:((f.Kind==17)&&decide (((d:Nat):Int)>0))=false:=by
    grind
   have hlf:zir f run (zzK s d) ⟨n,w,base,(base+x:Nat),(base+y:Nat)⟩ v=if zqJ f run v≠0 then some ((base:Int),zqJ f run v) else none:=by
    unfold zir zqJ;by_cases hrt:run=true
    ·grind
    ·rw [xq hrt,xq hrt];by_cases h15:f.Kind=15/\zhE v=false
     ·grind
     ·rw [xq h15,xq h15];by_cases kq:f.Kind=17
      ·have:d=0:=by have:=fun h=>hs ⟨kq,h⟩;omega
       subst this;rw [xr kq,xr kq,xr (by omega)];rfl
      grind
   rw [itF hno,hcut,sb,zKl f run ku,sb,hlf];by_cases h0:zqJ f run v=0
   ·refine ⟨⟨0,0,0⟩,met,by rw [itF (by simpa using h0)],g,?_⟩;rw [xq (by simpa using h0)];have:f.Kind≠17:=fun kq=>by
     grind [zqJ]
    rw [xq this];rfl
   ·refine ⟨⟨0,((a+base:Nat):Int),zqJ f run v⟩,met,by rw [itT (by simpa using h0)],g,?_⟩;rw [xr h0];exact ⟨by simp,rfl⟩
theorem zOq (hr:zca s) (hb:b.length<=1048576):∀(d fuel:Nat),d<=64->2*d+2<=fuel->∀(q A T:Nat) (met:List (zke×PVw)),q<s.length->A<=T->T<=b.length->zhF s met->
   ∃R kw,zaL fuel ⟨s,b,met⟩ q A T d=some (R,kw)/\zhF s kw/\okR (zH s d q ((b.take T).drop A)) A (zkj s d q ((b.take T).drop A)) R:=by
 have step:∀(d fuel:Nat),d<=64->(∀e,d=e+1->∀(q A T:Nat) (met:List (zke×PVw)),q<s.length->A<=T->T<=b.length->zhF s met->
   ∃R kw,zaL fuel ⟨s,b,met⟩ q A T e=some (R,kw)/\zhF s kw/\okR (zH s e q ((b.take T).drop A)) A (zkj s e q ((b.take T).drop A)) R)->
   ∀(q A T:Nat) (met:List (zke×PVw)),q<s.length->A<=T->T<=b.length->zhF s met->
   ∃R kw,zaL (fuel+2) ⟨s,b,met⟩ q A T d=some (R,kw)/\zhF s kw/\okR (zH s d q ((b.take T).drop A)) A (zkj s d q ((b.take T).drop A)) R:=by
  intro d fuel hd ih q A T met hq hAT hT g;have hun:∀w' k' p' t' d',zaL (fuel+2) w' k' p' t' d'=zeG (zaL (fuel+1)) (zeo (fuel+1)) w' k' p' t' d':=fun _ _ _ _ _=>rfl
  have hm:(zm s q).Fields.length<=1152921504606846976:=by
   rw [zbq hq];have:=hr.few _ (xB hq);omega
  obtain ⟨kw,D,g',hl⟩:=zKq (s:=s) hq hm hb (d:=(d:Int)) hAT hT (sub:=zzK s d) (gd:=zvq s d) (zMz s d) (recv:=zeo (fuel+1)) (met0:=met)
   (fun met1 g1 n w i run base x y hv h1 h2 hy=>zOt hr hq hb hd hT ih met1 g1 n w i run base x y hv h1 h2 hy) 0 _ met 0 g rfl (xC _)
  have hl':zbT d q (zeo (fuel+1)) T ⟨s,b,met⟩ met (A:Int) 0=_:=hl;rw [hun,zJl,zMZ];unfold zeG;simp only;rw [yc,Nat.zero_max] at hl';rw [hl',sb];cases hf:zcB (zm s q) (zzK s d) ((b.take T).drop A) (spl 0 ((b.take T).drop A)) with
  | none=>exact ⟨_,_,rfl,g',rfl⟩
  | some pc=>exact ⟨_,_,rfl,g',rfl,rfl⟩
 intro d
 induction d with
 | zero=>
  intro fuel hd hf;obtain ⟨fuel,rfl⟩:∃z,fuel=z+2:=⟨fuel - 2,by omega⟩;exact step 0 fuel hd (fun e he=>by omega)
 | succ d ih=>
  intro fuel hd hf;obtain ⟨fuel,rfl⟩:∃z,fuel=z+2:=⟨fuel - 2,by omega⟩;refine step (d+1) fuel hd (fun e he=>?_)
  grind
theorem zFP (hw:WS s) (root d:Int):zkE s root d=some (argS s root d):=by
 unfold zkE argS
 grind [zLZ,sb]
theorem zNg (hw:WS s) (root:Int) (hb:b.length<=1048576) (d:Int) (hf:130<=fuel):
  ∃R,zmK fuel s root b d=some R/\R.place=(zaE s root b d).1/\R.e=(zaE s root b d).2/\((zaE s root b d).2=0->R.depth=((zkj s d.toNat root b:Nat):Int)):=by
 unfold zmK zaE;rw [zFP hw,sb];by_cases h:argS s root d=0
 ·obtain ⟨hr,h1,h2,h3,h4⟩:=zol h;obtain ⟨k,rfl⟩:∃k:Nat,root=k:=⟨root.toNat,by omega⟩;obtain ⟨e,rfl⟩:∃k:Nat,d=k:=⟨d.toNat,by omega⟩;obtain ⟨R,kw,hR,_,kz⟩:=zOq hr hb e fuel (by omega) (by omega) k 0 b.length [] (by omega) (xC _) (xx _) (zhF.nil s);have hR':zaL fuel ⟨s,b,[]⟩ k 0 (b.length:Int) e=some (R,kw):=hR;rw [uf,yc] at kz;rw [itF (by simpa using h),xq (by simpa using h),hR',sb,xD];refine ⟨R,rfl,?_⟩;cases hfi:zH s e k b with
  | none=>
   rw [hfi] at kz;have hok':R=⟨((zkj s e k b:Nat):Int),0,0⟩:=kz
   grind
  | some pc=>
   obtain ⟨p,c⟩:=pc;rw [hfi] at kz;obtain ⟨o1,o2⟩:=kz;have:=zkl s e k b p c hfi
   grind
 ·simp_all
theorem zBV (hw:WS s) (root:Int) (hb:b.length<=1048576) (d:Int) (hf:130<=fuel):zjk fuel s root b d=some (zaE s root b d):=by
 obtain ⟨R,hR,h1,h2,_⟩:=zNg hw root hb d hf;unfold zjk
 grind
theorem zwi (hm:m.Fields.length<=140737488351232) (n:Int):ziJ m n=some (match m.Fields.findIdx? (fun f=>f.Number==n) with| some i=>((i:Int),true)| none=>(0,false)):=by
 unfold ziJ zgu zbr;have h:=zrX (fun f:Fld=>f.Number==n) m.Fields (fun i=>zJ m.Fields n i) (zaP (by unfold zI;rw [uU])) (fun i hi=>by
  by_cases hp:(m.Fields[i].Number==n)=true
  ·rw [xr hp];exact zaP (by unfold zI zjK;rw [uV,zP rfl hi,sb,sb,itT hp])
  ·rw [xq hp];exact zdn (by unfold zI zjK;rw [uV,zP rfl hi,sb,sb,itF (pC hp),uX];rfl)) m.Fields.length 0 (by omega) (fun j _ h=>by omega)
 have h':zJ m.Fields n 0=_:=h;rw [h',sb];cases m.Fields.findIdx? (fun f:Fld=>f.Number==n) with
 | none=>rfl
 | some i=>simp [sb];omega
theorem zlZ {α:Type} (p:α->Bool) (l:List α) (F:Int->Option (Unit⊕Unit)) (h0:F (l.length:Int)=some (.inl ())) (hs:∀(i:Nat) (h:i<l.length),F (i:Int)=if p l[i]=true then F ((i+1:Nat):Int) else some (.inr ())):
  ∀(c i:Nat),i+c=l.length->F (i:Int)=some (if (l.drop i).all p=true then .inl () else .inr ())
 | 0,i,h=>by
  have e:l.drop i=[]:=yo (by omega);have hi:i=l.length:=by omega
  rw [e,hi,h0];simp
 | c+1,i,h=>by
  rw [hs i (by omega),yf (by omega),yO];cases hp:p l[i]
  ·rw [xq (by simp)];simp
  ·rw [xr rfl,ye];exact zlZ p l F h0 hs c (i+1) (by omega)
theorem zKg (hb:v.Words.length<=140737488351232/\v.Texts.length<=140737488351232/\v.Subs.length<=140737488351232):zjN v=some ((zas v:Nat):Int):=by
 unfold zjN zas;rw [wrap_i64 (x:=(v.Words.length:Int)+(v.Texts.length:Int)) (by omega),uX];push_cast;rfl
theorem zDM (hl:l.length<=1152921504606846976) (h:∀t∈l,t.length<=140737488351232):zof l=some (l.all zhE):=by
 unfold zof;have h1:=zlZ zhE l (fun i=>zfm l i) (by
   refine zlf ?_;unfold zfl;rw [uU])
  (fun i hi=>by
   have hx:=h _ (xB hi);have e:lenO l[i]=some l[i]:=by unfold lenO;rw [xr (by omega)]
   cases hp:zhE l[i]
   ·rw [xq (by simp)];refine zlf ?_;unfold zfl;rw [uV,zP rfl hi,sb,e,sb,zwa (by omega),sb,hp,uR]
   ·rw [xr rfl];refine zrI ?_;unfold zfl;rw [uV,zP rfl hi,sb,e,sb,zwa (by omega),sb,hp,uS,uX];push_cast;rfl)
  l.length 0 (xK _)
 have h1':zfm l 0=_:=h1;rw [h1',sb,yc];cases l.all zhE<;>rfl
theorem zDL (hl:l.length<=1152921504606846976) (h:∀w∈l,0<=w/\w<=18446744073709551615):zjO k l=some (l.all fun w=>kNum k&&zbg k w==w):=by
 unfold zjO;have h1:=zlZ (fun w=>kNum k&&zbg k w==w) l (fun i=>zdp k l i) (by
   refine zgs ?_;unfold zcl;rw [uU])
  (fun i hi=>by
   have hx:=h _ (xB hi);cases hk:kNum k
   ·rw [qc,xq (by simp)];refine zgs ?_;unfold zcl;rw [uV,zP rfl hi,sb,zlL k hx,sb,hk,uR]
   ·rw [ye];by_cases hp:zbg k l[i]=l[i]
    ·rw [xr (by simpa using hp)];refine zoe ?_;unfold zcl;rw [uV,zP rfl hi,sb,zlL k hx,sb,hk,itF (by simp [hp]),uX];push_cast;rfl
    ·rw [xq (by simpa using hp)];refine zgs ?_;unfold zcl;rw [uV,zP rfl hi,sb,zlL k hx,sb,hk,itT (by simp [hp])])
  l.length 0 (xK _)
 have h1':zdp k l 0=_:=h1;rw [h1',sb,yc];cases l.all (fun w=>kNum k&&zbg k w==w)<;>rfl
theorem zLa (hm:m.Fields.length<=140737488351232) (hu:u.length<=1048576):zmJ m u=some (unkR m u):=by
 unfold zmJ unkR;have e:lenO u=some u:=by unfold lenO;rw [xr (by omega)]
 rw [e,sb,zus hu,sb]
 generalize zbm u 0=r
 by_cases c1:r.2=0
 ·by_cases c2:r.1.To=(u.length:Int)
  ·rw [itF (by simp [c1,c2]),zwi hm,sb];have hf:fldI m r.1.Number=zlm (fun f:Fld=>f.Number==r.1.Number) m.Fields:=rfl;rw [hf];cases h:m.Fields.findIdx? (fun f:Fld=>f.Number==r.1.Number) with
   | none=>rw [znq h];simp [c1,c2]
   | some i=>rw [znr h];simp [c1,c2]
  ·rw [itT (by simp [c2])];simp [c2]
 ·rw [itT (by simp [c1])];simp [c1]
theorem zCe {α:Type} {p:α->Bool} (h:∀x,p x=false) (l:List α):l.all p=l.isEmpty:=by
 cases l with
 | nil=>rfl
 | cons x l=>rw [yO,h];rfl
theorem zqN {α:Type} (l:List α):l.isEmpty=decide (l.length=0):=by cases l<;>simp
theorem zFI {s:List Mes} (hs:zca s):∀(fuel:Nat),(∀(x:Msg) (k:Nat),k<s.length->2*szM x<fuel->bdM x->smM x->zfF fuel s k x=some (zay s x k))/\
  (∀(v:Vlu) (f:Fld),2*szV v<fuel->bdV v->smV v->zkC fuel f s v=some (zjY s v f))/\
  ∀(l:List Msg) (k:Int),2*szMs l+1<fuel->l.length<=1152921504606846976->bdMs l->smMs l->zig fuel s k l=some (decide (0<=k/\k<s.length)&&l.all fun x=>zay s x k)
 | 0=>⟨fun x k _ h=>by omega,fun v f h=>by omega,fun l k h=>by omega⟩
 | fuel+1=>by
  obtain ⟨ih1,ih2,ih3⟩:=zFI hs fuel;have ku:=hs.len;refine ⟨fun x k hk kG hb hsm=>?_,fun v f kG hb hsm=>?_,fun l k kG hl hb hsm=>?_⟩
  ·obtain ⟨b1,⟨b2,b3⟩,b4⟩:=(zlk x).1 hb;obtain ⟨s1,⟨s2,s3⟩,s4⟩:=(zzE x).1 hsm;rw [zcR] at kG;show zkD (zig fuel) (zkC fuel) (zfF fuel) s k x=_;unfold zkD;rw [zlQ,xO (show (0:Int)<=(k:Int)/\(k:Int)<(s.length:Int) by omega),ye];have hm:idx s (k:Int)=some (zm s k):=by rw [zP rfl hk,zbq hk]
   have hmm:zm s (k:Int)∈s:=by rw [zbq hk];exact xB hk
   have hfew:=hs.few _ hmm;have hfld:=hs.fld _ hmm
   generalize zm s (k:Int)=m at hm hmm hfew hfld|-
   rw [hm,sb];have hv:∀(c i:Nat) (p:Option Int) (last:Int),i+c=x.Values.length->(p=none/\last=0\/p=some last)->zeR (zkC fuel) s x m last i=some (if zgl s (x.Values.drop i) m p=true then .inl () else .inr ()):=by
    intro c
    induction c with
    | zero=>
     intro i p last hi _;have e:x.Values.drop i=[]:=yo (by omega);rw [e,zgl,xr rfl];refine zka ?_;unfold zeP;rw [uW]
    | succ c ih=>
     intro i p last hi hp;have hil:i<x.Values.length:=by omega
     have hx:idx x.Values (i:Int)=some x.Values[i]:=zP rfl hil;have hmem:=xB hil;have z1:=zfb hmem;have hbv:=zfo.1 b4 _ hmem;have hsv:=zoQ.1 s4 _ hmem;rw [yf hil,zgl]
     generalize x.Values[i]=v at hx hmem z1 hbv hsv|-
     have hw1:i64.wrap ((i:Int)+1)=((i+1:Nat):Int):=by rw [uX];push_cast;rfl
     have kW:zeP (zkC fuel) s x m last i=if (decide (0<=fldI m v.Number)&&p.all (fun q=>decide (q<v.Number))&&zjY s v (zt m (fldI m v.Number)))=true then some (.inl (v.Number,((i+1:Nat):Int))) else some (.inr (.inr ())):=by
      unfold zeP;rw [uV,hx,sb,zwi (by omega),sb];have hf:fldI m v.Number=zlm (fun f:Fld=>f.Number==v.Number) m.Fields:=rfl;cases h:m.Fields.findIdx? (fun f:Fld=>f.Number==v.Number) with
      | none=>
       rw [hf,znq h,uR,sb,uR,xq (by simp)]
      | some j=>
       rw [hf,znr h];have hjs:=pY.1 h;obtain ⟨hj,hjn,_⟩:=hjs;have hjn':(m.Fields[j]).Number=v.Number:=by simpa using hjn
       have hlo:=(hfld _ (xB hj)).lo;have hfj:idx m.Fields (j:Int)=some (zt m (j:Int)):=by rw [zP rfl hj,zbe hj]
       have hfit:=ih2 v (zt m (j:Int)) (by omega) hbv hsv;have hpl:p.all (fun q=>decide (q<v.Number))=decide (last<v.Number):=by
        rcases hp with ⟨rfl,rfl⟩| rfl
        ·rw [xO (show (0:Int)<v.Number by omega)];rfl
        ·rfl
       rw [uS,hpl,xO (show (0:Int)<=(j:Int) by omega),ye];by_cases km:last<v.Number
       ·rw [itF (by simpa using km),xO km,ye];simp only;rw [hfj,sb,hfit,sb,sb];cases hfv:zjY s v (zt m (j:Int))
        ·rw [uR,xq (by simp)]
        ·rw [uS,xr rfl,hw1]
       ·rw [uV,sb,uR,xU km,xq (by simp)]
     generalize (decide (0<=fldI m v.Number)&&p.all (fun q=>decide (q<v.Number))&&zjY s v (zt m (fldI m v.Number)))=bb at kW|-
     cases bb
     ·rw [xq (by simp)] at kW;rw [zka kW,qc,xq (by simp)]
     ·rw [xr rfl] at kW;rw [zqn kW,ih _ (some v.Number) v.Number (by omega) (.inr rfl),ye]
   have h1:=hv x.Values.length 0 none 0 (xK _) (.inl ⟨rfl,rfl⟩);have h1':zeR (zkC fuel) s x m 0 0=_:=h1;rw [yc] at h1';rw [h1',sb];cases hrv:zgl s x.Values m none
   ·rw [xq (by simp)];rfl
   ·rw [xr rfl,ye];simp only;have h2:=zlZ (unkR m) x.Unknown (fun i=>zeS x m i) (by
      refine zkb ?_;unfold zeQ;rw [uU])
     (fun i hi=>by
      have hu:=zLa (m:=m) (by omega) (s3 _ (xB hi));cases hun:unkR m x.Unknown[i]
      ·rw [xq (by simp)];refine zkb ?_;unfold zeQ;rw [uV,zP rfl hi,sb,hu,sb,hun,uR]
      ·rw [xr rfl];refine zqo ?_;unfold zeQ;rw [uV,zP rfl hi,sb,hu,sb,hun,uS,uX];push_cast;rfl)
     x.Unknown.length 0 (xK _)
    have h2':zeS x m 0=_:=h2;rw [h2',sb,yc];cases x.Unknown.all (unkR m)<;>rfl
  ·obtain ⟨_,⟨b1,b1'⟩,⟨b2,b3⟩,b4,b5⟩:=(ziK v).1 hb;obtain ⟨s1,⟨s2,s3⟩,s4,s5⟩:=(zzF v).1 hsm;rw [zgr] at kG;show zrJ (zig fuel) (zkC fuel) (zfF fuel) f s v=_;unfold zrJ;rw [zKg ⟨by omega,by omega,by omega⟩,sb,zuc,zmC];have hmany:zas v=v.Words.length+v.Texts.length+v.Subs.length:=rfl;by_cases h0:zas v=0\/1<zas v/\f.Repeated=false
   ·have hmr:zsS f v=false:=by
     unfold zsS;rcases h0 with h0| ⟨h0,h1⟩
     ·simp [h0]
     ·rw [h1];simp;omega
    rw [hmr,itT (by
     rcases h0 with h0| ⟨h0,h1⟩
     ·simp [h0]
     ·rw [h1];simp;omega)]
    rfl
   ·have hmr:zsS f v=zbb f.Kind:=by
     unfold zsS;rw [xO (show 0<zas v by omega),ye];cases hr:f.Repeated
     ·rw [hr] at h0;rw [xO (show zas v<=1 by simp at h0;omega)];rfl
     ·simp
    rw [hmr,itF (by
     cases hr:f.Repeated
     ·rw [hr] at h0;simp at h0|-;omega
     ·simp;omega)]
    have hW:kNum f.Kind=false->v.Words.all (zjT f)=decide (v.Words.length=0):=fun h=>by
     rw [zCe (fun w=>by unfold zjT;rw [h];rfl),zqN]
    have hT:f.Kind≠15->f.Kind≠16->v.Texts.all (zly f)=decide (v.Texts.length=0):=fun h1 h2=>by
     rw [zCe (fun t=>by unfold zly;simp [h1,h2]),zqN]
    have hS:f.Kind≠17->(v.Subs.all fun x=>f.Kind==17&&zay s x f.Of)=decide (v.Subs.length=0):=fun h=>by
     rw [zCe (fun x=>by simp [h]),zqN]
    by_cases k15:f.Kind=15
    ·rw [itT (by simp [k15]),hW (by rw [k15];rfl),hS (by omega)];have hkr:zbb f.Kind=true:=by rw [k15];rfl
     rw [hkr,ye];by_cases hl:v.Words.length=0/\v.Subs.length=0
     ·rw [uV,zDM (by omega) b3,sb,sb,xO hl.1,xO hl.2,ye,pd];have:v.Texts.all (zly f)=v.Texts.all zhE:=by
       congr 1;funext t;unfold zly;simp [k15]
      rw [this]
     ·rw [uW,sb];congr 1
      symm
      by_cases hw0:v.Words.length=0
      ·rw [xU (show ¬v.Subs.length=0 by omega),pg]
      ·rw [xU hw0,qc,qc]
    ·rw [itF (by simp [k15])];by_cases k16:f.Kind=16
     ·rw [itT (by simp [k16]),hW (by rw [k16];rfl),hS (by omega)];have hkr:zbb f.Kind=true:=by rw [k16];rfl
      have hta:v.Texts.all (zly f)=true:=by rw [xI];intro t _;unfold zly;simp [k16]
      rw [hkr,hta,ye,pd];congr 1;rw [<-Bool.decide_and];rw [yN];simp only [qP,xT];omega
     ·rw [itF (by simp [k16])];by_cases k17:f.Kind=17
      ·rw [itT (by simp [k17]),hW (by rw [k17];rfl),hT k15 k16];have hkr:zbb f.Kind=true:=by rw [k17];rfl
       rw [hkr,ye];have hsub:(v.Subs.all fun x=>f.Kind==17&&zay s x f.Of)=v.Subs.all fun x=>zay s x f.Of:=by
        congr 1;funext x;simp [k17]
       rw [hsub];by_cases hl:v.Words.length=0/\v.Texts.length=0
       ·rw [uV,ih3 v.Subs f.Of (by omega) (by omega) b5 s5,sb,sb,xO hl.1,xO hl.2,ye,ye];by_cases hof:0<=f.Of/\f.Of<s.length
        ·rw [xO hof,ye]
        ·rw [xU hof,qc];congr 1
         symm
         have kO:v.Subs≠[]:=fun e=>h0 (.inl (by rw [hmany,hl.1,hl.2,e];rfl))
         obtain ⟨x,l,hxl⟩:=ud kO;rw [hxl,yO,zlQ,xU hof];rfl
       ·rw [uW,sb];congr 1
        symm
        by_cases hw0:v.Words.length=0
        ·rw [xU (show ¬v.Texts.length=0 by omega),pg,qc]
        ·rw [xU hw0,qc,qc]
      ·rw [itF (by simp [k17]),hT k15 k16,hS k17];have hck:(v.Words.all fun w=>kNum f.Kind&&zbg f.Kind w==w)=v.Words.all (zjT f):=rfl;by_cases hl:v.Texts.length=0/\v.Subs.length=0
       ·rw [uV,zDL (by omega) b1',sb,sb,xO hl.1,xO hl.2,pd,pd,hck];congr 1;cases hkn:kNum f.Kind
        ·rw [hW hkn,xU (show ¬v.Words.length=0 by omega),pg]
        ·have hkr:zbb f.Kind=true:=by
          rw [zfB] at hkn;unfold zbb;simp;omega
         rw [hkr,ye]
       ·rw [uW,sb];congr 1
        symm
        by_cases hw0:v.Texts.length=0
        ·rw [xU (show ¬v.Subs.length=0 by omega),pg]
        ·rw [xU hw0,pg,qc]
  ·show ziN (zig fuel) (zkC fuel) (zfF fuel) s k l=_;unfold ziN;by_cases hk:0<=k/\k<s.length
   ·rw [uW,xO hk,ye];obtain ⟨n,rfl⟩:∃n:Nat,k=n:=⟨k.toNat,by omega⟩;have h1:=zlZ (fun x=>zay s x n) l (fun i=>zdK l n (zfF fuel) s i) (by
      refine zji ?_;unfold zdJ;rw [uU])
     (fun i hi=>by
      have hm:=xB hi;have z1:=zfa hm;have hr:=ih1 l[i] n (by omega) (by omega) (zfn.1 hb _ hm) (zoP.1 hsm _ hm);cases hp:zay s l[i] n
      ·rw [xq (by simp)];refine zji ?_;unfold zdJ;rw [uV,zP rfl hi,sb,hr,sb,hp,uR]
      ·rw [xr rfl];refine zoS ?_;unfold zdJ;rw [uV,zP rfl hi,sb,hr,sb,hp,uS,uX];push_cast;rfl)
     l.length 0 (xK _)
    have h1':zdK l n (zfF fuel) s 0=_:=h1;rw [h1',sb,yc];cases l.all (fun x=>zay s x n)<;>rfl
   ·rw [uV,xU hk];rfl
theorem zHt (root:Int) (hf:2*szM x<fuel) (hw:WS s) (hb:bdM x) (hsm:smM x) (hd:dM x<=131072):ztE fuel s root x=some (zlq s&&zay s x root):=by
 unfold ztE;rw [zFP hw,sb];by_cases h0:argS s root 0=0
 ·obtain ⟨hr,g1,g2,_,_⟩:=zol h0;have hrs:zlq s=true:=by
   unfold argS at h0;cases h:zlq s with
   | true=>rfl
   | false=>rw [h,xr rfl] at h0;cases h0
  obtain ⟨k,rfl⟩:∃k:Nat,root=k:=⟨root.toNat,by omega⟩;rw [itT (by simp [h0]),zFF (by omega) hb hd,sb,uR,(zFI hr fuel).1 x k (by omega) hf hb hsm,sb,sb,hrs,ye]
 ·rw [itF (by simp [h0]),sb];congr 1
  symm
  cases hrs:zlq s
  ·rfl
  ·rw [ye,zlQ];unfold argS at h0;rw [xq (by rw [hrs];simp)] at h0;rw [xU (by split at h0<;>omega)];rfl
theorem zNV (hk:kNum k=true) (hf:zbt (zab k) v=true):pcs k v=([v],0):=by
 have hk':=zfB.1 hk;have hu:zjP k v= .inr v.length/\v≠[]:=by
  unfold zjP;unfold zbt zab at hf;by_cases h9:k<9
  ·rw [xq (show ¬15<=k by omega),xq (show ¬12<=k by omega),xq (show ¬9<=k by omega),xr rfl] at hf;obtain ⟨h1,h2⟩:=yx hf;obtain ⟨b1,b2,b3,b4,b5,b6,b7⟩:=zhw v;have hp:=b7 h1;rw [xr h9,xq (by simpa using h1),h2];refine ⟨by simp,fun e=>?_⟩;subst e;simp at h2;omega
  ·rw [xq h9];by_cases h12:k<12
   ·rw [xq (show ¬15<=k by omega),xq (show ¬12<=k by omega),xr (show 9<=k by omega),xq (by omega)] at hf;have hf':=yx hf;have hl:v.length=4:=by omega
    rw [xr h12,xq (by omega),hl];exact ⟨rfl,fun e=>by rw [e] at hl;simp at hl⟩
   ·rw [xq (show ¬15<=k by omega),xr (show 12<=k by omega),xq (by omega)] at hf;have hf':=yx hf;have hl:v.length=8:=by omega
    rw [xq h12,xq (by omega),hl];exact ⟨rfl,fun e=>by rw [e] at hl;simp at hl⟩
 rw [ziy hu.2 hu.1,uf,pD,zjE]
theorem zsy (hk:kNum k=true) (hf:zbt (zab k) v=true):zag k v=([(zmE k v).1],0):=by
 unfold zag;rw [xq (by rw [hk];simp),zNV hk hf,xr rfl,zjh hk hf];rfl
end Go.Proofs.YtaglemhabeipfaaGreat
