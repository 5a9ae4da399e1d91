/-
  What the plain functions are. No condition.
-/
import Derived.Test.YtaglemhabeipfaaGreatx1S1
import Derived.Test.YtaglemhabeipfaaGreatx1P1
import Derived.Test.YtaglemhabeipfaaGreatx1K3
import Derived.Test.YtaglemhabeipfaaGreatx1K1
set_option autoImplicit true
set_option relaxedAutoImplicit true
namespace Go.Proofs.YtaglemhabeipfaaGreat
open Go.IntKind (i64 u32 u64)
open Go
set_option linter.unusedVariables false
mutual
def encM (s:List Mes):Msg->Int->List UInt8
 | ⟨vs,u⟩,k=>zcT s vs (zo s k)++u.flatten
def zcT (s:List Mes):List Vlu->Mes->List UInt8
 | [],_=>[]
 | v::l,m=>encV s v (zr m (fldI m v.Number))++zcT s l m
def encV (s:List Mes):Vlu->Fld->List UInt8
 | ⟨n,w,t,sub⟩,f=>if kNum f.Kind=true then (if f.Repeated=true then put5 f.Number 2 (w.flatMap (sPut f.Kind)) else put5 f.Number (zaa f.Kind) (sPut f.Kind (w.headD 0))) else t.flatMap (put5 f.Number 2)++zhD s sub f
def zhD (s:List Mes):List Msg->Fld->List UInt8
 | [],_=>[]
 | x::l,f=>put5 f.Number 2 (encM s x f.Of)++zhD s l f
end
theorem zmk (s:List Mes) (x:Msg) (k:Int):encM s x k=zcT s x.Values (zo s k)++x.Unknown.flatten:=by cases x;rw [encM]
theorem ziG (s:List Mes) (v:Vlu) (f:Fld):encV s v f=if kNum f.Kind=true then (if f.Repeated=true then put5 f.Number 2 (v.Words.flatMap (sPut f.Kind)) else put5 f.Number (zaa f.Kind) (sPut f.Kind (v.Words.headD 0))) else v.Texts.flatMap (put5 f.Number 2)++zhD s v.Subs f:=by cases v;rw [encV]
theorem zof (s:List Mes) (m:Mes):∀(l k:List Vlu),zcT s (l++k) m=zcT s l m++zcT s k m
 | [],k=>by rw [xG,zcT,xG]
 | v::l,k=>by rw [yj,zcT,zcT,zof s m l k,yk]
theorem zsu (s:List Mes) (f:Fld):∀(l k:List Msg),zhD s (l++k) f=zhD s l f++zhD s k f
 | [],k=>by rw [xG,zhD,xG]
 | v::l,k=>by rw [yj,zhD,zhD,zsu s f l k,yk]
theorem zAX {n w:Int} (h1:1<=n) (h2:n<=536870911) (hw:0<=w/\w<=7) {v:List UInt8} (hv:v.length<=1048576):(put5 n w v).length<=15+v.length:=by
 grind [tW,zhV,zLv,zkx,zhP]
theorem zCu (k:Int):0<=zaa k/\zaa k<=7:=by unfold zaa;split;omega;split;omega;split<;>omega
theorem zuH {k:Int} (hk:zaY k=true) {n:Int} (h1:1<=n) (h2:n<=536870911):zbx n (zaa k)=true:=by
 grind [zaa,zeC]
theorem zwC {k:Int}:∀{l:List Int},(∀w∈l,0<=w/\w<=18446744073709551615)->(l.flatMap (sPut k)).length<=10*l.length
 | [],_=>by simp
 | w::l,h=>by
  have h1:=zkm (k:=k) (h w xr);have h2:=zwC (k:=k) fun x hx=>h x (xt _ hx)
  grind
theorem zwE {n:Int} (h1:1<=n) (h2:n<=536870911):∀{l:List Str},(∀t∈l,t.length<=1048576)->(l.flatMap (put5 n 2)).length<=15*(l.map fun t=>1+t.length).sum
 | [],_=>by simp
 | t::l,h=>by
  have h3:=zAX h1 h2 (w:=2) (by omega) (h t xr);have h4:=zwE h1 h2 fun x hx=>h x (xt _ hx)
  grind
theorem zuD:∀(l:List Str),l.flatten.length<=(l.map fun t=>1+t.length).sum
 | []=>by simp
 | t::l=>by
  have:=zuD l
  grind
theorem zEw {l:List Int} (h:∀x∈l,0<=x/\x<=18446744073709551615):0<=l.headD 0/\l.headD 0<=18446744073709551615:=by
 cases l with
 | nil=>simp
 | cons x l=>exact h x xr
theorem zyS {s:List Mes} (hs:zdA s):∀(N:Nat),(∀(x:Msg) (k:Int),szM x<=N->bdM x->wgM x<=30000->zaA s x k=true->(encM s x k).length+16<=32*wgM x)/\
  ∀(v:Vlu) (f:Fld),szV v<=N->bdV v->wgV v<=30000->1<=f.Number->f.Number<=536870911->zkd s v f=true->(encV s v f).length<=32*wgV v
 | 0=>⟨fun x k h=>by rw [zcB] at h;omega,fun v f h=>by rw [zfS] at h;omega⟩
 | N+1=>by
  obtain ⟨ih1,ih2⟩:=zyS hs N;refine ⟨fun x k kg hb hw hr=>?_,fun v f kg hb hw n1 n2 hf=>?_⟩
  ·obtain ⟨_,_,b4⟩:=(zkw x).1 hb;rw [zcB] at kg;rw [zlQ] at hw|-;obtain ⟨k0,k1,_,hv,_⟩:=zbc hr;rw [zmk];have hmm:zo s k∈s:=by
    obtain ⟨n,rfl⟩:∃n:Nat,k=n:=⟨k.toNat,by omega⟩;rw [zcg (by omega)];exact xB _
   generalize zo s k=m at hv hmm|-
   have hall:∀l:List Vlu,(∀v∈l,v∈x.Values)->(zcT s l m).length<=32*wgVs l:=by
    intro l
    induction l with
    | nil=>intro _;simp [zcT,wgVs]
    | cons v l ih=>
     intro hl;have hvm:=hl v xr;have i1:=ih fun w hw=>hl w (xt _ hw)
     have s1:=zeK hvm;have w1:=ztz hvm;obtain ⟨f0,hfit⟩:=hv v hvm;rcases zdQ m v.Number with ⟨hf,_⟩| ⟨j,hj,hf,_⟩
     ·omega
     have hfm:zr m (fldI m v.Number)∈m.Fields:=by rw [hf,zbv hj];exact xB hj
     have hfo:=hs.fld _ hmm _ hfm;have:=ih2 v (zr m (fldI m v.Number)) (by omega) (zeU.1 b4 v hvm) (by omega) hfo.lo hfo.hi hfit;rw [zcT,wgVs,xy];omega
   grind [zuD]
  ·obtain ⟨_,⟨_,bw⟩,_,_,b5⟩:=(zhZ v).1 hb;rw [zfS] at kg;rw [zjL] at hw|-;have hfs:=zdP hf;rw [ziG];by_cases hn:kNum f.Kind=true
   ·grind [zwC,zAX,zkm,zEw,zCu]
   ·rw [xp hn,xy];have hts:∀t∈v.Texts,t.length<=1048576:=fun t ht=>by have:=ztn ht;omega
    have h1:=zwE n1 n2 hts;have hall:∀l:List Msg,(∀x∈l,x∈v.Subs)->(zhD s l f).length<=32*wgMs l:=by
     intro l
     induction l with
     | nil=>intro _;simp [zhD,wgMs]
     | cons x l ih=>
      intro hl;have hxm:=hl x xr;have i1:=ih fun w hw=>hl w (xt _ hw)
      have s1:=zeJ hxm;have w1:=zlR hxm;have h3:=ih1 x f.Of (by omega) (zfx.1 b5 x hxm) (by omega) (hfs.subs x hxm).2;have h4:=zAX n1 n2 (w:=2) (by omega) (v:=encM s x f.Of) (by omega);rw [zhD,wgMs,xy];omega
    grind
theorem zrJ (s:List Mes) (m:Mes):∀(l:List Vlu),zcT s l m=l.flatMap fun v=>encV s v (zr m (fldI m v.Number))
 | []=>by rw [zcT];rfl
 | v::l=>by rw [zcT,zrJ s m l,xI]
theorem zrI (s:List Mes) (f:Fld):∀(l:List Msg),zhD s l f=l.flatMap fun x=>put5 f.Number 2 (encM s x f.Of)
 | []=>by rw [zhD];rfl
 | v::l=>by rw [zhD,zrI s f l,xI]
structure zuv (s:List Mes) (d:Nat) (k:Int) (p:List UInt8) (t:Th):Prop where
 ok:zN s d k p=none
 th:ths (zo s k) p=[t]
theorem pieces {s:List Mes} {d:Nat} {k:Int}:∀{ps:List (List UInt8×Th)},(∀p∈ps,zuv s d k p.1 p.2)->zN s d k (ps.flatMap (·.1))=none/\ths (zo s k) (ps.flatMap (·.1))=ps.map (·.2)
 | [],_=>by
  grind [zpz,zmZ,zdZ]
 | p::ps,h=>by
  obtain ⟨h1,h2⟩:=pieces fun q hq=>h q (xt _ hq)
  have hp:=h p xr;rw [xI];refine ⟨(zhu s d k _ hp.ok).2 h1,?_⟩;rw [zxV hp.ok h1,hp.th,h2];rfl
theorem zqL {s:List Mes} {d:Nat} {k:Int} {n w:Int} {v:List UInt8} (hr:zbx n w=true) (hf:zbu w v=true) (hv:v.length<=1048576) {i:Int} {run:Bool} (hvw:vw (zo s k) n w= .inr (i,run)) (hi:0<=i)
  (hl:∀r:Rec,r.At=((put5 n w v).length - v.length:Nat)->r.From=0->zhF (zr (zo s k) i) run (zDx s d) r v=none):zuv s d k (put5 n w v) ⟨i,run,v,put5 n w v⟩:=by
 have hsp:=zMc hr hf hv;have wY:v.length<=(put5 n w v).length:=by rw [zhP];omega
 have hval:valB (put5 n w v) ⟨n,w,0,(((put5 n w v).length - v.length:Nat):Int),((put5 n w v).length:Int)⟩=v:=by
  unfold valB;simp only [xD];rw [show (put5 n w v).length - ((put5 n w v).length - v.length)=v.length by omega];have e:(put5 n w v).drop ((put5 n w v).length - v.length)=v:=by
   have:put5 n w v=(enc (tW n w)++(if w=2 then enc v.length else []))++v:=rfl;have e2:(put5 n w v).length - v.length=(enc (tW n w)++(if w=2 then enc v.length else [])).length:=by rw [this,xy];omega
   grind
  grind
 have hraw:rawB (put5 n w v) ⟨n,w,0,(((put5 n w v).length - v.length:Nat):Int),((put5 n w v).length:Int)⟩=put5 n w v:=by
  unfold rawB;simp
 have w6:zN s d k (put5 n w v)=none:=by
  grind [zcA,zfP,zcU]
 refine ⟨w6,?_⟩;rw [zmZ w6,hsp,qZ];unfold thR;have e:vwG (zo s k) ⟨n,w,0,(((put5 n w v).length - v.length:Nat):Int),((put5 n w v).length:Int)⟩=(i,run):=by unfold vwG;simp only [hvw]
 rw [e,hval,hraw]
theorem zHI {s:List Mes} {d:Nat} {k:Int} {u:List UInt8} (h:unkR (zo s k) u=true):∃t,zuv s d k u t/\t.fi<0/\t.raw=u:=by
 unfold unkR at h;simp only [xu,qJ,xP] at h;obtain ⟨⟨h1,h2⟩,h3⟩:=h;unfold zbJ at h1 h2 h3;by_cases hu:(0:Int)<0\/(0:Int)>=u.length
 ·grind
 ·rw [xp hu] at h1 h2 h3;simp only [Int.toNat_zero,yd] at h1 h2 h3;rcases zia u with ⟨c,hc,hcc⟩| ⟨n,w,kk,a,t,hc,_,hr,_,g1,g2,g3,g4,g5,_⟩
  ·grind
  ·rw [hc] at h2 h3;simp only at h2 h3;have ht:t=u.length:=by omega
   have kl:u≠[]:=fun e=>by subst e;simp at hu
   have hsp:spl 0 u=([⟨n,w,((0:Nat):Int),((0+a:Nat):Int),((0+t:Nat):Int)⟩],none):=by
    rw [zcz kl hc,ht,pr,zdZ]
   have hvw:vw (zo s k) n w= .inr (-1,false):=by
    unfold vw;rw [xq h3]
   have w6:zN s d k u=none:=by
    grind [zcA,zfP,zcU]
   refine ⟨thR (zo s k) u ⟨n,w,((0:Nat):Int),((0+a:Nat):Int),((0+t:Nat):Int)⟩,⟨w6,by rw [zmZ w6,hsp,qZ]⟩,?_,?_⟩
   ·unfold thR vwG;simp only [hvw];omega
   ·unfold thR rawB;simp only [ht];simp
def pcsV (s:List Mes) (f:Fld) (i:Int) (v:Vlu):List (List UInt8×Th):=
 if kNum f.Kind=true then (if f.Repeated=true then [(put5 f.Number 2 (v.Words.flatMap (sPut f.Kind)),⟨i,true,v.Words.flatMap (sPut f.Kind),put5 f.Number 2 (v.Words.flatMap (sPut f.Kind))⟩)]
  else [(put5 f.Number (zaa f.Kind) (sPut f.Kind (v.Words.headD 0)),⟨i,false,sPut f.Kind (v.Words.headD 0),put5 f.Number (zaa f.Kind) (sPut f.Kind (v.Words.headD 0))⟩)])
 else v.Texts.map (fun t=>(put5 f.Number 2 t,⟨i,false,t,put5 f.Number 2 t⟩))++v.Subs.map (fun x=>(put5 f.Number 2 (encM s x f.Of),⟨i,false,encM s x f.Of,put5 f.Number 2 (encM s x f.Of)⟩))
theorem zJJ (s:List Mes) (f:Fld) (i:Int) (v:Vlu):(pcsV s f i v).flatMap (·.1)=encV s v f:=by
 unfold pcsV;rw [ziG];split
 ·split<;>simp
 ·rw [yE,zrI,q6,q6]
theorem zAV (s:List Mes) (f:Fld) (i:Int) (v:Vlu):∀p∈pcsV s f i v,p.2.fi=i:=by
 grind [pcsV]
theorem zuh {f:Fld} {w:Int} (h:zjd f w=true) (hr:0<=w/\w<=18446744073709551615):kNum f.Kind=true/\zdW f.Kind (sPut f.Kind w)=w/\(zlG f.Kind (sPut f.Kind w)).1=w/\zbu (zaa f.Kind) (sPut f.Kind w)=true:=by
 unfold zjd at h;simp only [xu,qJ] at h;obtain ⟨h1,h2⟩:=h;have hc:=zhc f.Kind hr;have hfit:zbu (zaa f.Kind) (sPut f.Kind w)=true:=zuY h1 (by omega)
 grind [zFi,ziu]
theorem zFx {f:Fld} (hk:kNum f.Kind=true) {l:List Int} (h:∀w∈l,zjd f w=true) (hr:∀w∈l,0<=w/\w<=18446744073709551615):zai f.Kind (l.flatMap (sPut f.Kind))=(l,0):=by
 unfold zai;rw [xp (by rw [hk];simp),zsV hk l hr,xq rfl,yU];have e:l.map (zdW f.Kind∘sPut f.Kind)=l:=by
  have:l.map (zdW f.Kind∘sPut f.Kind)=l.map id:=qa fun w hw=>(zuh (h w hw) (hr w hw)).2.1
  simp_all
 rw [e]
theorem zwA (v:List UInt8):zbu 2 v=true:=by unfold zbu;rw [xp (by omega)];simp
theorem zLR {s:List Mes} {d:Nat} {k:Int} {f:Fld} {i:Int} {v:Vlu} (hi:0<=i) (hf:zr (zo s k) i=f) (hn:fldI (zo s k) f.Number=i) (n1:1<=f.Number) (n2:f.Number<=536870911) (hfs:zhb s v f)
  (hw:∀w∈v.Words,0<=w/\w<=18446744073709551615) (hwl:v.Words.length<=30000) (ht:∀t∈v.Texts,t.length<=1048576)
  (hx:∀x∈v.Subs,(encM s x f.Of).length<=1048576/\∃e,d=e+1/\zN s e f.Of (encM s x f.Of)=none):∀p∈pcsV s f i v,zuv s d k p.1 p.2:=by
 intro p hp;have t2:zbx f.Number 2=true:=zeC.2 ⟨n1,n2,.inr (.inr (.inl rfl))⟩;unfold pcsV at hp;by_cases hk:kNum f.Kind=true
 ·rw [xq hk] at hp;by_cases hr:f.Repeated=true
  ·rw [xq hr] at hp;rw [yg.1 hp];have hvw:vw (zo s k) f.Number 2= .inr (i,true):=by
    unfold vw
    grind
   have h1:=zwC (k:=f.Kind) hw;refine zqL t2 (zwA _) (by omega) hvw hi fun r _ _=>?_
   unfold zhF
   grind [zlp,zsV]
  ·rw [xp hr] at hp;rw [yg.1 hp];have hone:=hfs.one (by simpa using hr);have hnt:=hfs.noTexts (by have:=zhw hk;omega);have hns:=hfs.noSubs (zhw hk).1;unfold zaq at hone;rw [hnt,hns] at hone;simp only [yz,yw] at hone;obtain ⟨w,hwd⟩:∃w,v.Words=[w]:=pR.1 hone;have hwr:=hw w (by rw [hwd];exact xr);have hc:=zuh (hfs.words w (by rw [hwd];exact xr)) hwr;rw [hwd];show zuv s d k (put5 f.Number (zaa f.Kind) (sPut f.Kind w)) ⟨i,false,sPut f.Kind w,put5 f.Number (zaa f.Kind) (sPut f.Kind w)⟩;have hvw:vw (zo s k) f.Number (zaa f.Kind)= .inr (i,false):=by
    unfold vw;rw [hn,xp (by omega),hf,xp (fun hh=>hr hh.1),xp (fun hh=>by rw [hfs.kind] at hh;rcases hh with hh| hh;cases hh;exact hh rfl)]
   have h1:=zkm (k:=f.Kind) hwr;refine zqL (zuH hfs.kind n1 n2) hc.2.2.2 (by omega) hvw hi fun r _ _=>?_
   unfold zhF
   grind [zhw]
 ·rw [xp hk] at hp;have hkk:zaa f.Kind=2:=by
   have h1:¬(1<=f.Kind/\f.Kind<=14):=fun hh=>hk (zff.2 hh)
   have h2:1<=f.Kind/\f.Kind<=17:=by simpa [zaY] using hfs.kind
   unfold zaa;rw [xq (by omega)]
  have hvw:vw (zo s k) f.Number 2= .inr (i,false):=by
   unfold vw;rw [hn,xp (by omega),hf,xp (fun hh=>hk hh.2.1),xp (fun hh=>by rw [hfs.kind,hkk] at hh;rcases hh with hh| hh;cases hh;exact hh rfl)]
  rcases xA.1 hp with hp| hp
  ·obtain ⟨t,htm,rfl⟩:=xz.1 hp;refine zqL t2 (zwA _) (ht t htm) hvw hi fun r _ _=>?_
   have htr:=hfs.texts t htm;unfold zkJ at htr;unfold zhF
   grind
  ·obtain ⟨x,hxm,rfl⟩:=xz.1 hp;obtain ⟨x1,e,he,hv⟩:=hx x hxm;have wT:=(hfs.subs x hxm).1;refine zqL t2 (zwA _) x1 hvw hi fun r _ _=>?_
   unfold zhF;rw [xp (by simp),hf,xp (fun hh=>by rw [wT] at hh;cases hh.1),xq wT,he];simp only [zDx,hv]
theorem zqw {g:Int->List UInt8->Msg} {f:Fld} {i:Int}:∀{l:List Th} {a:zce},(∀t∈l,t.fi≠i)->accF g f i a l=a
 | [],a,_=>rfl
 | t::l,a,h=>by
  rw [accF,xp (h t xr),zqw fun x hx=>h x (xt _ hx)]
theorem zwc {g:Int->List UInt8->Msg} {f:Fld} {i:Int} (hr:f.Repeated=true) (hk:kNum f.Kind=false) (wT:f.Kind≠17) {raw:Str->List UInt8}:∀(ts:List Str) (a:zce),∃b,accF g f i a (ts.map fun t=>⟨i,false,t,raw t⟩)=(a.1,b,a.2.2.1,a.2.2.2.1++ts,a.2.2.2.2)
 | [],a=>⟨a.2.1,by simp [accF]⟩
 | t::ts,a=>by
  obtain ⟨b,hb⟩:=zwc (raw:=raw) hr hk wT ts (stp g f a ⟨i,false,t,raw t⟩);refine ⟨b,?_⟩;rw [xH,accF,xq rfl,hb];unfold stp
  grind
theorem zyK {g:Int->List UInt8->Msg} {f:Fld} {i:Int} (hr:f.Repeated=true) (wT:f.Kind=17) {e:Msg->List UInt8} {raw:Msg->List UInt8}:∀(xs:List Msg) (a:zce),(∀x∈xs,g f.Of (e x)=x)->∃b,accF g f i a (xs.map fun x=>⟨i,false,e x,raw x⟩)=(a.1,b,a.2.2.1,a.2.2.2.1,a.2.2.2.2++xs)
 | [],a,_=>⟨a.2.1,by simp [accF]⟩
 | x::xs,a,h=>by
  obtain ⟨b,hb⟩:=zyK (raw:=raw) hr wT xs (stp g f a ⟨i,false,e x,raw x⟩) fun y hy=>h y (xt _ hy)
  refine ⟨b,?_⟩;have hk:kNum 17=false:=rfl;rw [xH,accF,xq rfl,hb];unfold stp
  grind
theorem zIl {s:List Mes} {g:Int->List UInt8->Msg} {f:Fld} {i:Int} {v:Vlu} (hfs:zhb s v f) (hn:v.Number=f.Number) (hw:∀w∈v.Words,0<=w/\w<=18446744073709551615) (hg:∀x∈v.Subs,g f.Of (encM s x f.Of)=x):
  valO g f (accF g f i acc0 ((pcsV s f i v).map (·.2)))=v:=by
 unfold pcsV;by_cases hk:kNum f.Kind=true
 ·rw [xq hk];have hnt:=hfs.noTexts (by have:=zhw hk;omega);have hns:=hfs.noSubs (zhw hk).1;have wT:=(zhw hk).1;by_cases hr:f.Repeated=true
  ·rw [xq hr,qZ,accF,accF,xq rfl];unfold stp;simp only [yo,hr];rw [zFx hk hfs.words hw];unfold valO acc0;simp only [xG];rw [xp (fun hh=>wT hh.2.1),<-hn];obtain ⟨n,w,t,sub⟩:=v
   grind
  ·rw [xp hr,qZ,accF,accF,xq rfl];have hone:=hfs.one (by simpa using hr);unfold zaq at hone;rw [hnt,hns] at hone;simp only [yz,yw] at hone;obtain ⟨w,hwd⟩:∃w,v.Words=[w]:=pR.1 hone;have hc:=zuh (hfs.words w (by rw [hwd];exact xr)) (hw w (by rw [hwd];exact xr));unfold stp;rw [xp (by simp),xq hk,xp hr,xp hr,hwd];unfold valO acc0;simp only [xG,pk];rw [xp (fun hh=>wT hh.2.1),hc.2.2.1,<-hn];obtain ⟨n,w',t,sub⟩:=v
   grind
 ·have hk':kNum f.Kind=false:=by simpa using hk
  rw [xp hk];have hnw:=hfs.noWords hk';by_cases wT:f.Kind=17
  ·have hnt:=hfs.noTexts (by omega);rw [hnt,yF,xG,yU];by_cases hr:f.Repeated=true
   ·obtain ⟨b,hb⟩:=zyK (g:=g) (i:=i) (e:=fun x=>encM s x f.Of) (raw:=fun x=>put5 f.Number 2 (encM s x f.Of)) hr wT v.Subs acc0 hg;have hb':accF g f i acc0 (List.map ((fun x:List UInt8×Th=>x.2)∘fun x=>(put5 f.Number 2 (encM s x f.Of),(⟨i,false,encM s x f.Of,put5 f.Number 2 (encM s x f.Of)⟩:Th))) v.Subs)=_:=hb;rw [hb'];unfold valO acc0;simp only [xG];rw [xp (fun hh=>by rw [hr] at hh;cases hh.2.2),<-hn];obtain ⟨n,w,t,sub⟩:=v
    grind
   ·have hr':f.Repeated=false:=by simpa using hr
    obtain ⟨x,hv,hx⟩:=hfs.msg wT hr';have hsub:v.Subs=[x]:=by rw [hv]
    have hgx:=hg x (by rw [hsub];exact xr);have e17:kNum 17=false:=rfl;rw [hsub,qZ];show valO g f (accF g f i acc0 [⟨i,false,encM s x f.Of,put5 f.Number 2 (encM s x f.Of)⟩])=v;rw [accF,accF,xq rfl];unfold stp valO acc0
    grind
  ·have hns:=hfs.noSubs wT;rw [hns,yF,xY,yU];by_cases hr:f.Repeated=true
   ·obtain ⟨b,hb⟩:=zwc (g:=g) (i:=i) (raw:=fun t=>put5 f.Number 2 t) hr hk' wT v.Texts acc0;have hb':accF g f i acc0 (List.map ((fun x:List UInt8×Th=>x.2)∘fun t=>(put5 f.Number 2 t,(⟨i,false,t,put5 f.Number 2 t⟩:Th))) v.Texts)=_:=hb;rw [hb'];unfold valO acc0;simp only [xG];rw [xp (fun hh=>wT hh.2.1),<-hn];obtain ⟨n,w,t,sub⟩:=v
    grind
   ·have hr':f.Repeated=false:=by simpa using hr
    have hone:=hfs.one hr';unfold zaq at hone;rw [hnw,hns] at hone;simp only [yz,yw,xL] at hone;obtain ⟨t,htd⟩:∃t,v.Texts=[t]:=pR.1 hone;rw [htd,qZ];show valO g f (accF g f i acc0 [⟨i,false,t,put5 f.Number 2 t⟩])=v;rw [accF,accF,xq rfl];unfold stp valO acc0;simp [wT,hk',hr'];obtain ⟨n,w,t',sub⟩:=v
    grind
theorem zxW {s:List Mes} {d:Nat} {k:Int}:∀{us:List Str},(∀u∈us,unkR (zo s k) u=true)->∃ps:List (List UInt8×Th),(∀p∈ps,zuv s d k p.1 p.2/\p.2.fi<0/\p.2.raw=p.1)/\ps.map (·.1)=us
 | [],_=>⟨[],(fun p hp=>nomatch hp),rfl⟩
 | u::us,h=>by
  obtain ⟨t,h1,h2,h3⟩:=zHI (d:=d) (h u xr);obtain ⟨ps,h4,h5⟩:=zxW (d:=d) fun x hx=>h x (xt _ hx)
  refine ⟨(u,t)::ps,fun p hp=>?_,by rw [xH,h5]⟩
  grind
theorem zCb {m:Mes} {a b:Int} (ha:0<=fldI m a) (h:fldI m a=fldI m b):a=b:=by
 grind [zdQ]
theorem zyM {s:List Mes} {g:Int->List UInt8->Msg} {m:Mes} {n:Int} (hj:0<=fldI m n):∀{l:List Vlu},zdS l->(∀v∈l,0<=fldI m v.Number)->
  accF g (zr m (fldI m n)) (fldI m n) acc0 ((l.flatMap fun v=>pcsV s (zr m (fldI m v.Number)) (fldI m v.Number) v).map (·.2))=match look l n with
   | some v=>accF g (zr m (fldI m n)) (fldI m n) acc0 ((pcsV s (zr m (fldI m n)) (fldI m n) v).map (·.2))
   | none=>acc0
 | [],_,_=>rfl
 | v::l,hr,hp=>by
  obtain ⟨r1,r2⟩:=xX.1 hr;rw [xI,qG,zmf,zcW];by_cases hv:v.Number=n
  ·rw [xq hv,hv];refine zqw fun t ht=>?_
   obtain ⟨p,hp',rfl⟩:=xz.1 ht
   grind [zAV,zCb]
  ·rw [xp hv];have:accF g (zr m (fldI m n)) (fldI m n) acc0 ((pcsV s (zr m (fldI m v.Number)) (fldI m v.Number) v).map (·.2))=acc0:=by
    refine zqw fun t ht=>?_
    obtain ⟨p,hp',rfl⟩:=xz.1 ht
    grind [zAV,zCb]
   rw [this];exact zyM hj r2 fun u hu=>hp u (xt _ hu)
theorem zuz {s:List Mes} (hs:zdA s):∀(N:Nat) (x:Msg) (k:Int) (d:Nat),szM x<=N->bdM x->wgM x<=30000->zaA s x k=true->dM x<=d->zN s d k (encM s x k)=none/\ofM s k (encM s x k)=x
 | 0,x,k,d,h,_,_,_,_=>by rw [zcB] at h;omega
 | N+1,x,k,d,kg,hb,hw,hr,hd=>by
  obtain ⟨b1,⟨b2,_⟩,b4⟩:=(zkw x).1 hb;have hsz':=kg;rw [zcB] at hsz';have hw':=hw;rw [zlQ] at hw';rw [zFI] at hd;obtain ⟨k0,k1,hrise,hv,hu⟩:=zbc hr;obtain ⟨n0,rfl⟩:∃n:Nat,k=n:=⟨k.toNat,by omega⟩;have hn0:n0<s.length:=by omega
  have hmm:zo s (n0:Int)∈s:=by rw [zcg hn0];exact xB hn0
  obtain ⟨ups,hup,hue⟩:=zxW (d:=d) hu
  -- what is ko of each value
  have hval:∀v∈x.Values,(∀p∈pcsV s (zr (zo s (n0:Int)) (fldI (zo s (n0:Int)) v.Number)) (fldI (zo s (n0:Int)) v.Number) v,zuv s d n0 p.1 p.2)/\
    (∀y∈v.Subs,ofM s (zr (zo s (n0:Int)) (fldI (zo s (n0:Int)) v.Number)).Of (encM s y (zr (zo s (n0:Int)) (fldI (zo s (n0:Int)) v.Number)).Of)=y):=fun v hvm=>by
   obtain ⟨f0,hfit⟩:=hv v hvm;have hfs:=zdP hfit;have hbv:=zeU.1 b4 v hvm;obtain ⟨_,⟨_,bw⟩,_,_,b5⟩:=(zhZ v).1 hbv;have s1:=zeK hvm;have w1:=ztz hvm;have d1:=zvy hvm;rw [zfS] at s1;rw [zjL] at w1;rw [zBV] at d1;rcases zdQ (zo s (n0:Int)) v.Number with ⟨hf,_⟩| ⟨j,hj,hf,hjn,_⟩
   ·omega
   have hfm:zr (zo s (n0:Int)) (fldI (zo s (n0:Int)) v.Number)∈(zo s (n0:Int)).Fields:=by rw [hf,zbv hj];exact xB hj
   have hfo:=hs.fld _ hmm _ hfm;have hnum:(zr (zo s (n0:Int)) (fldI (zo s (n0:Int)) v.Number)).Number=v.Number:=by rw [hf,zbv hj];exact hjn
   have hsub:∀y∈v.Subs,(encM s y (zr (zo s (n0:Int)) (fldI (zo s (n0:Int)) v.Number)).Of).length<=1048576/\(∃e,d=e+1/\zN s e (zr (zo s (n0:Int)) (fldI (zo s (n0:Int)) v.Number)).Of (encM s y (zr (zo s (n0:Int)) (fldI (zo s (n0:Int)) v.Number)).Of)=none)/\
     ofM s (zr (zo s (n0:Int)) (fldI (zo s (n0:Int)) v.Number)).Of (encM s y (zr (zo s (n0:Int)) (fldI (zo s (n0:Int)) v.Number)).Of)=y:=fun y hy=>by
    have s2:=zeJ hy;have w2:=zlR hy;have d2:=zAq hy;have hyr:=(hfs.subs y hy).2;have hby:=zfx.1 b5 y hy;have hle:=(zyS hs (szM y)).1 y _ (xw _) hby (by omega) hyr;obtain ⟨c1,c2⟩:=zuz hs N y _ (d - 1) (by omega) hby (by omega) hyr (by omega);exact ⟨by omega,⟨d - 1,by omega,c1⟩,c2⟩
   refine ⟨zLR f0 rfl (by rw [hnum]) hfo.lo hfo.hi hfs bw (by omega) (fun t ht=>by have:=ztn ht;omega) (fun y hy=>⟨(hsub y hy).1,(hsub y hy).2.1⟩),fun y hy=>(hsub y hy).2.2⟩
  have hall:∀p∈(x.Values.flatMap fun v=>pcsV s (zr (zo s (n0:Int)) (fldI (zo s (n0:Int)) v.Number)) (fldI (zo s (n0:Int)) v.Number) v)++ups,zuv s d n0 p.1 p.2:=fun p hp=>by
   grind
  obtain ⟨p1,p2⟩:=pieces hall;have henc:((x.Values.flatMap fun v=>pcsV s (zr (zo s (n0:Int)) (fldI (zo s (n0:Int)) v.Number)) (fldI (zo s (n0:Int)) v.Number) v)++ups).flatMap (·.1)=encM s x n0:=by
   rw [zmk,zrJ,yE,List.flatMap_assoc]
   grind [zJJ]
  rw [henc] at p1 p2;refine ⟨p1,?_⟩;have hmr:=(zhx hs _ (encM s x n0) d n0 rfl hn0 p1).1;obtain ⟨_,_,hrise2,_,_⟩:=zbc hmr;have hvals:(ofM s n0 (encM s x n0)).Values=x.Values:=by
   refine zwW hrise2 hrise fun n=>?_
   rw [zjA] at hrise2|-;rw [zqI hs hmm hrise2,p2];by_cases hj:0<=fldI (zo s (n0:Int)) n
   ·have ha:=zyM (s:=s) (g:=ofM s) hj hrise fun v hvm=>(hv v hvm).1
    have hskip:accF (ofM s) (zr (zo s (n0:Int)) (fldI (zo s (n0:Int)) n)) (fldI (zo s (n0:Int)) n) acc0 (((x.Values.flatMap fun v=>pcsV s (zr (zo s (n0:Int)) (fldI (zo s (n0:Int)) v.Number)) (fldI (zo s (n0:Int)) v.Number) v)++ups).map (·.2))=accF (ofM s) (zr (zo s (n0:Int)) (fldI (zo s (n0:Int)) n)) (fldI (zo s (n0:Int)) n) acc0 ((x.Values.flatMap fun v=>pcsV s (zr (zo s (n0:Int)) (fldI (zo s (n0:Int)) v.Number)) (fldI (zo s (n0:Int)) v.Number) v).map (·.2)):=by
     grind [zmf,zqw]
    unfold zxX;rw [hskip,ha];cases hlk:look x.Values n with
    | none=>
     grind [zaq,valO,acc0]
    | some v=>
     obtain ⟨hvn,hvm⟩:=zeQ hlk;have hfit:=zdP (hv v hvm).2;have hsub:=(hval v hvm).2;rw [hvn] at hfit hsub;have hbv:=zeU.1 b4 v hvm;obtain ⟨_,⟨_,bw⟩,_,_,_⟩:=(zhZ v).1 hbv;have hnum:v.Number=(zr (zo s (n0:Int)) (fldI (zo s (n0:Int)) n)).Number:=by
      grind [zdQ,zbv]
     simp only;rw [zIl hfit hnum bw hsub,xq ⟨hj,hfit.many⟩]
   ·rw [xp (fun hh=>hj hh.1)];cases hlk:look x.Values n with
    | none=>rfl
    | some v=>
     obtain ⟨hvn,hvm⟩:=zeQ hlk
     grind
  have hunk:(ofM s n0 (encM s x n0)).Unknown=x.Unknown:=by
   rw [zjA,p2];unfold zdy unkO;simp only;rw [qG,List.filter_append,qG];have e1:((x.Values.flatMap fun v=>pcsV s (zr (zo s (n0:Int)) (fldI (zo s (n0:Int)) v.Number)) (fldI (zo s (n0:Int)) v.Number) v).map (·.2)).filter (fun t=>decide (t.fi<0))=[]:=by
    rw [List.filter_eq_nil_iff];intro t ht;obtain ⟨p,hp,rfl⟩:=xz.1 ht
    grind [zAV]
   have e2:(ups.map (·.2)).filter (fun t=>decide (t.fi<0))=ups.map (·.2):=by
    rw [List.filter_eq_self]
    grind
   rw [e1,e2,yF,xG,yU,<-hue];exact qa fun p hp=>(hup p hp).2.2
  generalize ofM s n0 (encM s x n0)=y at hvals hunk
  cases x;cases y
  grind
theorem zOc {m:Mes} {e:Option (Nat×Int)} (b:List UInt8):∀(base:Nat) (l:List UInt8),l=b.drop base->base<=b.length->(((vws m e (spl base l).1).1.map (thOf b)).map fun t=>t.raw.length).sum<=l.length:=by
 intro base l;refine zha (fun base l=>l=b.drop base->base<=b.length->(((vws m e (spl base l).1).1.map (thOf b)).map fun t=>t.raw.length).sum<=l.length) ?_ ?_ ?_ base l
 ·intro base _ _;rw [zdZ];simp [vws]
 ·intro base l c hl h _ _ _;rw [zfY hl h];simp [vws]
 ·intro base l n w a t hl h _ g1 g2 g3 ih hld hbase;have wY:l.length=b.length - base:=by rw [hld];simp
  have ih':=ih (by rw [hld,yh]) (by omega);rw [zcz hl h,vws];cases hv:vw m n w with
  | inl c=>simp
  | inr p=>
   simp only [xH,qL,thOf,xW] at ih'|-
   grind [rawB]
theorem zNZ (m:Mes) (b:List UInt8):((ths m b).map fun t=>t.raw.length).sum<=b.length:=by
 grind [ths,zaC,vwR,sb,wrap_i64,zOc]
theorem zMf (m:Mes) (b:List UInt8):∀t∈ths m b,t.val.length+1<=t.raw.length:=by
 intro t ht;unfold ths at ht;obtain ⟨r,hr,rfl⟩:=xz.1 ht;obtain ⟨h1,h2,h3,h4⟩:=zBD hr;show (valB b r.R).length+1<=(rawB b r.R).length;unfold valB rawB;simp;omega
def ri (i:Int):List Th->Nat
 | []=>0
 | t::l=>(if t.fi=i then 2*t.raw.length else 0)+ri i l
def ru:List Th->Nat
 | []=>0
 | t::l=>(if t.fi<0 then 2*t.raw.length else 0)+ru l
theorem zGL (x:Int) (y:Nat):∀(o:List Int),o.Nodup->(o.map fun i=>if x=i then y else 0).sum<=y/\(x∉o->(o.map fun i=>if x=i then y else 0).sum=0)
 | [],_=>by simp
 | i::o,h=>by
  obtain ⟨h1,h2⟩:=pH.1 h;obtain ⟨i1,i2⟩:=zGL x y o h2
  grind
theorem zGK (f g:Int->Nat):∀(o:List Int),(o.map fun i=>f i+g i).sum=(o.map f).sum+(o.map g).sum
 | []=>rfl
 | i::o=>by simp only [xH,qL,zGK f g o];omega
theorem zJU {o:List Int} (hd:o.Nodup) (h0:∀i∈o,0<=i):∀(l:List Th),(o.map fun i=>ri i l).sum+ru l<=2*(l.map fun t=>t.raw.length).sum
 | []=>by
  have:(o.map fun _=>(0:Nat)).sum=0:=by
   clear hd h0
   induction o with
   | nil=>rfl
   | cons i o ih=>rw [xH,qL,ih]
  have e:(o.map fun i=>ri i [])=o.map fun _=>(0:Nat):=qa fun i _=>rfl
  rw [e,this];simp [ru]
 | t::l=>by
  have ih:=zJU hd h0 l;have e:(o.map fun i=>ri i (t::l))=o.map fun i=>(if t.fi=i then 2*t.raw.length else 0)+ri i l:=rfl
  obtain ⟨s1,s2⟩:=zGL t.fi (2*t.raw.length) o hd;rw [e,zGK,ru,xH,qL]
  grind
theorem zvf:∀(a b:List Msg),wgMs (a++b)=wgMs a+wgMs b
 | [],b=>by simp [wgMs]
 | x::a,b=>by rw [yj,wgMs,wgMs,zvf a b];omega
def wv (a:zce):Nat:=a.2.2.1.length+(a.2.2.2.1.map fun t=>1+t.length).sum+wgMs a.2.2.2.2+2*a.1.length
theorem zNR {g:Int->List UInt8->Msg} {f:Fld} {t:Th} (hg:f.Kind=17->wgM (g f.Of t.val)<=2*t.val.length+1) {c:Nat} (hc:c<=1\/c=2/\f.Kind=17/\f.Repeated=false) (a:zce):wv (stp g f a t)+c<=wv a+(2*t.val.length+2):=by
 have h1:(if f.Repeated=true then a.2.2.1 else []).length<=a.2.2.1.length:=by split<;>simp
 have h2:((if f.Repeated=true then a.2.2.2.1 else []).map fun t=>1+t.length).sum<=(a.2.2.2.1.map fun t=>1+t.length).sum:=by split<;>simp
 have h3:=zuu f.Kind t.val;have h4:kNum f.Kind=false->(zai f.Kind t.val).1=[]:=fun h=>by unfold zai;rw [xq h]
 unfold stp wv;by_cases c1:t.run=true
 ·grind
 ·rw [xp c1];by_cases c2:kNum f.Kind=true
  ·grind [zhw]
  ·rw [xp c2];by_cases c3:f.Kind=17/\f.Repeated=true
   ·rw [xq c3];have:=hg c3.1;rcases hc with hc| ⟨_,_,hr⟩
    ·simp only [zvf,wgMs];omega
    grind
   grind
theorem zzZ {g:Int->List UInt8->Msg} {f:Fld} {i:Int} {c:Nat} (hc:c<=1\/c=2/\f.Kind=17/\f.Repeated=false):∀(l:List Th) (a:zce),(∀t∈l,t.val.length+1<=t.raw.length)->(f.Kind=17->∀t∈l,wgM (g f.Of t.val)<=2*t.val.length+1)->
  wv (accF g f i a l)+(if (accF g f i a l).2.1=true then c else 0)<=wv a+(if a.2.1=true then c else 0)+ri i l
 | [],a,_,_=>by simp only [accF,ri,yw];exact xw _
 | t::l,a,h1,h2=>by
  rw [accF,ri];have ih:=zzZ (g:=g) (i:=i) hc l (if t.fi=i then stp g f a t else a) (fun x hx=>h1 x (xt _ hx)) fun h x hx=>h2 h x (xt _ hx)
  have ht:=h1 t xr;by_cases hi:t.fi=i
  ·rw [xq hi] at ih|-;rw [xq hi];have hs:=zNR (g:=g) (f:=f) (t:=t) (fun h=>h2 h t xr) hc a
   grind
  grind
theorem zMl {g:Int->List UInt8->Msg} {f:Fld} {i:Int} {l:List Th} (h1:∀t∈l,t.val.length+1<=t.raw.length) (h2:f.Kind=17->∀t∈l,wgM (g f.Of t.val)<=2*t.val.length+1)
  (hj:f.Kind=17->wgM (g f.Of (accF g f i acc0 l).1)<=2*(accF g f i acc0 l).1.length+1) (hm:0<zaq (valO g f (accF g f i acc0 l))):wgV (valO g f (accF g f i acc0 l))<=ri i l:=by
 have hmet:(accF g f i acc0 l).2.1=true:=by
  cases h:(accF g f i acc0 l).2.1 with
  | true=>rfl
  | false=>
   grind [zaq,valO,acc0,zpj]
 have w0:wv acc0=0:=rfl;have m0:acc0.2.1=false:=rfl;have k1:=zzZ (g:=g) (f:=f) (i:=i) (c:=1) (.inl (xw _)) l acc0 h1 h2;rw [w0,m0,hmet] at k1;simp only [yo,yZ,yu] at k1;rw [zjL];by_cases hc:f.Kind=17/\f.Repeated=false
 ·have k2:=zzZ (g:=g) (f:=f) (i:=i) (c:=2) (.inr ⟨rfl,hc⟩) l acc0 h1 h2;rw [w0,m0,hmet] at k2;simp only [yo,yZ,yu] at k2;have hjj:=hj hc.1
  generalize accF g f i acc0 l=q at hmet k2 hjj
  unfold valO;rw [xq ⟨hmet,hc⟩];unfold wv at k2;simp only [wgMs];omega
 ·grind [valO,wv]
theorem zJY:∀(l:List Th),(∀t∈l,t.val.length+1<=t.raw.length)->((unkO l).map fun t=>1+t.length).sum<=ru l
 | [],_=>by simp [unkO,ru]
 | t::l,h=>by
  have ih:=zJY l fun x hx=>h x (xt _ hx)
  have ht:=h t xr;unfold unkO at ih|-;rw [yJ,ru]
  grind
theorem zNC (s:List Mes):∀(N:Nat) (b:List UInt8) (k:Int),b.length=N->wgM (ofM s k b)<=2*b.length+1:=by
 intro N
 induction N using Nat.strongRecOn with
 | _ N IH=>
  intro b k hN;have hwt:=zoB (zo s k) b;have hwr:=zNZ (zo s k) b;have hraw:=zMf (zo s k) b;rw [zjA]
  generalize ths (zo s k) b=l at hwt hwr hraw
  generalize zo s k=m
  have hg:∀(f:Fld) (v:List UInt8),v.length+1<=b.length->wgM (ofM s f.Of v)<=2*v.length+1:=fun f v hv=>IH v.length (by omega) v f.Of rfl
  have hval:∀i,0<zaq (valO (ofM s) (zr m i) (accF (ofM s) (zr m i) i acc0 l))->wgV (valO (ofM s) (zr m i) (accF (ofM s) (zr m i) i acc0 l))<=ri i l:=fun i hp=>by
   refine zMl hraw (fun _ t ht=>hg _ _ (by have:=zsj ht;omega)) (fun _=>?_) hp;have hw:=(zpk (ofM s) (zr m i) i acc0 l).2;have j0:wJ acc0=0:=rfl;rw [j0] at hw;cases hm:(accF (ofM s) (zr m i) i acc0 l).2.1 with
   | true=>
    rw [wJ,xq hm] at hw
    grind
   | false=>
    grind [zaq,valO,acc0,zpj]
  have hsum:∀o:List Int,wgVs ((o.map fun i=>valO (ofM s) (zr m i) (accF (ofM s) (zr m i) i acc0 l)).filter fun v=>decide (0<zaq v))<=(o.map fun i=>ri i l).sum:=by
   intro o
   induction o with
   | nil=>simp [wgVs]
   | cons i o ih=>
    rw [xH,yJ,xH,qL];by_cases hp:0<zaq (valO (ofM s) (zr m i) (accF (ofM s) (zr m i) i acc0 l))
    ·rw [xq (by simpa using hp),wgVs]
     grind
    grind
  have h1:=hsum (zch (zaR m) m.Fields.length);have hnd:(zch (zaR m) m.Fields.length).Nodup:=(zoz (zaR m) m.Fields.length).imp fun {a b} h e=>by
   rw [e] at h;exact zAe h h
  have h2:=zJU hnd (fun i hi=>(zdU.1 hi).1) l
  grind [zdy,zlN,zJY,zlQ]
theorem zjx:∀(y x:Nat),x<=y->lenN x<=lenN y:=by
 intro y
 induction y using Nat.strongRecOn with
 | _ y ih=>
  intro x h;by_cases hy:y<128
  ·grind [zdD]
  ·rw [zdl hy];by_cases hx:x<128
   ·rw [zdD hx];have:=znu (y/128);omega
   ·rw [zdl hx];have:=ih (y/128) (by omega) (x/128) (by omega);omega
theorem ztW:∀(x:Nat),lenN (x+1)<=lenN x+1:=by
 intro x
 induction x using Nat.strongRecOn with
 | _ x ih=>
  by_cases h:x+1<128
  ·rw [zdD h];omega
  ·rw [zdl h];by_cases hx:x<128
   ·rw [zdD hx,zdD (by omega)];omega
   ·rw [zdl hx];have h1:=zjx (x/128+1) ((x+1)/128) (by omega)
    grind
theorem zJn:∀(n x y:Nat),x+y=n->lenN (x+y)<=lenN x+lenN y:=by
 intro n
 induction n using Nat.strongRecOn with
 | _ n ih=>
  intro x y hn;have px:=znu x;have py:=znu y;by_cases h:x+y<128
  ·rw [zdD h];omega
  ·rw [zdl h];by_cases hx:x<128
   ·by_cases hy:y<128
    ·rw [zdD (n:=(x+y)/128) (by omega)];omega
    ·rw [zdl hy];have h1:=zjx (y/128+1) ((x+y)/128) (by omega);have h2:=ztW (y/128);omega
   ·rw [zdl hx];by_cases hy:y<128
    ·have h1:=zjx (x/128+1) ((x+y)/128) (by omega);have h2:=ztW (x/128);omega
    ·rw [zdl hy];have h1:=zjx (x/128+y/128+1) ((x+y)/128) (by omega)
     grind [ztW]
theorem zsY (n:Int) (v:List UInt8):(put5 n 2 v).length=lenN (tW n 2)+lenN v.length+v.length:=by
 rw [zhP,xq rfl,zhV,zhV]
theorem zuf (n:Int) {z x y:List UInt8} (h:z.length<=x.length+y.length):(put5 n 2 z).length<=(put5 n 2 x).length+(put5 n 2 y).length:=by
 rw [zsY,zsY,zsY];have h1:=zjx _ _ h;have h2:=zJn _ x.length y.length rfl;omega
def lenF (s:List Mes) (f:Fld) (o:Option Vlu):Nat:=match o with
 | some u=>(encV s u f).length
 | none=>0
theorem zHd {s:List Mes} {v:Vlu} {o:Option Vlu} {f:Fld} (hv:zhb s v f) (ho:∀u,o=some u->zhb s u f)
  (ih:∀x∈v.Subs,∀y:Msg,zaA s x f.Of=true->zaA s y f.Of=true->(encM s (zkg s x y f.Of) f.Of).length<=(encM s x f.Of).length+(encM s y f.Of).length):
  (encV s (zgH s v o f) f).length<=(encV s v f).length+lenF s f o:=by
 rw [zhM];cases o with
 | none=>exact Nat.le_add_right _ _
 | some u=>
  have hu:=ho u rfl;simp only [lenF];by_cases hr:f.Repeated=true
  ·rw [xq hr,ziG,ziG,ziG];by_cases hk:kNum f.Kind=true
   ·simp only [xq hk,xq hr,yE];have:=zuf f.Number (z:=u.Words.flatMap (sPut f.Kind)++v.Words.flatMap (sPut f.Kind)) (x:=u.Words.flatMap (sPut f.Kind)) (y:=v.Words.flatMap (sPut f.Kind)) (by rw [xy];exact xw _);omega
   grind [zsu]
  ·rw [xp hr];by_cases wT:f.Kind=17
   ·rw [xq wT];obtain ⟨x,hvx,hx⟩:=hv.msg wT (by simpa using hr);obtain ⟨y,huy,hy⟩:=hu.msg wT (by simpa using hr);have hvs:v.Subs=[x]:=by rw [hvx]
    have hus:u.Subs=[y]:=by rw [huy]
    have hnk:¬kNum f.Kind=true:=fun h=>(zhw h).1 wT
    have hvt:v.Texts=[]:=by rw [hvx]
    have hut:u.Texts=[]:=by rw [huy]
    rw [ziG,ziG,ziG,xp hnk,xp hnk,xp hnk,hvs,hus,hvt,hut,zkA];simp only [zhD,qm,xG,xY];have h1:=ih x (by rw [hvs];exact xr) y hx hy;have:=zuf f.Number h1;omega
   grind
def ztX (s:List Mes) (m:Mes) (o:Option Vlu):Nat:=match o with
 | some u=>(encV s u (zr m (fldI m u.Number))).length
 | none=>0
theorem zCV {s:List Mes} {m:Mes} {v:Vlu}:∀{d:Bool} {l:List Vlu},zdS l->(zcT s (putL v d l) m).length+ztX s m (look l v.Number)<=(zcT s l m).length+(if d=true then 0 else (encV s v (zr m (fldI m v.Number))).length)
 | d,[],_=>by
  rw [putL];cases d
  ·simp [zcT,look,ztX]
  ·simp [zcT,look,ztX]
 | d,u::l,h=>by
  obtain ⟨h1,h2⟩:=xX.1 h;have ih:=zCV (s:=s) (m:=m) (v:=v) (d:=d|| decide (v.Number<=u.Number)) h2;rw [putL,zof,zof,zcW,zcT,xy,xy,xy];by_cases hn:u.Number=v.Number
  ·rw [xq hn,xq hn];rw [zqH fun x hx=>by have:=h1 x hx;omega] at ih;have hle:v.Number<=u.Number:=by omega
   simp only [hle,decide_true,pi,yo,ztX] at ih|-;cases d
   ·rw [xq ⟨rfl,trivial⟩];simp only [zcT,xy,yz,yZ,yu];omega
   ·rw [xp (fun hh=>by cases hh.1)];simp only [zcT,yz,yo];omega
  ·rw [xp hn,xp hn];have e2:(zcT s [u] m).length=(encV s u (zr m (fldI m u.Number))).length:=by rw [zcT,zcT,xY]
   have e3:(zcT s [v] m).length=(encV s v (zr m (fldI m v.Number))).length:=by rw [zcT,zcT,xY]
   rw [e2];cases d
   ·by_cases hle:v.Number<=u.Number
    ·grind
    ·have eb:(false|| decide (v.Number<=u.Number))=false:=by simp [hle]
     rw [eb] at ih|-;rw [xp (by simp)] at ih;rw [xp (fun hh=>hle hh.2),xp (by simp)];simp only [zcT,yz];omega
   ·rw [Bool.true_or] at ih|-;rw [xq rfl] at ih;rw [xp (fun hh=>by cases hh.1),xq rfl];simp only [zcT,yz];omega
theorem zwP {s:List Mes} {a:Msg} {m:Mes}:∀{l acc:List Vlu},zdS acc->zdS l->(∀v∈l,0<zaq (zgH s v (look a.Values v.Number) (zr m (fldI m v.Number))))->
  (∀v∈l,look acc v.Number=look a.Values v.Number)->(∀v∈l,(encV s (zgH s v (look a.Values v.Number) (zr m (fldI m v.Number))) (zr m (fldI m v.Number))).length<=(encV s v (zr m (fldI m v.Number))).length+ztX s m (look a.Values v.Number))->
  (zcT s (zhE s l a m acc) m).length<=(zcT s acc m).length+(zcT s l m).length
 | [],acc,_,_,_,_,_=>by rw [zhE];simp [zcT]
 | v::l,acc,h1,h2,h3,h4,h5=>by
  obtain ⟨l1,l2⟩:=xX.1 h2;have hm:=h3 v xr;have hnum:=ztU s v (look a.Values v.Number) (zr m (fldI m v.Number));have hl:=h5 v xr;have hla:=h4 v xr;rw [zhE,zcT,xy];have hput:putM ⟨acc,[]⟩ (zgH s v (look a.Values v.Number) (zr m (fldI m v.Number)))=⟨putL (zgH s v (look a.Values v.Number) (zr m (fldI m v.Number))) false acc,[]⟩:=by
   unfold putM;have:decide (zaq (zgH s v (look a.Values v.Number) (zr m (fldI m v.Number)))=0)=false:=xT (by omega);rw [this]
  rw [hput];have hpe:=zCV (s:=s) (m:=m) (v:=zgH s v (look a.Values v.Number) (zr m (fldI m v.Number))) (d:=false) h1;rw [hnum,hla] at hpe;simp only [yZ,yu] at hpe
  have ih:=zwP (s:=s) (a:=a) (m:=m) (l:=l) (acc:=putL (zgH s v (look a.Values v.Number) (zr m (fldI m v.Number))) false acc) (zmr h1) l2 (fun u hu=>h3 u (xt _ hu))
   (fun u hu=>by
    have:=l1 u hu;rw [zsM h1,hnum,xp (by omega)];exact h4 u (xt _ hu)) fun u hu=>h5 u (xt _ hu)
  simp only;omega
theorem zCt {s:List Mes}:∀(N:Nat) (b a:Msg) (k:Int),szM b<=N->zaA s a k=true->zaA s b k=true->(encM s (zkg s b a k) k).length<=(encM s b k).length+(encM s a k).length
 | 0,b,a,k,h,_,_=>by rw [zcB] at h;omega
 | N+1,b,a,k,kg,ha,hb=>by
  obtain ⟨k0,k1,ra,ha',ua⟩:=zbc ha;obtain ⟨_,_,rb,hb',ub⟩:=zbc hb;rw [zcB] at kg;have fit:∀n u,look a.Values n=some u->zhb s u (zr (zo s k) (fldI (zo s k) n)):=fun n u hu=>by
   obtain ⟨e,hm⟩:=zeQ hu;have:=zdP (ha' u hm).2
   grind
  rw [zlr,zmk,zmk,zmk];have:=zwP (s:=s) (a:=a) (m:=zo s k) ra rb (fun v hv=>zrO (zdP (hb' v hv).2) fun u hu=>fit _ u hu) (fun _ _=>rfl) (fun v hv=>by
   have h:=zHd (zdP (hb' v hv).2) (o:=look a.Values v.Number) (fun u hu=>fit _ u hu) fun x hx y hxr hyr=>by
    have s1:=zeK hv;rw [zfS] at s1;have s2:=zeJ hx;exact zCt N x y _ (by omega) hyr hxr
   refine yi h (Nat.add_le_add_left ?_ _);cases hl:look a.Values v.Number with
   | none=>exact xC _
   | some u=>
    have e:=(zeQ hl).1;unfold ztX lenF;simp only [e];exact xw _)
  grind
def zcl (s:List Mes) (k:Int) (b:List UInt8):List UInt8:=encM s (ofM s k b) k
theorem zDb (b:List UInt8) (r:Rec):(rawB b r).length<=b.length:=by unfold rawB;simp;omega
theorem zIw {k w:Int} (h:0<=w/\w<=18446744073709551615):zbk k w<=w\/2147483648<=w:=by
 unfold zbk;split
 ·unfold zoO sgnS;split
  ·rw [xq (by omega)];omega
  ·rw [xp (by omega)];omega
 ·split
  ·omega
  ·split
   ·split<;>omega
   ·omega
theorem zzA {k:Int} (hk:kNum k=true) {p:List UInt8} (hf:zbu (zaa k) p=true):(sPut k (zdW k p)).length<=2*p.length:=by
 have hr:=zms k (b:=p);have h1:=zff.1 hk;unfold zdW;rw [zFh hr];have hc:=zhc k hr;unfold sPut zkD;by_cases h12:12<=k
 ·rw [xq h12,zaB];have:zaa k=1:=by unfold zaa;rw [xp (by omega),xq h12]
  rw [this] at hf;unfold zbu at hf;rw [xp (by omega)] at hf;have:=yq hf;omega
 ·rw [xp h12];by_cases h9:9<=k
  ·rw [xq h9,zaB];have:zaa k=5:=by unfold zaa;rw [xp (by omega),xp h12,xq h9]
   rw [this] at hf;unfold zbu at hf;rw [xp (by omega)] at hf;have:=yq hf;omega
  ·rw [xp h9,zhV];have h0:zaa k=0:=by unfold zaa;rw [xp (by omega),xp h12,xp h9]
   rw [h0] at hf;unfold zbu at hf;rw [xq rfl] at hf;obtain ⟨f1,f2⟩:=yq hf;have hraw:rawW k p=(rd p).1:=by unfold rawW;rw [xq h0]
   rw [hraw] at hr hc|-;have hm:=zAu (l:=p) (k:=p.length) (by rw [<-f1,<-f2]);rw [zhV] at hm;rcases zIw (k:=k) hr with hle| hge
   ·have:=zjx (rd p).1.toNat (zbk k (rd p).1).toNat (by omega);omega
   ·have h5:=zjx (rd p).1.toNat 2147483648 (by omega);have e5:lenN 2147483648=5:=by
     rw [zdl (by omega),zdl (by omega),zdl (by omega),zdl (by omega),zdD (by omega)]
    have h10:=zsJ (n:=(zbk k (rd p).1).toNat) (by omega);omega
theorem zsW {k:Int} (hk:kNum k=true):∀{ps:List (List UInt8)},(∀p∈ps,zbu (zaa k) p=true)->((ps.map (zdW k)).flatMap (sPut k)).length<=2*ps.flatten.length
 | [],_=>by simp
 | p::ps,h=>by
  have h1:=zzA hk (h p xr);have h2:=zsW hk fun q hq=>h q (xt _ hq)
  rw [xH,xI,xy,qi,xy];omega
theorem zvg {k:Int} (hk:kNum k=true) (v:List UInt8):((zai k v).1.flatMap (sPut k)).length<=2*v.length:=by
 unfold zai;rw [xp (by rw [hk];simp)];by_cases h:(pcs k v).2=0
 ·rw [xq h];have h1:=zsW hk (ps:=(pcs k v).1) fun p hp=>(zsU hk v p hp).1
  rw [zxr k v h] at h1;exact h1
 ·rw [xp h];simp
theorem zJo {n w:Int} (h:1<=n) (h0:0<=w/\w<=7):lenN (tW n 2)=lenN (tW n w):=by
 have key:∀(q a b:Nat),a<8->b<8->lenN (8*q+a)=lenN (8*q+b):=by
  intro q a b ha hb;by_cases hq:8*q+8<=128
  ·rw [zdD (by omega),zdD (by omega)]
  ·rw [zdl (n:=8*q+a) (by omega),zdl (n:=8*q+b) (by omega)];have:(8*q+a)/128=(8*q+b)/128:=by omega
   rw [this]
 have:=key n.toNat 2 w.toNat (by omega) (by omega);have e1:tW n 2=8*n.toNat+2:=by unfold tW;omega
 have e2:tW n w=8*n.toNat+w.toNat:=by unfold tW;omega
 rw [e1,e2];exact this
theorem zxu (n:Int) {z v:List UInt8} (h:z.length<=2*v.length):(put5 n 2 z).length<=2*(put5 n 2 v).length:=by
 have:=zuf n (z:=z) (x:=v) (y:=v) (by omega);omega
theorem zID {s:List Mes} {d:Nat} {m:Mes} {t:Th} {g:Int->List UInt8->Msg} {f:Fld} (ht:OkT s d m t) (h0:0<=t.fi) (hf:zr m t.fi=f) (hn:1<=f.Number) {R:Nat}
  (hR1:t.run=true->(put5 f.Number 2 t.val).length<=R) (hR2:t.run=false->(put5 f.Number (zaa f.Kind) t.val).length<=R) (hg:f.Kind=17->(encM s (g f.Of t.val) f.Of).length<=2*t.val.length):
  (encV s (valO g f (stp g f acc0 t)) f).length<=2*R:=by
 have ka:=ht.run h0;have hone:=ht.one h0;rw [hf] at ka hone;have hz1:(if f.Repeated=true then acc0.2.2.1 else [])=[]:=by split<;>rfl
 have hz2:(if f.Repeated=true then acc0.2.2.2.1 else [])=[]:=by split<;>rfl
 by_cases hr:t.run=true
 ·obtain ⟨hk,hrep,_⟩:=ka hr;have wT:=(zhw hk).1;have hw:=zvg hk t.val;have:=zxu f.Number hw;have:=hR1 hr;rw [ziG,xq hk,xq hrep];unfold stp valO;rw [xq hr,hz1];simp only [xG];omega
 ·have hr':t.run=false:=by simpa using hr
  obtain ⟨hkr,hfit,_,_⟩:=hone hr';have hR:=hR2 hr';by_cases hk:kNum f.Kind=true
  ·have hp:=ziu hk hfit;have hpt:=zzA hk hfit;have wT:=(zhw hk).1;rw [ziG,xq hk];have e:(valO g f (stp g f acc0 t)).Words=[zdW f.Kind t.val]:=by
    unfold stp valO;rw [xp hr,xq hk,hz1,hp];rfl
   rw [e];have htg:=zJo (n:=f.Number) (w:=zaa f.Kind) hn (zCu _);have htp:=znu (tW f.Number (zaa f.Kind));have hkw:zaa f.Kind≠2:=by
    have:=zff.1 hk;unfold zaa;rw [xp (by omega)];split;omega;split<;>omega
   rw [zhP,xp hkw,zhV] at hR;have hsl:=zkm (k:=f.Kind) (w:=zdW f.Kind t.val) (zhc _ (zms _));by_cases hrep:f.Repeated=true
   ·rw [xq hrep,zsY,htg];have e2:[zdW f.Kind t.val].flatMap (sPut f.Kind)=sPut f.Kind (zdW f.Kind t.val):=by simp
    rw [e2];have:lenN (sPut f.Kind (zdW f.Kind t.val)).length=1:=zdD (by omega);omega
   ·rw [xp hrep];show (put5 f.Number (zaa f.Kind) (sPut f.Kind (zdW f.Kind t.val))).length<=_;rw [zhP,xp hkw,zhV];omega
  ·have hkk:zaa f.Kind=2:=by
    have h1:¬(1<=f.Kind/\f.Kind<=14):=fun hh=>hk (zff.2 hh)
    have h2:1<=f.Kind/\f.Kind<=17:=by simpa [zaY] using hkr
    unfold zaa;rw [xq (by omega)]
   rw [hkk] at hR;rw [ziG,xp hk];by_cases wT:f.Kind=17
   ·have:=zxu f.Number (hg wT);have e1:(valO g f (stp g f acc0 t)).Texts=[]:=by
     unfold stp valO;rw [xp hr,xp hk];by_cases hrep:f.Repeated=true
     ·rw [xq ⟨wT,hrep⟩,hz2]
     ·rw [xp (fun hh=>hrep hh.2),xq wT,hz2]
    have e2:(valO g f (stp g f acc0 t)).Subs=[g f.Of t.val]:=by
     unfold stp valO;rw [xp hr,xp hk];by_cases hrep:f.Repeated=true
     ·rw [xq ⟨wT,hrep⟩];simp only;rw [xp (fun hh=>by rw [hrep] at hh;cases hh.2.2)];rfl
     ·rw [xp (fun hh=>hrep hh.2),xq wT];simp only;rw [xq ⟨trivial,wT,by simpa using hrep⟩];rfl
    rw [e1,e2];simp only [qm,xG,zhD,xY];omega
   ·have e1:(valO g f (stp g f acc0 t)).Texts=[t.val]:=by
     unfold stp valO;rw [xp hr,xp hk,xp (fun hh=>wT hh.1),xp wT,hz2];rfl
    have e2:(valO g f (stp g f acc0 t)).Subs=[]:=by
     unfold stp valO;rw [xp hr,xp hk,xp (fun hh=>wT hh.1),xp wT];simp only;rw [xp (fun hh=>wT hh.2.1)];rfl
    rw [e1,e2];simp only [pS,zhD,xY];omega
theorem zrM {s:List Mes} (hs:zdA s):∀(N:Nat) (b:List UInt8) (d k:Nat),b.length=N->k<s.length->zN s d k b=none->(zcl s k b).length<=2*b.length:=by
 intro N
 induction N using Nat.strongRecOn with
 | _ N IH=>
  intro b d k hN hk hv;have hmm:zo s (k:Int)∈s:=by rw [zcg hk];exact xB hk
  have hv':=hv;rw [zfP,zcU] at hv';by_cases kl:b=[]
  ·subst kl;unfold zcl;have e:ofM s k []=⟨[],[]⟩:=by
    rw [zjA,zmZ hv,zdZ];unfold zdy zlN unkO;have:∀o:List Int,(o.map fun i=>valO (ofM s) (zr (zo s (k:Int)) i) (accF (ofM s) (zr (zo s (k:Int)) i) i acc0 [])).filter (fun v=>decide (0<zaq v))=[]:=by
     intro o;rw [List.filter_eq_nil_iff];intro v hv;obtain ⟨i,_,rfl⟩:=xz.1 hv;simp [accF,zaq,valO,acc0]
    simp only [yF,List.filter_nil,this]
   rw [e,zmk];simp [zcT]
  ·rcases zia b with ⟨c,hc,_⟩| ⟨n,w,kk,a,t,hc,_,htr,_,g1,g2,g3,g4,g5,_⟩
   ·rw [zfY kl hc] at hv';cases hv'.2
   ·have hrv:=zxx hc;have hrl:(b.take t).length=t:=by simp;omega
    have hrn:b.take t≠[]:=fun e=>by
     rw [e,yz] at hrl;omega
    have hsr:spl 0 (b.take t)=([⟨n,w,((0:Nat):Int),((0+a:Nat):Int),((0+t:Nat):Int)⟩],none):=by
     have hd:(b.take t).drop t=[]:=yy (by omega);rw [zcz hrn (zui hc),hd,zdZ]
    have hval:valB (b.take t) ⟨n,w,((0:Nat):Int),((0+a:Nat):Int),((0+t:Nat):Int)⟩=(b.drop a).take (t - a):=by
     unfold valB;simp only [xD,xL];rw [qI,qd,Nat.min_self]
    have hstep:=hv'.1 ⟨n,w,((0:Nat):Int),((0+a:Nat):Int),((0+t:Nat):Int)⟩ (by rw [zcz kl hc];exact xr);have hr:zN s d k (b.take t)=none:=by
     rw [zfP,zcU,hsr];refine ⟨fun r hr=>?_,rfl⟩;rw [yg.1 hr];refine (ztm (b:=b) (b':=b.take t) rfl rfl ?_).2 hstep;rw [hval];unfold valB;simp only [xD,xL]
    have hz:zN s d k (b.drop t)=none:=by
     have:=zhu s d k (b.drop t) hr;rw [qc] at this;exact this.1 hv
    have hone:(zcl s k (b.take t)).length<=2*t:=by
     have hth:=zDB hr;have hmr:=(zhx hs _ (b.take t) d k rfl hk hr).1;obtain ⟨_,_,hrise,_,_⟩:=zbc hmr;have hths:ths (zo s (k:Int)) (b.take t)=[thR (zo s k) (b.take t) ⟨n,w,((0:Nat):Int),((0+a:Nat):Int),((0+t:Nat):Int)⟩]:=by rw [zmZ hr,hsr];rfl
     have hraw:(thR (zo s (k:Int)) (b.take t) ⟨n,w,((0:Nat):Int),((0+a:Nat):Int),((0+t:Nat):Int)⟩).raw.length<=t:=by
      have:=zDb (b.take t) ⟨n,w,((0:Nat):Int),((0+a:Nat):Int),((0+t:Nat):Int)⟩;rw [hrl] at this;exact this
     have hput:=hrv.2.2;rw [<-hval] at hput;unfold zcl;rw [zjA] at hrise|-;rw [hths] at hrise hth|-;have hu:=hth _ xr
     have hvw:vwG (zo s (k:Int)) ⟨n,w,((0:Nat):Int),((0+a:Nat):Int),((0+t:Nat):Int)⟩=match vw (zo s (k:Int)) n w with
      | .inl _=>(-1,false)
      | .inr p=>p:=rfl
     have hfi:(thR (zo s (k:Int)) (b.take t) ⟨n,w,((0:Nat):Int),((0+a:Nat):Int),((0+t:Nat):Int)⟩).fi=(vwG (zo s (k:Int)) ⟨n,w,((0:Nat):Int),((0+a:Nat):Int),((0+t:Nat):Int)⟩).1:=rfl;have ka:(thR (zo s (k:Int)) (b.take t) ⟨n,w,((0:Nat):Int),((0+a:Nat):Int),((0+t:Nat):Int)⟩).run=(vwG (zo s (k:Int)) ⟨n,w,((0:Nat):Int),((0+a:Nat):Int),((0+t:Nat):Int)⟩).2:=rfl;have hvl:(thR (zo s (k:Int)) (b.take t) ⟨n,w,((0:Nat):Int),((0+a:Nat):Int),((0+t:Nat):Int)⟩).val=valB (b.take t) ⟨n,w,((0:Nat):Int),((0+a:Nat):Int),((0+t:Nat):Int)⟩:=rfl;have hvlen:(valB (b.take t) ⟨n,w,((0:Nat):Int),((0+a:Nat):Int),((0+t:Nat):Int)⟩).length=t - a:=by rw [hval];exact hrv.2.1
     rw [hvw] at hfi ka
     generalize thR (zo s (k:Int)) (b.take t) ⟨n,w,((0:Nat):Int),((0+a:Nat):Int),((0+t:Nat):Int)⟩=u at hraw hu hfi ka hvl hrise|-
     rw [<-hvl] at hput hvlen
     -- values: of the record's field alone
     have hmem:∀v∈(zdy (ofM s) (zo s (k:Int)) [u]).Values,0<=u.fi/\v=valO (ofM s) (zr (zo s (k:Int)) u.fi) (stp (ofM s) (zr (zo s (k:Int)) u.fi) acc0 u):=fun v hv=>by
      unfold zdy zlN at hv;obtain ⟨h1,h2⟩:=yb.1 hv;obtain ⟨i,hi,rfl⟩:=xz.1 h1;have hi0:=(zdU.1 hi).1;by_cases hui:u.fi=i
      ·rw [accF,accF,xq hui,<-hui];exact ⟨by omega,rfl⟩
      ·exfalso;rw [accF,accF,xp hui] at h2;simp [zaq,valO,acc0] at h2
     rw [zmk];rcases zel (zo s (k:Int)) n w with hvv| ⟨hvv,_⟩| ⟨i,run,hvv,hfii,hil⟩
     ·rw [hvv] at hfi;simp only at hfi;have hnil:(zdy (ofM s) (zo s (k:Int)) [u]).Values=[]:=by
       cases hvs:(zdy (ofM s) (zo s (k:Int)) [u]).Values with
       | nil=>rfl
       | cons v l=>have:=(hmem v (by rw [hvs];exact xr)).1;omega
      rw [hnil];have:(zdy (ofM s) (zo s (k:Int)) [u]).Unknown=[u.raw]:=by
       unfold zdy unkO;simp only;rw [yJ,xq (by simp;omega)];rfl
      rw [this];simp [zcT];omega
     ·rw [hvv] at hfi;simp only at hfi;have hnil:(zdy (ofM s) (zo s (k:Int)) [u]).Values=[]:=by
       cases hvs:(zdy (ofM s) (zo s (k:Int)) [u]).Values with
       | nil=>rfl
       | cons v l=>have:=(hmem v (by rw [hvs];exact xr)).1;omega
      rw [hnil];have:(zdy (ofM s) (zo s (k:Int)) [u]).Unknown=[u.raw]:=by
       unfold zdy unkO;simp only;rw [yJ,xq (by simp;omega)];rfl
      rw [this];simp [zcT];omega
     ·rw [hvv] at hfi ka;simp only at hfi ka;have hunk:(zdy (ofM s) (zo s (k:Int)) [u]).Unknown=[]:=by
       unfold zdy unkO;simp only;rw [yJ,xp (by simp;omega)];rfl
      rw [hunk];have hfm:zr (zo s (k:Int)) u.fi∈(zo s (k:Int)).Fields:=by rw [hfi,zbv hil];exact xB hil
      have hfo:=hs.fld _ hmm _ hfm;have hnum:(zr (zo s (k:Int)) u.fi).Number=n:=by
       rcases zdQ (zo s (k:Int)) n with ⟨hf,_⟩| ⟨j,hj,hf,hjn,_⟩
       ·omega
       ·have:j=i:=by omega
        subst this;rw [hfi,zbv hj,hjn]
      have hb1:(encV s (valO (ofM s) (zr (zo s (k:Int)) u.fi) (stp (ofM s) (zr (zo s (k:Int)) u.fi) acc0 u)) (zr (zo s (k:Int)) u.fi)).length<=2*t:=by
       refine zID hu (by omega) rfl hfo.lo (fun hr=>?_) (fun hr=>?_) fun wT=>?_
       ·rw [hr] at ka;have:=(zBz (by rw [hvv,<-ka])).2.2;rw [hnum,<-this];exact hput
       ·rw [hr] at ka;have hkw:zaa (zr (zo s (k:Int)) u.fi).Kind=w:=by
         unfold vw at hvv;rw [hfii,<-hfi] at hvv;split at hvv
         ·rename_i wS;omega
         ·split at hvv
          ·have:=congrArg (fun q:Int⊕(Int×Bool)=>match q with| .inl _=>false| .inr p=>p.2) hvv;simp only at this;rw [<-ka] at this;cases this
          ·split at hvv
           ·cases hvv
           ·rename_i h4;by_cases hq:zaa (zr (zo s (k:Int)) u.fi).Kind=w
            ·exact hq
            ·exact absurd (.inr hq) h4
        rw [hnum,hkw];exact hput
       ·have hrf:u.run=false:=by
         cases hrr:u.run with
         | false=>rfl
         | true=>
          have:=(hu.run (by omega) hrr).1;rw [wT] at this;cases this
        obtain ⟨e,he,hve⟩:=(hu.one (by omega) hrf).2.2.2 wT;have hof:=hfo.sub wT;obtain ⟨q,hq⟩:∃q:Nat,(zr (zo s (k:Int)) u.fi).Of=q:=⟨(zr (zo s (k:Int)) u.fi).Of.toNat,by omega⟩;rw [hq] at hve|-;exact IH u.val.length (by omega) u.val e q rfl (by omega) hve
      have hkn:0<=fldI (zo s (k:Int)) (zr (zo s (k:Int)) u.fi).Number:=by rw [hnum];omega
      have hfld:zr (zo s (k:Int)) (fldI (zo s (k:Int)) (zr (zo s (k:Int)) u.fi).Number)=zr (zo s (k:Int)) u.fi:=by rw [hnum,hfii,hfi]
      cases hvs:(zdy (ofM s) (zo s (k:Int)) [u]).Values with
      | nil=>simp [zcT]
      | cons v l=>
       rw [hvs] at hrise hmem;obtain ⟨r1,_⟩:=xX.1 hrise;have hl:l=[]:=by
        cases l with
        | nil=>rfl
        | cons v2 l=>
         have h1:=(hmem v xr).2;have h2:=(hmem v2 (xt _ xr)).2;have:=r1 v2 xr;rw [h1,h2] at this;omega
       have hv1:=(hmem v xr).2;rw [hl,zcT,zcT,hv1];have hnn:(valO (ofM s) (zr (zo s (k:Int)) u.fi) (stp (ofM s) (zr (zo s (k:Int)) u.fi) acc0 u)).Number=(zr (zo s (k:Int)) u.fi).Number:=rfl;rw [hnn,hfld];simp only [xY,List.flatten_nil];exact hb1
    have hap:=zEP hs _ (b.take t) (b.drop t) d k rfl hk hr hz;rw [qc] at hap;have hra:=(zhx hs _ (b.take t) d k rfl hk hr).1;have hrz:=(zhx hs _ (b.drop t) d k rfl hk hz).1;have hj:=zCt _ (ofM s k (b.drop t)) (ofM s k (b.take t)) k (xw _) hra hrz;have hzl:(b.drop t).length=b.length - t:=by simp
    have hih:=IH (b.drop t).length (by omega) (b.drop t) d k rfl hk hz;unfold zcl at hih hone|-;rw [hap];omega
theorem zKH:∀(N:Nat) (x:Msg),szM x<=N->szM x<=wgM x
 | 0,x,h=>by rw [zcB] at h;omega
 | N+1,x,h=>by
  rw [zcB] at h;have hv:∀v∈x.Values,szV v<=wgV v:=fun v hv=>by
   have h1:=zeK hv;have he:=zfS v;have:∀l:List Msg,(∀y∈l,y∈v.Subs)->szMs l<=wgMs l:=by
    intro l
    induction l with
    | nil=>intro _;rw [szMs];omega
    | cons y l ih=>
     intro hl;have hy:=hl y xr;have h2:=zeJ hy;have:=zKH N y (by omega);have:=ih fun z hz=>hl z (xt _ hz)
     rw [szMs,wgMs];omega
   have:=this v.Subs fun y hy=>hy
   rw [he,zjL];omega
  have:∀l:List Vlu,(∀v∈l,v∈x.Values)->szVs l<=wgVs l:=by
   intro l
   induction l with
   | nil=>intro _;rw [szVs];omega
   | cons v l ih=>
    intro hl;have:=hv v (hl v xr);have:=ih fun z hz=>hl z (xt _ hz)
    rw [szVs,wgVs];omega
  have:=this x.Values fun v hv=>hv
  rw [zcB,zlQ];omega
theorem zMP:∀(N:Nat) (x:Msg),szM x<=N->wgM x<=1048576->smM x
 | 0,x,h,_=>by rw [zcB] at h;omega
 | N+1,x,h,hw=>by
  rw [zcB] at h;rw [zlQ] at hw;have hl:=zDP x.Values;have hu:=zBo (l:=x.Unknown);refine (zxN _).2 ⟨by omega,⟨by omega,fun t ht=>by have:=ztn ht;omega⟩,znL.2 fun v hv=>?_⟩;have h1:=zeK hv;have h2:=ztz hv;rw [zfS] at h1;rw [zjL] at h2;have ht:=zBo (l:=v.Texts);have hs:=zDO v.Subs;refine (zxO _).2 ⟨by omega,⟨by omega,fun t ht=>by have:=ztn ht;omega⟩,by omega,znK.2 fun y hy=>?_⟩;have h3:=zeJ hy;have h4:=zlR hy;exact zMP N y (by omega) (by omega)
theorem zty:∀(l m:List Vlu),wgVs (l++m)=wgVs l+wgVs m
 | [],m=>by rw [xG,wgVs];omega
 | v::l,m=>by rw [yj,wgVs,wgVs,zty l m];omega
theorem zDN:∀(l m:List Msg),wgMs (l++m)=wgMs l+wgMs m
 | [],m=>by rw [xG,wgMs];omega
 | v::l,m=>by rw [yj,wgMs,wgMs,zDN l m];omega
def wgO:Option Vlu->Nat
 | none=>0
 | some u=>wgV u
theorem zJO (v:Vlu):∀(d:Bool) (l:List Vlu),zdS l->wgVs (putL v d l)+wgO (look l v.Number)<=wgVs l+(if d=true then 0 else wgV v)
 | d,[],_=>by
  rw [putL];cases d
  ·show wgVs [v]+0<=_;simp [wgVs]
  ·show wgVs []+0<=_;simp
 | d,u::l,h=>by
  obtain ⟨h1,h2⟩:=xX.1 h;have ih:=zJO v (d|| decide (v.Number<=u.Number)) l h2;rw [putL,zty,zty,zcW,wgVs];by_cases he:u.Number=v.Number
  ·rw [xq he,xq he];have hn:look l v.Number=none:=zqH fun x hx=>by have:=h1 x hx;omega
   rw [hn] at ih;have hle:decide (v.Number<=u.Number)=true:=by simp;omega
   rw [hle,pi,xq rfl] at ih;simp only [wgO,wgVs,hle,pi] at ih|-;cases d
   ·rw [xq ⟨rfl,by omega⟩,wgVs,wgVs];simp;omega
   ·rw [xp (by simp),wgVs];simp;omega
  ·rw [xp he,xp he,wgVs,wgVs];cases d
   ·by_cases hv:v.Number<=u.Number
    ·rw [xq ⟨rfl,hv⟩,wgVs,wgVs];simp only [hv,decide_true,pi,yo,yZ,yu] at ih|-;omega
    ·rw [xp (fun hh=>hv hh.2),wgVs];simp only [hv,decide_false,pp,yZ,yu] at ih|-;omega
   ·rw [xp (by simp),wgVs];simp only [Bool.true_or,yo] at ih|-;omega
theorem zzg :∀(l acc:List Vlu),zdS l->zdS acc->(∀v∈l,look acc v.Number=look a.Values v.Number)->(∀v∈l,wgV (zgH s v (look a.Values v.Number) (zr m (fldI m v.Number)))<=wgV v+wgO (look a.Values v.Number))->wgVs (zhE s l a m acc)<=wgVs acc+wgVs l
 | [],acc,_,_,_,_=>by rw [zhE];omega
 | v::l,acc,hl,ha,he,hw=>by
  obtain ⟨l1,l2⟩:=xX.1 hl;have hv:=he v xr;have hwv:=hw v xr;have hn:=ztU s v (look a.Values v.Number) (zr m (fldI m v.Number));rw [zhE]
  generalize zgH s v (look a.Values v.Number) (zr m (fldI m v.Number))=v' at hn hwv|-
  have hp:=zJO v' (decide (zaq v'=0)) acc ha;have ih:=zzg (s:=s) (a:=a) (m:=m) l (putM ⟨acc,[]⟩ v').Values l2 (zmr ha) (fun u hu=>by
   show look (putL v' _ acc) u.Number=_;have:=l1 u hu;rw [zsM ha,xp (by omega)];exact he u (xt _ hu)) (fun u hu=>hw u (xt _ hu))
  have hq:wgVs (putM ⟨acc,[]⟩ v').Values=wgVs (putL v' (decide (zaq v'=0)) acc):=rfl;rw [hn,hv] at hp;rw [wgVs];split at hp<;>omega
theorem zFZ :∀(N:Nat) (b a:Msg) (k:Int),szM b<=N->zaA s a k=true->zaA s b k=true->wgM (zkg s b a k)<=wgM a+wgM b
 | 0,b,a,k,h,_,_=>by rw [zcB] at h;omega
 | N+1,b,a,k,kg,ha,hb=>by
  obtain ⟨_,_,ra,ha',_⟩:=zbc ha;obtain ⟨_,_,rb,hb',_⟩:=zbc hb;rw [zcB] at kg;have:=zzg (s:=s) (a:=a) (m:=zo s k) b.Values a.Values rb ra (fun _ _=>rfl) fun v hv=>by
   rw [zhM];cases hla:look a.Values v.Number with
   | none=>simp only [wgO];omega
   | some u=>
    obtain ⟨hun,hum⟩:=zeQ hla;have hve:=zjL v;have hue:=zjL u;simp only [wgO];split
    ·rw [zjL];simp only [xy,qG,List.sum_append,zDN];omega
    ·split
     ·rename_i hrep wT;have ov:=zdP (hb' v hv).2;have ou:=zdP (ha' u hum).2;rw [hun] at ou;have hsv:=zeK hv;rw [zfS] at hsv;rw [zjL];simp only [yz,yF,List.sum_nil];cases hvs:v.Subs with
      | nil=>rw [zkA,wgMs];omega
      | cons y ys=>
       cases hus:u.Subs with
       | nil=>rw [zkA,wgMs];omega
       | cons z zs=>
        rw [zkA];have hy:y∈v.Subs:=by rw [hvs];exact xr
        have hz:z∈u.Subs:=by rw [hus];exact xr
        have hsy:=zeJ hy;have hj:=zFZ N y z _ (by omega) (ou.subs z hz).2 (ov.subs y hy).2;have w1:=zlR hy;have w2:=zlR hz;rw [wgMs,wgMs];omega
     ·omega
  rw [zlr,zlQ,zlQ,zlQ];simp only [qG,List.sum_append];omega
theorem zGx :∀(N:Nat) (x:Msg) (k:Int) (w:List zag) (keep:Bool),szM x<=N->wgM (zsS s x k w keep)<=wgM x
 | 0,x,k,w,keep,h=>by rw [zcB] at h;omega
 | N+1,x,k,w,keep,kg=>by
  rw [zcB] at kg;have key:∀v∈x.Values,∀f:Fld,wgVs (zxq s v f w keep)<=wgV v:=fun v hv f=>by
   have hsv:=zeK hv;rw [zfS] at hsv;have hve:=zjL v;rw [zsT];split
   ·cases hs:v.Subs with
    | nil=>
     rw [zpY,wgVs,wgVs,zjL];simp only [yz,yF,List.sum_nil];rw [wgMs];omega
    | cons y ys=>
     have hy:y∈v.Subs:=by rw [hs];exact xr
     have hsy:=zeJ hy;have hwy:=zlR hy;have:=zGx (s:=s) N y f.Of (znd w v.Number) keep (by omega);rw [zpY,wgVs,wgVs,zjL];simp only [yz,yF,List.sum_nil];rw [wgMs,wgMs];omega
   ·split
    ·rw [wgVs,wgVs];omega
    ·rw [wgVs];omega
  have all:∀l:List Vlu,(∀v∈l,v∈x.Values)->wgVs (ziP s l (zo s k) w keep)<=wgVs l:=by
   intro l
   induction l with
   | nil=>intro _;rw [ziP];exact xw _
   | cons v l ih=>
    intro h;have i2:=ih fun u hu=>h u (xt _ hu)
    have k2:=key v (h v xr) (zr (zo s k) (fldI (zo s k) v.Number));rw [ziP,zty,wgVs];omega
  have:=all x.Values fun v hv=>hv
  rw [zxo,zlQ,zlQ];simp only;cases keep<;>simp<;>omega
theorem zEd (s:List Mes) (root d:Int):argS s root d=0\/argS s root d=2\/argS s root d=9:=by
 unfold argS;split
 ·omega
 ·split<;>omega
theorem zAk (s:List Mes) (root:Int) (b:List UInt8) (d:Int):0<=(zaT s root b d).2/\(zaT s root b d).2<=9:=by
 unfold zaT;by_cases h:argS s root d=0
 ·rw [xp (by simpa using h)];cases hf:zN s d.toNat root b with
  | none=>simp
  | some p=>
   have:=zjt s d.toNat root b p.1 p.2 hf;simp only [pd];omega
 ·rw [xq h];rcases zEd s root d with h| h| h<;>rw [h]<;>simp
structure V18 (s:List Mes) (d k:Nat) (b:List UInt8):Prop where
 bd:bdM (ofM s k b)
 sm:smM (ofM s k b)
 right:zaA s (ofM s k b) k=true
 depth:dM (ofM s k b)<=d
 wg:wgM (ofM s k b)<=2*b.length+1
 sz:szM (ofM s k b)<=2*b.length+1
 valid:zN s d k (zcl s k b)=none
 means:ofM s k (zcl s k b)=ofM s k b
 twice:(zcl s k b).length<=2*b.length
 stays:zcl s k (zcl s k b)=zcl s k b
theorem zKE {s:List Mes} (hs:zdA s) {d k:Nat} (hk:k<s.length) {b:List UInt8} (hb:b.length<=14000) (h:zN s d k b=none):V18 s d k b:=by
 obtain ⟨p1,p2⟩:=zNB hs _ b k rfl (by omega) hk;obtain ⟨p3,p4⟩:=zhx hs _ b d k rfl hk h;have p5:=zNC s _ b k rfl;have p6:=zKH _ (ofM s k b) (xw _);obtain ⟨p7,p8⟩:=zuz hs _ (ofM s k b) k d (xw _) p1 (by omega) p3 p4;exact ⟨p1,p2,p3,p4,p5,by omega,p7,p8,zrM hs _ b d k rfl hk h,by unfold zcl at*;rw [p8]⟩
theorem zIM {s:List Mes} {d e k:Nat} {a b:List UInt8} (ha:V18 s d k a) (hb:V18 s e k b):zcl s k a=zcl s k b↔ofM s k a=ofM s k b:=
 ⟨fun h=>by rw [<-ha.means,h,hb.means],fun h=>by unfold zcl;rw [h]⟩
def zvE (s:List Mes) (root:Int) (b:List UInt8) (d:Int):List UInt8×Int:=if (zaT s root b d).2≠0 then ([],(zaT s root b d).2) else (zcl s root b,0)
theorem zuE {s:List Mes} {root:Int} {b:List UInt8} {d:Int} (h:(zaT s root b d).2≠0):zvE s root b d=([],(zaT s root b d).2):=xq h
theorem zwG {s:List Mes} {root:Int} {b:List UInt8} {d:Int} (h:(zaT s root b d).2=0):zvE s root b d=(zcl s root b,0):=xp (fun g=>g h)
def zmu (s:List Mes) (root:Int) (a b:List UInt8) (d:Int):Bool×Int:=if (zaT s root a d).2≠0 then (false,(zaT s root a d).2) else if (zaT s root b d).2≠0 then (false,(zaT s root b d).2) else (zcl s root a==zcl s root b,0)
theorem zzI (hg:∀v u,g v=some u->u.Number=v.Number):∀{l:List Vlu},zdS l->zdS (l.filterMap g)
 | [],_=> .nil
 | v::l,h=>by
  obtain ⟨h1,h2⟩:=xX.1 h;have ih:=zzI hg h2;cases e:g v with
  | none=>rw [List.filterMap_cons_none e];exact ih
  | some u=>
   rw [List.filterMap_cons_some e];refine xX.2 ⟨fun w hw=>?_,ih⟩;obtain ⟨w',hw',e'⟩:=List.mem_filterMap.1 hw;rw [hg _ _ e,hg _ _ e'];exact h1 w' hw'
def goB (m:Mes) (w:List zag) (v:Vlu):Bool:= !zoE w v.Number&&decide (znd w v.Number≠[])&&decide ((zr m (fldI m v.Number)).Kind=17)&& !(zr m (fldI m v.Number)).Repeated
theorem zAy :goB m w v=true↔zoE w v.Number=false/\znd w v.Number≠[]/\(zr m (fldI m v.Number)).Kind=17/\(zr m (fldI m v.Number)).Repeated=false:=by
 unfold goB;simp only [xu,xU,xP,and_assoc]
def inV (s:List Mes) (m:Mes) (w:List zag) (keep:Bool) (v:Vlu):Vlu:=⟨v.Number,[],[],zpY s v.Subs (zr m (fldI m v.Number)).Of (znd w v.Number) keep⟩
def zxp (s:List Mes) (m:Mes) (w:List zag) (keep:Bool) (v:Vlu):Option Vlu:=if goB m w v=true then some (inV s m w keep v) else if zoE w v.Number=keep then some v else none
theorem zzw (v u:Vlu) (h:zxp s m w keep v=some u):u.Number=v.Number:=by
 unfold zxp at h;split at h
 ·cases h;rfl
 ·split at h
  ·cases h;rfl
  ·cases h
theorem zzx (s:List Mes) (m:Mes) (w:List zag) (keep:Bool):∀l:List Vlu,ziP s l m w keep=l.filterMap (zxp s m w keep)
 | []=>by rw [ziP];rfl
 | v::l=>by
  rw [ziP,zzx s m w keep l,zsT];by_cases hg:goB m w v=true
  ·rw [xq (zAy.1 hg),List.filterMap_cons_some (b:=inV s m w keep v) (by unfold zxp;rw [xq hg])];rfl
  ·rw [xp (fun h=>hg (zAy.2 h))];by_cases hk:zoE w v.Number=keep
   ·rw [xq hk,List.filterMap_cons_some (b:=v) (by unfold zxp;rw [xp hg,xq hk])];rfl
   ·rw [xp hk,List.filterMap_cons_none (by unfold zxp;rw [xp hg,xp hk])];rfl
theorem zLj (hg:goB m w v=true) (hf:zhb s v (zr m (fldI m v.Number))):∃y,v=⟨v.Number,[],[],[y]⟩/\zaA s y (zr m (fldI m v.Number)).Of=true/\∀keep,inV s m w keep v=⟨v.Number,[],[],[zsS s y (zr m (fldI m v.Number)).Of (znd w v.Number) keep]⟩:=by
 obtain ⟨_,_,h3,h4⟩:=zAy.1 hg;obtain ⟨y,e,hy⟩:=hf.msg h3 h4;have hs:v.Subs=[y]:=by rw [e]
 refine ⟨y,e,hy,fun keep=>?_⟩;unfold inV;rw [hs,zpY]
theorem zII (hf:zhb s ⟨n,[],[],[y]⟩ f) (hz:zaA s z f.Of=true):zhb s ⟨k,[],[],[z]⟩ f:=
 ⟨by simp [zaq],(fun _=>by simp [zaq]),hf.kind,(fun w hw=>nomatch hw),(fun w hw=>nomatch hw),fun w hw=>by rw [yg.1 hw];exact ⟨(hf.subs y xr).1,hz⟩⟩
theorem zNV (hv:v∈x.Values) (e:v=⟨v.Number,[],[],[y]⟩):szM y<szM x:=by
 have s1:=zeK hv;rw [zfS] at s1;have hs:v.Subs=[y]:=by rw [e]
 have s2:szM y<=szMs v.Subs:=zeJ (by rw [hs];exact xr);rw [zcB x];omega
theorem zuO :∀(N:Nat) (x:Msg) (k:Int) (w:List zag) (keep:Bool),szM x<=N->zaA s x k=true->zaA s (zsS s x k w keep) k=true
 | 0,x,k,w,keep,h,_=>by rw [zcB] at h;omega
 | N+1,x,k,w,keep,kg,hx=>by
  obtain ⟨k0,k1,rx,hx',ux⟩:=zbc hx;rw [zxo,zzx];refine zzH k0 k1 (zzI zzw rx) (fun v hv=>?_) fun u hu=>?_
  ·obtain ⟨v0,hv0,e⟩:=List.mem_filterMap.1 hv;obtain ⟨w0,wf⟩:=hx' v0 hv0;have hn:=zzw _ _ e;unfold zxp at e;by_cases hg:goB (zo s k) w v0=true
   ·rw [xq hg] at e;have hf:=zdP wf;obtain ⟨y,e1,hy,hin⟩:=zLj hg hf;rw [hin] at e;have hsy:=zNV hv0 e1;rw [hn];refine ⟨w0,zFO ?_⟩;rw [<-qH e];rw [e1] at hf;exact zII hf (zuO N y _ _ _ (by omega) hy)
   ·rw [xp hg] at e;by_cases hk:zoE w v0.Number=keep
    ·rw [xq hk] at e;rw [<-qH e];exact ⟨w0,wf⟩
    ·rw [xp hk] at e;cases e
  ·cases keep with
   | true=>exact absurd hu (by simp)
   | false=>exact ux u hu
theorem zwQ (s:List Mes) (a:Msg) (m:Mes):∀(l acc:List Vlu),(zhE s l a m acc).length<=acc.length+l.length
 | [],acc=>by rw [zhE];simp
 | v::l,acc=>by
  rw [zhE];have h1:=zwQ s a m l (putM ⟨acc,[]⟩ (zgH s v (look a.Values v.Number) (zr m (fldI m v.Number)))).Values;have h2:=zJM acc [] (zgH s v (look a.Values v.Number) (zr m (fldI m v.Number)));simp only [ye];omega
theorem zFY :∀(N:Nat) (b a:Msg) (k:Int),szM b<=N->zaA s a k=true->zaA s b k=true->bdM a->bdM b->smM a->smM b->bdM (zkg s b a k)
 | 0,b,a,k,h,_,_,_,_,_,_=>by rw [zcB] at h;omega
 | N+1,b,a,k,kg,ha,hb,ba,bb,sa,sb'=>by
  obtain ⟨_,_,ra,ha',_⟩:=zbc ha;obtain ⟨_,_,rb,hb',_⟩:=zbc hb;obtain ⟨j1,j2⟩:=ztY ha hb;obtain ⟨a1,⟨a2,a3⟩,a4⟩:=(zkw a).1 ba;obtain ⟨b1,⟨b2,b3⟩,b4⟩:=(zkw b).1 bb;obtain ⟨sa1,⟨sa2,sa3⟩,sa4⟩:=(zxN a).1 sa;obtain ⟨sb1,⟨sb2,sb3⟩,sb4⟩:=(zxN b).1 sb';rw [zcB] at kg;have wY:(zkg s b a k).Values.length<=a.Values.length+b.Values.length:=by rw [zlr];exact zwQ s a _ _ _
  have hun:(zkg s b a k).Unknown=a.Unknown++b.Unknown:=by rw [zlr]
  refine (zkw _).2 ⟨by omega,⟨by rw [hun];simp;omega,fun t ht=>by
   rw [hun] at ht;rcases xA.1 ht with h| h
   ·exact a3 t h
   ·exact b3 t h⟩,zeU.2 fun x hx=>?_⟩
  have hl:=zwX j1 hx;rw [j2] at hl;cases hlb:look b.Values x.Number with
  | none=>rw [hlb] at hl;exact zeU.1 a4 x (zeQ hl).2
  | some v=>
   rw [hlb] at hl;have e:x=zgH s v (look a.Values x.Number) (zr (zo s k) (fldI (zo s k) x.Number)):=(qH hl).symm;obtain ⟨hvn,hvm⟩:=zeQ hlb;have bv:=zeU.1 b4 v hvm;have sv:=znL.1 sb4 v hvm;rw [e,zhM];cases hla:look a.Values x.Number with
   | none=>exact bv
   | some u=>
    obtain ⟨hun',hum⟩:=zeQ hla;have bu:=zeU.1 a4 u hum;have su:=znL.1 sa4 u hum;obtain ⟨v1,⟨v2,v3⟩,⟨v4,v5⟩,v6,v7⟩:=(zhZ v).1 bv;obtain ⟨u1,⟨u2,u3⟩,⟨u4,u5⟩,u6,u7⟩:=(zhZ u).1 bu;obtain ⟨q1,⟨q2,q3⟩,q4,q5⟩:=(zxO v).1 sv;obtain ⟨r1,⟨r2,r3⟩,r4,r5⟩:=(zxO u).1 su;simp only;split
    ·refine (zhZ _).2 ⟨v1,⟨by simp;omega,fun w hw=>?_⟩,⟨by simp;omega,fun w hw=>?_⟩,by simp;omega,zfx.2 fun w hw=>?_⟩
     ·rcases xA.1 hw with h| h
      ·exact u3 w h
      ·exact v3 w h
     ·rcases xA.1 hw with h| h
      ·exact u5 w h
      ·exact v5 w h
     ·rcases xA.1 hw with h| h
      ·exact zfx.1 u7 w h
      ·exact zfx.1 v7 w h
    ·split
     ·rename_i hrep wT;have fv:=hb' v hvm;have fu:=ha' u hum;rw [hvn] at fv;rw [hun'] at fu;have ov:=zdP fv.2;have ou:=zdP fu.2;refine (zhZ _).2 ⟨v1,⟨by simp,by simp⟩,⟨by simp,by simp⟩,?_⟩;cases hvs:v.Subs with
      | nil=>rw [zkA];exact ⟨by simp,by rw [bdMs];trivial⟩
      | cons y ys=>
       cases hus:u.Subs with
       | nil=>rw [zkA];exact ⟨by simp,by rw [bdMs];trivial⟩
       | cons z zs=>
        rw [zkA];simp only;have hy:y∈v.Subs:=by rw [hvs];exact xr
        have hz:z∈u.Subs:=by rw [hus];exact xr
        have hsv:=zeK hvm;rw [zfS] at hsv;have hsy:=zeJ hy;have hj:=zFY N y z _ (by omega) (ou.subs z hz).2 (ov.subs y hy).2 (zfx.1 u7 z hz) (zfx.1 v7 y hy) (znK.1 r5 z hz) (znK.1 q5 y hy);exact ⟨by simp,by rw [bdMs,bdMs];exact ⟨hj,trivial⟩⟩
     ·exact bv
theorem zvb:∀(l m:List Vlu),szVs (l++m)=szVs l+szVs m
 | [],m=>by rw [xG,szVs];omega
 | v::l,m=>by rw [yj,szVs,szVs,zvb l m];omega
theorem zGw :∀(N:Nat) (x:Msg) (k:Int) (w:List zag) (keep:Bool),szM x<=N->bdM x->bdM (zsS s x k w keep)/\szM (zsS s x k w keep)<=szM x
 | 0,x,k,w,keep,h,_=>by rw [zcB] at h;omega
 | N+1,x,k,w,keep,kg,hb=>by
  obtain ⟨b1,⟨b2,b3⟩,b4⟩:=(zkw x).1 hb;rw [zcB] at kg;have key:∀v∈x.Values,∀f:Fld,(∀u∈zxq s v f w keep,bdV u)/\szVs (zxq s v f w keep)<=szV v:=fun v hv f=>by
   have bv:=zeU.1 b4 v hv;obtain ⟨v1,v2,v3,v6,v7⟩:=(zhZ v).1 bv;have hsv:=zeK hv;have hve:=zfS v;rw [zsT];split
   ·cases hs:v.Subs with
    | nil=>
     rw [zpY];refine ⟨fun u hu=>?_,?_⟩
     ·rw [yg.1 hu];exact (zhZ _).2 ⟨v1,⟨by simp,by simp⟩,⟨by simp,by simp⟩,by simp,by rw [bdMs];trivial⟩
     ·rw [szVs,szVs,zfS];simp only;rw [szMs];omega
    | cons y ys=>
     have hy:y∈v.Subs:=by rw [hs];exact xr
     have hsy:=zeJ hy;obtain ⟨p1,p2⟩:=zGw N y f.Of (znd w v.Number) keep (by omega) (zfx.1 v7 y hy);rw [zpY];refine ⟨fun u hu=>?_,?_⟩
     ·rw [yg.1 hu];exact (zhZ _).2 ⟨v1,⟨by simp,by simp⟩,⟨by simp,by simp⟩,by simp,by rw [bdMs,bdMs];exact ⟨p1,trivial⟩⟩
     ·rw [szVs,szVs,zfS];simp only;rw [szMs,szMs];omega
   ·split
    ·refine ⟨(fun u hu=>by rw [yg.1 hu];exact bv),?_⟩;rw [szVs,szVs];omega
    ·exact ⟨(fun u hu=>by cases hu),(by rw [szVs];omega)⟩
  have all:∀l:List Vlu,(∀v∈l,v∈x.Values)->(∀u∈ziP s l (zo s k) w keep,bdV u)/\szVs (ziP s l (zo s k) w keep)<=szVs l/\(ziP s l (zo s k) w keep).length<=l.length:=by
   intro l
   induction l with
   | nil=>intro _;rw [ziP];exact ⟨(fun u hu=>by cases hu),xw _,xw _⟩
   | cons v l ih=>
    intro h;obtain ⟨i1,i2,i3⟩:=ih fun u hu=>h u (xt _ hu)
    obtain ⟨k1,k2⟩:=key v (h v xr) (zr (zo s k) (fldI (zo s k) v.Number));have k3:=zHG s v (zr (zo s k) (fldI (zo s k) v.Number)) w keep;rw [ziP];refine ⟨fun u hu=>?_,?_,?_⟩
    ·rcases xA.1 hu with hu| hu
     ·exact k1 u hu
     ·exact i1 u hu
    ·rw [zvb,szVs];omega
    ·rw [xy,ye];omega
  obtain ⟨a1,a2,a3⟩:=all x.Values fun v hv=>hv
  rw [zxo];refine ⟨(zkw _).2 ⟨by simp only;omega,⟨?_,?_⟩,zeU.2 a1⟩,by rw [zcB,zcB];simp only;omega⟩
  ·simp only;cases keep<;>simp<;>omega
  ·simp only;cases keep with
   | true=>intro t ht;cases ht
   | false=>exact b3
structure Gd (s:List Mes) (root:Int) (n:Nat) (x:Msg):Prop where
 r:zaA s x root=true
 b:bdM x
 w:wgM x<=n
theorem Gd.s {s:List Mes} {root:Int} {n:Nat} {x:Msg} (h:Gd s root n x) (hn:n<=1048576):smM x:=zMP _ x (xw _) (yi h.w hn)
theorem Gd.z {s:List Mes} {root:Int} {n fuel:Nat} {x:Msg} (h:Gd s root n x) (hn:n<fuel):szM x<fuel:=Nat.lt_of_le_of_lt (yi (zKH _ x (xw _)) h.w) hn
theorem Gd.join {s:List Mes} {root:Int} {n m:Nat} {a b:Msg} (ha:Gd s root n a) (hb:Gd s root m b) (hn:n<=1048576) (hm:m<=1048576):Gd s root (n+m) (zkg s b a root):=
 ⟨zuG _ b a root (xw _) ha.r hb.r,zFY _ b a root (xw _) ha.r hb.r ha.b hb.b (ha.s hn) (hb.s hm),yi (zFZ _ b a root (xw _) ha.r hb.r) (Nat.add_le_add ha.w hb.w)⟩
theorem Gd.part {s:List Mes} {root:Int} {n:Nat} {a:Msg} (ha:Gd s root n a) (w:List zag) (keep:Bool):Gd s root n (zsS s a root w keep):=
 ⟨zuO _ a root w keep (xw _) ha.r,(zGw _ a root w keep (xw _) ha.b).1,yi (zGx _ a root w keep (xw _)) ha.w⟩
theorem zAl (h:(zaT s root b d).2=0):argS s root d=0:=by
 unfold zaT at h;by_cases h0:argS s root d=0
 ·exact h0
 ·rw [xq h0] at h;exact h
theorem zBE {s:List Mes} {d:Nat} {k:Int} {b:List UInt8} (h:zN s d k b=none):zaC (zo s k) b=((spl 0 b).1.map (fun r=>⟨r,(vwG (zo s k) r).1,(vwG (zo s k) r).2⟩),0,0):=by
 rw [zfP,zcU] at h;unfold zaC;rw [h.2,zFv fun r hr=>zBl (h.1 r hr)];rfl
theorem zrp {s:List Mes} {root:Int} {b:List UInt8} {d:Int} (h:(zaT s root b d).2=0):argS s root d=0/\zN s d.toNat root b=none:=zCk.1 (by unfold is11;simpa using h)
theorem zro (s:List Mes) (root:Int) (b:List UInt8) (d:Int):0<=(zaT s root b d).2/\(zaT s root b d).2<=255:=by
 have:=zAk s root b d;omega
theorem zMw:∀n:Nat,(∀x:Msg,szM x<=n->dM x<szM x)/\(∀l:List Msg,szMs l<=n->dMs l<=szMs l)/\(∀v:Vlu,szV v<=n->dV v<szV v)/\∀l:List Vlu,szVs l<=n->dVs l<=szVs l
 | 0=>⟨fun x h=>by rw [zcB] at h;omega,fun l h=>by
   cases l with
   | nil=>simp [dMs]
   | cons x l=>rw [szMs,zcB] at h;omega,fun v h=>by rw [zfS] at h;omega,fun l h=>by
   cases l with
   | nil=>simp [dVs]
   | cons x l=>rw [szVs,zfS] at h;omega⟩
 | n+1=>by
  obtain ⟨i1,i2,i3,i4⟩:=zMw n;have h2:∀l:List Msg,szMs l<=n->dMs l<=szMs l:=i2;have h4:∀l:List Vlu,szVs l<=n->dVs l<=szVs l:=i4;have k1:∀x:Msg,szM x<=n+1->dM x<szM x:=fun x h=>by rw [zcB] at h|-;rw [zFI];have:=h4 x.Values (by omega);omega
  have k3:∀v:Vlu,szV v<=n+1->dV v<szV v:=fun v h=>by rw [zfS] at h|-;rw [zBV];have:=h2 v.Subs (by omega);omega
  refine ⟨k1,fun l=>?_,k3,fun l=>?_⟩
  ·induction l with
   | nil=>intro _;simp [dMs]
   | cons x l ih=>intro h;rw [szMs] at h|-;rw [dMs];have:=ih (by omega);have:=k1 x (by omega);omega
  ·induction l with
   | nil=>intro _;simp [dVs]
   | cons x l ih=>intro h;rw [szVs] at h|-;rw [dVs];have:=ih (by omega);have:=k3 x (by omega);omega
theorem zOm (x:Msg):dM x<szM x:=(zMw (szM x)).1 x (xw _)
theorem zGN:∀(fuel:Nat) (x:Msg) (ke:Nat),szM x<fuel->bdM x->dM x<=ke->ke<=1048576->zgF fuel x ke=some ((dM x:Nat):Int)
 | 0,x,_,h,_,_,_=>by omega
 | fuel+1,x,ke,hs,hb,hd,hm=>by
  obtain ⟨b1,_,b4⟩:=(zkw x).1 hb;rw [zcB] at hs;rw [zFI] at hd|-;show zoC (zgF fuel) x ke=_;unfold zoC;have inner:∀(v:Vlu),v∈x.Values->∀(c i d:Nat),i+c=v.Subs.length->d<=ke->zgS ke (zgF fuel) v d i=some (.inl ((max d (dMs (v.Subs.drop i)):Nat):Int)):=by
   intro v hv c;have kg:=zeK hv;have hdv:=zvy hv;obtain ⟨_,_,_,c1,c2⟩:=(zhZ _).1 (zeU.1 b4 _ hv);rw [zfS] at kg;rw [zBV] at hdv
   induction c with
   | zero=>
    intro i d hi hdm;have e:v.Subs.drop i=[]:=yy (by omega);rw [e,dMs];refine zts ?_;unfold zhT;rw [uK,Nat.max_zero]
   | succ c ih=>
    intro i d hi hdm;have hil:i<v.Subs.length:=by omega
    have hm2:=xB hil;have s2:=zeJ hm2;have d2:=zAq hm2;rw [yl hil,dMs];have hr:=zGN fuel v.Subs[i] (ke - 1) (by omega) (zfx.1 c2 _ hm2) (by omega) (by omega);have hmost:i64.wrap ((ke:Int) - 1)=((ke - 1:Nat):Int):=by rw [uL];omega
    have hw:i64.wrap (1+((dM v.Subs[i]:Nat):Int))=1+((dM v.Subs[i]:Nat):Int):=by rw [uL]
    have hmax:(if (d:Int)<1+((dM v.Subs[i]:Nat):Int) then 1+((dM v.Subs[i]:Nat):Int) else (d:Int))=((max d (1+dM v.Subs[i]):Nat):Int):=by
     split<;>omega
    refine (ztr (deep3':=((max d (1+dM v.Subs[i]):Nat):Int)) (v3':=((i+1:Nat):Int)) ?_).trans ?_
    ·unfold zhT;rw [uJ,zK rfl hil,sb,uK,hmost,hr,sb,hw,hmax,uK,uL];push_cast;rfl
    ·rw [ih (i+1) (max d (1+dM v.Subs[i])) (by omega) (by omega)];congr 3;omega
  have outer:∀(c i d:Nat),i+c=x.Values.length->d<=ke->zgR ke (zgF fuel) x d i=some (.inl ((max d (dVs (x.Values.drop i)):Nat):Int)):=by
   intro c
   induction c with
   | zero=>
    intro i d hi hdm;have e:x.Values.drop i=[]:=yy (by omega);rw [e,dVs];refine ztq ?_;unfold zhS;rw [uK,Nat.max_zero]
   | succ c ih=>
    intro i d hi hdm;have hil:i<x.Values.length:=by omega
    have hmem:=xB hil;have hdv:=zvy hmem;rw [yl hil,dVs];have h2:=inner x.Values[i] hmem (x.Values[i]).Subs.length 0 d (xL _) hdm;rw [yd,<-zBV] at h2;have h2':zgS ke (zgF fuel) x.Values[i] d 0=_:=h2;refine (ztp (deep':=((max d (dV x.Values[i]):Nat):Int)) (v':=((i+1:Nat):Int)) ?_).trans ?_
    ·unfold zhS;rw [uJ,zK rfl hil,sb,h2',sb,uL];push_cast;rfl
    ·rw [ih (i+1) (max d (dV x.Values[i])) (by omega) (by omega)];congr 3;omega
  have h:=outer x.Values.length 0 0 (xL _) (xC _);have h':zgR ke (zgF fuel) x 0 0=_:=h;rw [h',sb,yd,Nat.zero_max]
theorem zHX (hf:szM x<fuel) (hb:bdM x) (hd:dM x<=131072):zsb fuel x=some ((dM x:Nat):Int):=by
 unfold zsb;have h:=zGN fuel x 131072 hf hb hd (by omega);have h':zgF fuel x 131072=_:=h;rw [h',sb]
theorem zDA (hf:szM x<fuel) (hb:bdM x) (hd:dM x<=131072):zqV fuel x=some true:=by
 unfold zqV;rw [zHX hf hb hd,sb];congr 1;simp;omega
section
open Classical
end
theorem zEq (h:a.length*80<=140737488355328):zcd a=some a:=by
 unfold zcd;rw [zcF (by simp;omega),sb,xG]
theorem zEp (h:a.length*48<=140737488355328):zdd a=some a:=by
 unfold zdd;rw [zcF (by simp;omega),sb,xG]
theorem zyQ (h:a.length*16<=140737488355328):zcp a=some a:=by
 unfold zcp;rw [zcF (by simp;omega),sb,xG]
theorem zHc (h:a.length*8<=140737488355328):zeg a=some a:=by
 unfold zeg;rw [zcF (by simp;omega),sb,xG]
theorem zxK {α:Type}:∀(l:List α) (i:Nat) (h:i<l.length),l.set i l[i]=l
 | [],i,h=>by simp at h
 | x::l,0,h=>rfl
 | x::l,i+1,h=>by simp only [List.set_cons_succ,uy];rw [zxK l i (by simpa using h)]
theorem zGM:∀(fuel:Nat),(∀x:Msg,szM x<fuel->bdM x->ziw fuel x=some x)/\∀v:Vlu,szV v<fuel->bdV v->zgk fuel v=some v
 | 0=>⟨fun x h=>by omega,fun v h=>by omega⟩
 | fuel+1=>by
  obtain ⟨ih1,ih2⟩:=zGM fuel;refine ⟨fun x hs hb=>?_,fun v hs hb=>?_⟩
  ·obtain ⟨b1,⟨b2,b3⟩,b4⟩:=(zkw x).1 hb;rw [zcB] at hs;show znc (ziw fuel) (zgk fuel) x=_;unfold znc;have hloop:∀(c i:Nat),i+c=x.Values.length->zgl (zgk fuel) x.Values x.Values i=some x.Values:=by
    intro c
    induction c with
    | zero=>
     intro i hi;refine zse ?_;unfold zhm;rw [uK]
    | succ c ih=>
     intro i hi;have hil:i<x.Values.length:=by omega
     have hm:=xB hil;have:=zeK hm;refine (zsd (v':=x.Values) (v2':=((i+1:Nat):Int)) ?_).trans (ih (i+1) (by omega));unfold zhm;rw [uJ,zK rfl hil,sb,ih2 _ (by omega) (zeU.1 b4 _ hm),sb,sb,uL,xD,zxK _ _ hil];push_cast;rfl
   have h:=hloop x.Values.length 0 (xL _);have h':zgl (zgk fuel) x.Values x.Values 0=_:=h;rw [zEq (by omega),sb,zyQ (by omega),sb,h',sb];cases x;rfl
  ·obtain ⟨b0,⟨b1,_⟩,⟨b2,b3⟩,b4,b5⟩:=(zhZ v).1 hb;rw [zfS] at hs;show zid (ziw fuel) (zgk fuel) v=_;unfold zid;have hloop:∀(c i:Nat),i+c=v.Subs.length->zdt (ziw fuel) v.Subs v.Subs i=some v.Subs:=by
    intro c
    induction c with
    | zero=>
     intro i hi;refine znP ?_;unfold zeM;rw [uK]
    | succ c ih=>
     intro i hi;have hil:i<v.Subs.length:=by omega
     have hm:=xB hil;have:=zeJ hm;refine (znO (v2':=v.Subs) (v3':=((i+1:Nat):Int)) ?_).trans (ih (i+1) (by omega));unfold zeM;rw [uJ,zK rfl hil,sb,ih1 _ (by omega) (zfx.1 b5 _ hm),sb,sb,uL,xD,zxK _ _ hil];push_cast;rfl
   have h:=hloop v.Subs.length 0 (xL _);have h':zdt (ziw fuel) v.Subs v.Subs 0=_:=h;rw [zHc (by omega),sb,zyQ (by omega),sb,zEp (by omega),sb,h',sb];cases v;rfl
theorem zKx (hf:szM x<fuel) (hb:bdM x) (hd:dM x<=131072):zuq fuel x=some x:=by
 unfold zuq;rw [zDA hf hb hd,sb,uH,(zGM fuel).1 x hf hb,sb]
theorem zLO:∀a<256,ztt ((a:Nat):Int)=some (if a<128 then (1,(a:Int)) else if a/32=6 then (2,((a%32:Nat):Int)) else if a/16=14 then (3,((a%16:Nat):Int)) else if a/8=30 then (4,((a%8:Nat):Int)) else (0,0)):=by decide+kernel
theorem zBj (w k:Nat) (h:k<=32):shrI .u32 (w:Int) (k:Int)=((w/2^k:Nat):Int):=ztk (k:= .u32) (a:=w) (b:=k) (by simpa [IntKind.bits] using h)
theorem zvJ (w:Nat):znS (w:Int)=some (if w<128 then 1 else if w<2048 then 2 else if 55296<=w/\w<=57343 then 0 else if w<65536 then 3 else if w<=1114111 then 4 else 0):=by
 unfold znS;have e7:shrI .u32 (w:Int) 7=((w/128:Nat):Int):=zBj w 7 (by omega);have e11:shrI .u32 (w:Int) 11=((w/2048:Nat):Int):=zBj w 11 (by omega);have e16:shrI .u32 (w:Int) 16=((w/65536:Nat):Int):=zBj w 16 (by omega);rw [e7,e11,e16];by_cases h1:w<128
 ·rw [uJ,xq h1]
 ·rw [uK,xp h1];by_cases h2:w<2048
  ·rw [uJ,xq h2]
  ·rw [uK,xp h2];by_cases h3:55296<=w/\w<=57343
   ·rw [uJ,xq h3]
   ·rw [uK,xp h3];by_cases h4:w<65536
    ·rw [uJ,xq h4]
    ·rw [uK,xp h4];by_cases h5:w<=1114111
     ·rw [uJ,xq h5]
     ·rw [uK,xp h5]
theorem zHs:∀c<256,shrI .u8 ((c:Nat):Int) 6=((c/64:Nat):Int)/\u32.wrap (andI .u8 ((c:Nat):Int) 63)=((c%64:Nat):Int):=by decide+kernel
theorem zkV {v:List UInt8} {w i:Nat} (h:i<v.length) (hv:v.length<=1000) (hw:w<=1000000):
  zcq v w i=if cont v[i] then zcq v ((64*w+v[i].toNat%64:Nat):Int) ((i+1:Nat):Int) else some (.inr ()):=by
 have hc:=v[i].toNat_lt;obtain ⟨e1,e2⟩:=zHs v[i].toNat (by omega);have hb:zgr v w i=if cont v[i] then some (.inl (((64*w+v[i].toNat%64:Nat):Int),((i+1:Nat):Int))) else some (.inr (.inr ())):=by
  unfold zgr;rw [uJ,zK rfl h,sb,e1,e2];by_cases hk:cont v[i]=true
  ·rw [xq hk];unfold cont at hk;simp only [xP] at hk;rw [uK,uL];have e3:shlI .u32 (w:Int) 6=((w*64:Nat):Int):=by
    have:shlI .u32 (w:Int) 6=((w*64%4294967296:Nat):Int):=by simp [shlI,IntKind.bits,zDW]
    rw [this,qj (by omega)]
   rw [e3,zvM rfl (by simp [IntKind.bits];omega) (by simp [IntKind.bits];omega),pJ,zxk _ w 6 (by omega)];have e4:v[i].toNat%64+w*2^6=64*w+v[i].toNat%64:=by omega
   rw [e4];rfl
  ·rw [xp hk];unfold cont at hk;simp only [xP] at hk;rw [uJ]
 by_cases hk:cont v[i]=true
 ·rw [xq hk] at hb|-;exact zvr hb
 ·rw [xp hk] at hb|-;exact zoM hb
theorem zsH (h:v.length<=i):zcq v w i=some (.inl (w:Int)):=by
 refine zoM ?_;unfold zgr;rw [uK]
theorem zOw {w:Nat} {b:UInt8} (hw:w<=100):zcq [b] w 0=if cont b then some (.inl ((64*w+b.toNat%64:Nat):Int)) else some (.inr ()):=by
 have h:=zkV (v:=[b]) (w:=w) (i:=0) (by simp) (by simp) (by omega);refine Eq.trans h ?_;simp only [uz];rw [zsH (by simp)]
theorem zOx {w:Nat} {b c:UInt8} (hw:w<=100):zcq [b,c] w 0=if cont b then (if cont c then some (.inl ((64*(64*w+b.toNat%64)+c.toNat%64:Nat):Int)) else some (.inr ())) else some (.inr ()):=by
 have h:=zkV (v:=[b,c]) (w:=w) (i:=0) (by simp) (by simp) (by omega);refine Eq.trans h ?_;rw [zkV (i:=0+1) (by simp) (by simp) (by omega)];simp only [uz,uy,xL];rw [zsH (by simp)]
theorem zOy {w:Nat} {b c d:UInt8} (hw:w<=100):zcq [b,c,d] w 0=if cont b then (if cont c then (if cont d then some (.inl ((64*(64*(64*w+b.toNat%64)+c.toNat%64)+d.toNat%64:Nat):Int)) else some (.inr ())) else some (.inr ())) else some (.inr ()):=by
 have h:=zkV (v:=[b,c,d]) (w:=w) (i:=0) (by simp) (by simp) (by omega);refine Eq.trans h ?_;rw [zkV (i:=0+1) (by simp) (by simp) (by omega),zkV (i:=0+1+1) (by simp) (by simp) (by omega)];simp only [uz,uy,xL];rw [zsH (by simp)]
theorem zJE (n:Nat) (h:∀m,m≠n->isN m l=false):nxt l=if isN n l then n else 0:=by
 by_cases hn:isN n l=true
 ·rw [xq hn,zNA hn]
 ·rw [xp hn];by_cases h0:nxt l=0
  ·exact h0
  ·have h1:=zvL h0;by_cases h2:nxt l=n
   ·rw [h2] at h1;exact absurd h1 hn
   ·rw [h _ h2] at h1;cases h1
theorem znA (n:Nat) (h:n=1/\a.toNat<128\/n=2/\192<=a.toNat/\a.toNat<224\/n=3/\224<=a.toNat/\a.toNat<240\/n=4/\240<=a.toNat):nxt (a::t)=if isN n (a::t) then n else 0:=by
 refine zJE n fun m hm=>?_
 cases hh:isN m (a::t) with
 | false=>rfl
 | true=>
  obtain ⟨a',t',e,_,g⟩:=znq hh;cases e;omega
theorem zGd (b:List UInt8):znR b=some ((nxt b:Nat):Int):=by
 cases b with
 | nil=>rfl
 | cons a t=>
  have ha:=a.toNat_lt;unfold znR;have e00:idx (a::t) (0:Int)=some a:=zK (n:=0) rfl (by simp);rw [uK,e00,sb];rw [zLO _ (by omega),sb];by_cases h1:a.toNat<128
  ·rw [znA 1 (.inl ⟨rfl,h1⟩),xq h1];simp only;rw [uK,zgv (i:=1) (j:=1) (a:=1) (b:=1) rfl rfl (by omega) (by simp),sb];have e0:zcq (((a::t).drop 1).take (1 - 1)) (a.toNat:Int) 0=some (.inl (a.toNat:Int)):=zsH (i:=0) (by simp);rw [e0,sb];simp only;rw [zvJ,sb,xq h1,uH];simp [isN,is1,h1]
  ·rw [xp h1];by_cases h2:a.toNat/32=6
   ·rw [znA 2 (.inr (.inl ⟨rfl,by omega,by omega⟩)),xq h2];simp only
    match t with
    | []=>rw [itT (by simp)];rfl
    | b::t=>
     rw [uK,zgv (i:=1) (j:=2) (a:=1) (b:=2) rfl rfl (by omega) (by simp),sb];have e0:=zOw (w:=a.toNat%32) (b:=b) (by omega);have e0':zcq (((a::b::t).drop 1).take (2 - 1)) ((a.toNat%32:Nat):Int) 0=_:=e0;rw [e0'];have hb:=b.toNat_lt;by_cases c1:cont b=true
     ·rw [xq c1,sb];simp only;have hn:=zvJ (64*(a.toNat%32)+b.toNat%64);simp only [isN,is2,c1,qn,xP];simp only [cont,xP] at c1;by_cases h:194<=a.toNat
      ·rw [xp (by omega),xq (by omega)] at hn;rw [hn,sb,uH,xq (by omega)];rfl
      ·rw [xq (by omega)] at hn;rw [hn,sb,uG,xp (by omega)];rfl
     ·rw [xp c1,sb];simp only;simp [isN,is2,c1]
   ·rw [xp h2];by_cases h3:a.toNat/16=14
    ·rw [znA 3 (.inr (.inr (.inl ⟨rfl,by omega,by omega⟩))),xq h3];simp only
     match t with
     | []=>rw [itT (by simp)];rfl
     | [b]=>rw [itT (by simp)];rfl
     | b::c::t=>
      rw [uK,zgv (i:=1) (j:=3) (a:=1) (b:=3) rfl rfl (by omega) (by simp),sb];have e0:=zOx (w:=a.toNat%16) (b:=b) (c:=c) (by omega);have e0':zcq (((a::b::c::t).drop 1).take (3 - 1)) ((a.toNat%16:Nat):Int) 0=_:=e0;rw [e0'];have hb:=b.toNat_lt;have hc:=c.toNat_lt;by_cases c1:cont b=true
      ·rw [xq c1];by_cases c2:cont c=true
       ·rw [xq c2,sb];simp only;have hn:=zvJ (64*(64*(a.toNat%16)+b.toNat%64)+c.toNat%64);simp only [isN,is3,c1,c2,qo,xP];simp only [cont,xP] at c1 c2;by_cases h:(a.toNat=224->160<=b.toNat)/\(a.toNat=237->b.toNat<160)
        ·rw [xp (by omega),xp (by omega),xp (by omega),xq (by omega)] at hn;rw [hn,sb,uH,xq (by omega)];rfl
        ·by_cases g:64*(64*(a.toNat%16)+b.toNat%64)+c.toNat%64<2048
         ·by_cases g':64*(64*(a.toNat%16)+b.toNat%64)+c.toNat%64<128
          ·rw [xq g'] at hn;rw [hn,sb,uG,xp (by omega)];rfl
          ·rw [xp g',xq g] at hn;rw [hn,sb,uG,xp (by omega)];rfl
         ·rw [xp (by omega),xp g,xq (by omega)] at hn;rw [hn,sb,uG,xp (by omega)];rfl
       ·rw [xp c2,sb];simp only;simp [isN,is3,c2]
      ·rw [xp c1,sb];simp only;simp [isN,is3,c1]
    ·rw [xp h3];by_cases h4:a.toNat/8=30
     ·rw [znA 4 (.inr (.inr (.inr ⟨rfl,by omega⟩))),xq h4];simp only
      match t with
      | []=>rw [itT (by simp)];rfl
      | [b]=>rw [itT (by simp)];rfl
      | [b,c]=>rw [itT (by simp)];rfl
      | b::c::d::t=>
       rw [uK,zgv (i:=1) (j:=4) (a:=1) (b:=4) rfl rfl (by omega) (by simp),sb];have e0:=zOy (w:=a.toNat%8) (b:=b) (c:=c) (d:=d) (by omega);have e0':zcq (((a::b::c::d::t).drop 1).take (4 - 1)) ((a.toNat%8:Nat):Int) 0=_:=e0;rw [e0'];have hb:=b.toNat_lt;have hc:=c.toNat_lt;have hd:=d.toNat_lt;by_cases c1:cont b=true
       ·rw [xq c1];by_cases c2:cont c=true
        ·rw [xq c2];by_cases c3:cont d=true
         ·rw [xq c3,sb];simp only;have hn:=zvJ (64*(64*(64*(a.toNat%8)+b.toNat%64)+c.toNat%64)+d.toNat%64);simp only [isN,is4,c1,c2,c3,qo,xP];simp only [cont,xP] at c1 c2 c3;by_cases h:a.toNat<245/\(a.toNat=240->144<=b.toNat)/\(a.toNat=244->b.toNat<144)
          ·rw [xp (by omega),xp (by omega),xp (by omega),xp (by omega),xq (by omega)] at hn;rw [hn,sb,uH,xq (by omega)];rfl
          ·have hw:¬(65536<=64*(64*(64*(a.toNat%8)+b.toNat%64)+c.toNat%64)+d.toNat%64/\64*(64*(64*(a.toNat%8)+b.toNat%64)+c.toNat%64)+d.toNat%64<=1114111):=by omega
           generalize 64*(64*(64*(a.toNat%8)+b.toNat%64)+c.toNat%64)+d.toNat%64=w at hn hw
           have hx:∃x:Int,znS w=some x/\x≠4:=⟨_,hn,by (repeat' split)<;>omega⟩;obtain ⟨x,hx,h4⟩:=hx;rw [hx,sb,uJ,xp (by omega)];rfl
         ·rw [xp c3,sb];simp only;simp [isN,is4,c3]
        ·rw [xp c2,sb];simp only;simp [isN,is4,c2]
       ·rw [xp c1,sb];simp only;simp [isN,is4,c1]
     ·rw [xp h4,uG];by_cases h5:240<=a.toNat
      ·rw [znA 4 (.inr (.inr (.inr ⟨rfl,h5⟩)))];cases hh:isN 4 (a::t) with
       | false=>rfl
       | true=>
        match t,hh with
        | b::c::d::t,hh=>simp only [isN,is4,xP] at hh;omega
      ·by_cases h0:nxt (a::t)=0
       ·rw [h0];rfl
       ·obtain ⟨a',t',e,_,g⟩:=znq (zvL h0);cases e;omega
theorem zIg (hb:b.length<=1152921504606846976) (l:List UInt8):∀(a c:Nat),c<=a->a<=b.length->l=b.drop a->
  zho b a c ((nxt l:Nat):Int)=some (((a+(pre4 l).1:Nat):Int),((c+(pre4 l).2:Nat):Int)):=by
 refine zJL (fun l=>∀(a c:Nat),c<=a->a<=b.length->l=b.drop a->zho b a c ((nxt l:Nat):Int)=some (((a+(pre4 l).1:Nat):Int),((c+(pre4 l).2:Nat):Int))) ?_ ?_ l
 ·intro l h a c hc ha hl;rw [h,zHJ h];refine zvt ?_;unfold zhn;rw [uH];rfl
 ·intro l h ih a c hc ha hl;subst hl;have h4:=zAR (b.drop a);have hle:=zrR (b.drop a);simp only [xW] at hle;have e1:(b.drop a).drop (nxt (b.drop a))=b.drop (a+nxt (b.drop a)):=by rw [yh]
  refine (zvs (atv':=((a+nxt (b.drop a):Nat):Int)) (points':=((c+1:Nat):Int)) (size':=((nxt (b.drop (a+nxt (b.drop a))):Nat):Int)) ?_).trans ?_
  ·unfold zhn;rw [uJ,uL,zpm (a:=a+nxt (b.drop a)) (by push_cast;rfl) rfl (by omega),sb,zGd,sb,uL];rfl
  ·rw [<-e1,ih (a+nxt (b.drop a)) (c+1) (by omega) (by omega) e1,zLT h];simp only [qR,pK 1]
theorem zKD (hb:b.length<=1152921504606846976):zqr b=some (((pre4 b).1:Int),((pre4 b).2:Int)):=by
 unfold zqr;rw [zGd,sb];have h:=zIg hb b 0 0 (xw _) (xC _) rfl;simp only [xL] at h;have h':zho b 0 0 ((nxt b:Nat):Int)=some (((pre4 b).1:Int),((pre4 b).2:Int)):=h;rw [h',sb]
theorem zIa (hb:b.length<=1152921504606846976):znQ b=some ((pre4 b).1:Int):=by
 unfold znQ;rw [zKD hb,sb]
theorem zur (hb:b.length<=1152921504606846976):zld b=some (zgW b):=by
 unfold zld zgW;rw [zIa hb,sb,zsn]
def zNz:List Str:=[[],[105,110,116,51,50],[105,110,116,54,52],[117,105,110,116,51,50],[117,105,110,116,54,52],[115,105,110,116,51,50],[115,105,110,116,54,52],[98,111,111,108],[101,110,117,109],[102,105,120,101,100,51,50],[115,102,105,120,101,100,51,50],[102,108,111,97,116],[102,105,120,101,100,54,52],[115,102,105,120,101,100,54,52],[100,111,117,98,108,101],[115,116,114,105,110,103],[98,121,116,101,115],[109,101,115,115,97,103,101]]
def zJe (k:Int):Str:=(zNz[k.toNat]?).getD []
def kT:List (Int×zq):=[(1,⟨[105,110,116,51,50],0⟩),(2,⟨[105,110,116,54,52],0⟩),(3,⟨[117,105,110,116,51,50],0⟩),(4,⟨[117,105,110,116,54,52],0⟩),(5,⟨[115,105,110,116,51,50],0⟩),(6,⟨[115,105,110,116,54,52],0⟩),(7,⟨[98,111,111,108],0⟩),(8,⟨[101,110,117,109],0⟩),(9,⟨[102,105,120,101,100,51,50],5⟩),(10,⟨[115,102,105,120,101,100,51,50],5⟩),(11,⟨[102,108,111,97,116],5⟩),(12,⟨[102,105,120,101,100,54,52],1⟩),(13,⟨[115,102,105,120,101,100,54,52],1⟩),(14,⟨[100,111,117,98,108,101],1⟩),(15,⟨[115,116,114,105,110,103],2⟩),(16,⟨[98,121,116,101,115],2⟩),(17,⟨[109,101,115,115,97,103,101],2⟩)]
theorem zCA:zls=some kT:=rfl
theorem zuU (h:zaY k=true):k=1\/k=2\/k=3\/k=4\/k=5\/k=6\/k=7\/k=8\/k=9\/k=10\/k=11\/k=12\/k=13\/k=14\/k=15\/k=16\/k=17:=by
 have:=yq h;omega
theorem zNj (h:zaY k=true):mget kT k=some ⟨zJe k,zaa k⟩:=by
 rcases zuU h with rfl| rfl| rfl| rfl| rfl| rfl| rfl| rfl| rfl| rfl| rfl| rfl| rfl| rfl| rfl| rfl| rfl<;>rfl
theorem zLr (h:e∈kT):zaY e.1=true/\e.2=⟨zJe e.1,zaa e.1⟩:=by
 have:kT.all (fun e=>zaY e.1&&decide (e.2=⟨zJe e.1,zaa e.1⟩))=true:=by decide
 have h1:=xF.1 this e h;simp only [xu,xP] at h1;exact h1
theorem zLs (h:zaY k=false):mget kT k=none:=by
 cases hg:mget kT k with
 | none=>rfl
 | some x=>
  have mem:∀{m:List (Int×zq)} {x:zq},mget m k=some x->(k,x)∈m:=fun {m x} hg=>by
   induction m with
   | nil=>cases hg
   | cons p m ih=>
    rw [mget] at hg;split at hg
    ·rename_i e;cases hg;rw [e];exact xr
    ·exact xt _ (ih hg)
  have h1:=(zLr (mem hg)).1;simp only at h1;rw [h] at h1;cases h1
theorem zCD (k:Int):zkU k=some (if zaY k then (zaa k,0) else (0,2)):=by
 unfold zkU;rw [zCA,sb];cases h:zaY k with
 | true=>rw [zNj h];rfl
 | false=>rw [zLs h];rfl
theorem zwR (k:Int):zim k=some (kNum k):=by
 unfold zim;rw [zCD,sb];cases h:zaY k with
 | true=>
  rcases zuU h with rfl| rfl| rfl| rfl| rfl| rfl| rfl| rfl| rfl| rfl| rfl| rfl| rfl| rfl| rfl| rfl| rfl<;>rfl
 | false=>
  have h1:=pT h;have:kNum k=false:=xT (by omega);rw [this];rfl
theorem zLt:zpG=some [1,2,3,4,5,6,7,8,9,10,11,12,13,14,15,16,17]:=by
 have e:znt kT=some [1,2,3,4,5,6,7,8,9,10,11,12,13,14,15,16,17]:=by
  unfold znt;rfl
 unfold zpG;rw [zCA,sb,e,sb]
theorem zkT (k:Int) (h:0<=w/\w<=18446744073709551615):zhf k w=some (if kNum k then (zbk k w,0) else (0,2)):=by
 have hs:=zBi w;have hc:=zhc k h;unfold zhf;by_cases h1:k=1\/k=8
 ·have e:(if (k==1)=true then some (k==1) else some (k==8))=some true:=by rcases h1 with rfl| rfl<;>rfl
  have hn:kNum k=true:=xQ (by omega);rw [e,sb,itT rfl,zHS,sb,zIh (by omega),sb,hn];unfold zbk;rw [xq h1];rfl
 ·have e:(if (k==1)=true then some (k==1) else some (k==8))=some false:=by rw [uK];simp;omega
  rw [e,sb,itF rfl];by_cases h2:k=3\/k=5\/k=9\/k=10\/k=11
  ·have e2:(if (k==3)=true then some (k==3) else if (k==5)=true then some (k==5) else if (k==9)=true then some (k==9) else if (k==10)=true then some (k==10) else some (k==11))=some true:=by
    rcases h2 with rfl| rfl| rfl| rfl| rfl<;>rfl
   have hn:kNum k=true:=xQ (by omega);have hw:u64.wrap (w%4294967296)=w%4294967296:=by rw [wrap_u64];omega
   rw [e2,sb,itT rfl,zCM,sb,hn,hw];unfold zbk;rw [xp h1,xq h2];rfl
  ·have e2:(if (k==3)=true then some (k==3) else if (k==5)=true then some (k==5) else if (k==9)=true then some (k==9) else if (k==10)=true then some (k==10) else some (k==11))=some false:=by
    rw [uK,uK,uK,uK];simp;omega
   rw [e2,sb,itF rfl];by_cases h7:k=7
   ·have hn:kNum k=true:=xQ (by omega);rw [itT (by simpa using h7),hn];unfold zoi zbk;rw [sb,xp h1,xp h2,xq h7];by_cases h0:0<w
    ·rw [xq h0];by_cases h10:1<w
     ·rw [xq h10];rfl
     ·rw [xp h10,show w=1 by omega];rfl
    ·rw [xp h0,xp (by omega),show w=0 by omega];rfl
   ·rw [itF (by simpa using h7)];by_cases hn:kNum k=true
    ·have hk:=yq hn;have e3:(if (k==2)=true then some (k==2) else if (k==4)=true then some (k==4) else if (k==6)=true then some (k==6) else if (k==12)=true then some (k==12) else if (k==13)=true then some (k==13) else some (k==14))=some true:=by
      have:k=2\/k=4\/k=6\/k=12\/k=13\/k=14:=by omega
      rcases this with rfl| rfl| rfl| rfl| rfl| rfl<;>rfl
     rw [e3,sb,itT rfl,hn];unfold zbk;rw [xp h1,xp h2,xp h7];rfl
    ·have hn:kNum k=false:=by simpa using hn
     have hk:=pT hn;have e3:(if (k==2)=true then some (k==2) else if (k==4)=true then some (k==4) else if (k==6)=true then some (k==6) else if (k==12)=true then some (k==12) else if (k==13)=true then some (k==13) else some (k==14))=some false:=by
      rw [uK,uK,uK,uK,uK];simp;omega
     rw [e3,sb,itF rfl,hn];rfl
def lt7 (c:UInt8):Bool:=decide (97<=c.toNat/\c.toNat<=122\/65<=c.toNat/\c.toNat<=90\/c.toNat=95)
def dg7 (c:UInt8):Bool:=decide (48<=c.toNat/\c.toNat<=57)
theorem zwM (c:UInt8):zgi (c.toNat:Int)=some (dg7 c):=by
 unfold zgi dg7;congr 1;rw [yI];simp;omega
theorem zCl (c:UInt8):zgK (c.toNat:Int)=some (lt7 c):=by
 unfold zgK lt7;congr 1;by_cases h1:(c.toNat:Int)>=97<;>by_cases h2:(c.toNat:Int)>=65<;>simp only [h1,h2,decide_true,decide_false,yo,yu,yZ]<;>rw [yI]<;>simp<;>omega
theorem zCm (s:List UInt8) (hs:s.length<=1152921504606846976):∀(l:List UInt8) (i:Nat),s.drop i=l->zeR s i=some (if (l.all fun c=>lt7 c|| dg7 c)=true then .inl () else .inr ()):=by
 intro l
 induction l with
 | nil=>
  intro i hd;have:=zhs hd;refine zko ?_;unfold zdT;rw [uK];rfl
 | cons c l ih=>
  intro i hd;obtain ⟨hi,hc,hd'⟩:=zgw hd;have hb:zdT s i=if (lt7 c|| dg7 c)=true then some (.inl ((i+1:Nat):Int)) else some (.inr (.inr ())):=by
   unfold zdT;rw [uJ,zK rfl hi,sb,hc,zCl,sb,sb,zwM,uL];cases lt7 c<;>cases dg7 c<;>rfl
  rw [yK];cases hk:(lt7 c|| dg7 c) with
  | false=>
   rw [hk] at hb;rw [zko hb];rfl
  | true=>
   rw [hk] at hb;rw [zqj hb,ih _ hd',xZ]
theorem zGo:∀(l:List UInt8) (i:Nat),0<i->nmA i l=l.all fun c=>lt7 c|| dg7 c
 | [],_,_=>rfl
 | c::l,i,h=>by
  rw [nmA,zGo l (i+1) (by omega),yK];congr 1;unfold nmc lt7 dg7;rw [yI];simp;omega
theorem zze (hs:s.length<=1152921504606846976):zgQ s=some (zfs s):=by
 unfold zgQ zfs;have hl:=zCm s hs s 0 rfl;have hl':zeR s 0=_:=hl;cases s with
 | nil=>rfl
 | cons c l=>
  rw [uI];by_cases h60:((c::l).length:Int)>60
  ·rw [itT (by simpa using h60),sb,itT rfl];have:decide (1<=(c::l).length/\(c::l).length<=60)=false:=by simp only [ut];omega
   rw [this,q7]
  ·have hd:decide (1<=(c::l).length/\(c::l).length<=60)=true:=by simp only [xP];refine ⟨by simp,by omega⟩
   have hc:idx (c::l) 0=some c:=by simp [idx]
   rw [itF (by simpa using h60),hc,sb,zwM,sb,sb,hd,qY,hl',sb];have e:nmA 0 (c::l)=(lt7 c&&l.all fun c=>lt7 c|| dg7 c):=by
    rw [nmA,zGo l 1 (by omega)];congr 1;unfold nmc lt7;rw [yI];simp;omega
   have hx:lt7 c=true->dg7 c=false:=by
    unfold lt7 dg7;simp only [xP,ut];omega
   rw [e,yK];cases h1:lt7 c<;>cases h2:dg7 c<;>first| (rw [hx h1] at h2;cases h2;done)| skip
   ·rfl
   ·rfl
   ·cases l.all fun c=>lt7 c|| dg7 c<;>rfl
theorem zIS (hl:l.length<=1152921504606846976) (v:Int):zda l v=some (zkz (fun x=>v==x) l):=by
 unfold zda;have h:=zqA (fun x=>v==x) l (fun i=>zbh l v i) (zgj (by unfold zaG;rw [uI])) (fun i hi=>by
  by_cases hp:(v==l[i])=true
  ·rw [xq hp];exact zgj (by unfold zaG;rw [uJ,zK rfl hi,sb,itT hp])
  ·rw [xp hp];exact zjH (by unfold zaG;rw [uJ,zK rfl hi,sb,itF (by simpa using hp),uL];rfl)) l.length 0 (by omega) (fun j _ h=>by omega)
 have h':zbh l v 0=_:=h;rw [h',sb];unfold zkz;cases l.findIdx? (fun x=>v==x)<;>rfl
theorem zyr {α:Type} (p:α->Bool) (l:List α):decide (zkz p l>=0)=l.any p:=by
 cases h:l.findIdx? p with
 | none=>
  rw [zmm h];rw [uF] at h
  symm
  rw [List.any_eq_false.2 fun x hx=>by simpa using h x hx];rfl
 | some i=>
  rw [zmn h];rw [pO] at h;obtain ⟨hi,hp,_⟩:=h
  symm
  rw [List.any_eq_true.2 ⟨l[i],xB hi,hp⟩];simp
theorem zBT (hl:l.length<=1152921504606846976) (v:Int):zbX l v=some (l.any fun x=>v==x):=by
 unfold zbX;rw [zIS hl,sb,zyr]
def K17:List Int:=[1,2,3,4,5,6,7,8,9,10,11,12,13,14,15,16,17]
theorem zHp (k:Int):(K17.any fun x=>k==x)=zaY k:=by
 unfold zaY K17;rw [yI];simp;omega
def hasN (m:List (zv×Bool)) (i:Int) (n:Str):Bool:=(mget m (⟨i,n⟩:zv)).getD false
def hasU (m:List (zh×Bool)) (i:Int) (n:Int):Bool:=(mget m (⟨i,n⟩:zh)).getD false
theorem znp (m:List (zv×Bool)) (i j:Int) (n k:Str):hasN (mput m ⟨i,n⟩ true) j k=(decide (j=i/\k=n)|| hasN m j k):=by
 unfold hasN;rw [zft];by_cases h:j=i/\k=n
 ·obtain ⟨rfl,rfl⟩:=h;simp
 ·rw [xp (fun e=>h (by injection e with e1 e2;exact ⟨e1,e2⟩))];simp [h]
theorem zCg (m:List (zh×Bool)) (i j:Int) (n k:Int):hasU (mput m ⟨i,n⟩ true) j k=(decide (j=i/\k=n)|| hasU m j k):=by
 unfold hasU;rw [zft];by_cases h:j=i/\k=n
 ·obtain ⟨rfl,rfl⟩:=h;simp
 ·rw [xp (fun e=>h (by injection e with e1 e2;exact ⟨e1,e2⟩))];simp [h]
theorem zCn (n:Int):zgL n=some (decide ¬(n<1\/n>536870911\/(19000<=n/\n<20000))):=by
 unfold zgL;congr 1;rw [yI];simp;omega
theorem zEI (f:Fld):zhk f=some (f.Repeated&&kNum f.Kind):=by
 unfold zhk;rw [zwR];cases f.Repeated<;>rfl
theorem zJl (n:Int) (K:List Int) (nm:List (zv×Bool)) (nu:List (zh×Bool)) (f:Fld):zfk ⟨n,K,nm,nu⟩ f=some (decide ¬(f.Kind=17/\(f.Of<0\/f.Of>=n)\/f.Kind≠17/\f.Of≠0)):=by
 unfold zfk;by_cases h:f.Kind=17
 ·rw [itT (by simpa using h)];congr 1;rw [yI];simp [h]
 ·rw [itF (by simpa using h)];congr 1;rw [yI];simp [h]
theorem zIG (hf:f.Name.length<=1152921504606846976) (hN:hasN nm i f.Name=prev.any fun g=>g.Name==f.Name) (hU:hasU nu i f.Number=prev.any fun g=>g.Number==f.Number):
  zfj ⟨n,K17,nm,nu⟩ i f=some (zcx n prev f,if zcx n prev f=0 then (mput nm ⟨i,f.Name⟩ true,mput nu ⟨i,f.Number⟩ true) else (nm,nu)):=by
 unfold zfj;rw [zze hf,sb];have e1:(mget nm (⟨i,f.Name⟩:zv)).getD false=hasN nm i f.Name:=rfl;have e2:(mget nu (⟨i,f.Number⟩:zh)).getD false=hasU nu i f.Number:=rfl;simp only [e1,e2,hN,hU];have hz:∀(k:Int) (x y:List (zv×Bool)×List (zh×Bool)),k≠0->(if k=0 then x else y)=y:=fun k x y h=>xp h
 by_cases h1:zfs f.Name=false
 ·have hF:zcx n prev f=5:=by unfold zcx;rw [xq h1]
  rw [hF,hz 5 _ _ (by decide),itT (by rw [h1];rfl)]
 rw [itF (show (!zfs f.Name)=false by simpa using h1)];by_cases h2:(prev.any fun g=>g.Name==f.Name)=true
 ·have hF:zcx n prev f=6:=by unfold zcx;rw [xp h1,xq h2]
  rw [hF,hz 6 _ _ (by decide),itT h2]
 have h2':(prev.any fun g=>g.Name==f.Name)=false:=pq h2;rw [itF h2',zCn,sb];by_cases h3:f.Number<1\/f.Number>536870911\/(19000<=f.Number/\f.Number<20000)
 ·have hF:zcx n prev f=7:=by unfold zcx;rw [xp h1,xp h2,xq h3]
  rw [hF,hz 7 _ _ (by decide),itT (by rw [xT (fun h=>h h3)];rfl)]
 rw [itF (by rw [xQ h3];rfl)];by_cases h4:(prev.any fun g=>g.Number==f.Number)=true
 ·have hF:zcx n prev f=8:=by unfold zcx;rw [xp h1,xp h2,xp h3,xq h4]
  rw [hF,hz 8 _ _ (by decide),itT h4]
 have h4':(prev.any fun g=>g.Number==f.Number)=false:=pq h4;rw [itF h4',zBT (by decide),sb,zHp];by_cases h5:zaY f.Kind=false
 ·have hF:zcx n prev f=9:=by unfold zcx;rw [xp h1,xp h2,xp h3,xp h4,xq h5]
  rw [hF,hz 9 _ _ (by decide),itT (by rw [h5];rfl)]
 rw [itF (show (!zaY f.Kind)=false by simpa using h5),zEI];have hg:(if f.Packed=true then (some (f.Repeated&&kNum f.Kind)>>=fun kc=>some (!kc)) else some false)=some (decide (f.Packed=true/\¬(f.Repeated=true/\kNum f.Kind=true))):=by
  cases f.Packed<;>cases f.Repeated<;>cases kNum f.Kind<;>rfl
 rw [hg,sb];by_cases h6:f.Packed=true/\¬(f.Repeated=true/\kNum f.Kind=true)
 ·have hF:zcx n prev f=10:=by unfold zcx;rw [xp h1,xp h2,xp h3,xp h4,xp h5,xq h6]
  rw [hF,hz 10 _ _ (by decide),itT (xQ h6)]
 rw [itF (xT h6),zJl,sb];by_cases h7:f.Kind=17/\(f.Of<0\/f.Of>=n)\/f.Kind≠17/\f.Of≠0
 ·have hF:zcx n prev f=11:=by unfold zcx;rw [xp h1,xp h2,xp h3,xp h4,xp h5,xp h6,xq h7]
  rw [hF,hz 11 _ _ (by decide),itT (by rw [xT (fun h=>h h7)];rfl)]
 have hF:zcx n prev f=0:=by unfold zcx;rw [xp h1,xp h2,xp h3,xp h4,xp h5,xp h6,xp h7]
 rw [hF,xq rfl,itF (by rw [xQ h7];rfl)]
theorem zEJ {n:Int} {nm:List (zv×Bool)} {nu:List (zh×Bool)} {prev:List Mes} {m:Mes} (hm:m.Name.length<=1152921504606846976) (hN:hasN nm (-1) m.Name=prev.any fun g=>g.Name==m.Name):
  zef ⟨n,K17,nm,nu⟩ m=some (if zfs m.Name=false then (2,nm,nu) else if (prev.any fun g=>g.Name==m.Name)=true then (3,nm,nu) else if 200<m.Fields.length then (4,nm,nu) else (0,mput nm ⟨-1,m.Name⟩ true,nu)):=by
 unfold zef;rw [zze hm,sb];have e1:(mget nm (⟨(-1),m.Name⟩:zv)).getD false=hasN nm (-1) m.Name:=rfl;simp only [e1,hN];by_cases h1:zfs m.Name=false
 ·rw [xq h1,itT (show (!zfs m.Name)=true by rw [h1];rfl)]
 rw [xp h1,itF (show (!zfs m.Name)=false by simpa using h1)];by_cases h2:(prev.any fun g=>g.Name==m.Name)=true
 ·rw [xq h2,itT h2]
 have h2':(prev.any fun g=>g.Name==m.Name)=false:=pq h2;rw [xp h2,itF h2'];by_cases h3:200<m.Fields.length
 ·rw [xq h3,itT (show decide ((m.Fields.length:Int)>200)=true by simp;omega)]
 rw [xp h3,itF (show decide ((m.Fields.length:Int)>200)=false by simp;omega)]
structure Met (nm:List (zv×Bool)) (nu:List (zh×Bool)) (i:Nat) (prev:List Mes) (p:List Fld):Prop where
 mes:∀n,hasN nm (-1) n=prev.any fun g=>g.Name==n
 nam:∀n,hasN nm i n=p.any fun g=>g.Name==n
 num:∀n,hasU nu i n=p.any fun g=>g.Number==n
 later:∀(j:Nat) n,i<j->hasN nm j n=false
 laterU:∀(j:Nat) n,i<j->hasU nu j n=false
theorem Met.step (h:Met nm nu i prev p) (f:Fld):Met (mput nm ⟨i,f.Name⟩ true) (mput nu ⟨i,f.Number⟩ true) i prev (p++[f]):=by
 refine ⟨fun n=>?_,fun n=>?_,fun n=>?_,fun j n hj=>?_,fun j n hj=>?_⟩
 ·rw [znp,h.mes,xT (by omega),q9]
 ·rw [znp,h.nam,uA,Bool.or_comm];congr 1;simp only [qX,List.any_nil,pp];rw [yI];simp;exact eq_comm
 ·rw [zCg,h.num,uA,Bool.or_comm];congr 1;simp only [qX,List.any_nil,pp];rw [yI];simp;exact eq_comm
 ·rw [znp,h.later j n hj,xT (by omega)];rfl
 ·rw [zCg,h.laterU j n hj,xT (by omega)];rfl
theorem zIA (hb:m.Fields.length<=140737488351232) (hn:∀f∈m.Fields,f.Name.length<=140737488351232):
  ∀(l:List Fld) (k:Nat) (nm:List (zv×Bool)) (nu:List (zh×Bool)),m.Fields.drop k=l->k<=m.Fields.length->Met nm nu i prev (m.Fields.take k)->
   (∃j w,msgF s.length (m.Fields.take k) l=some (j,w)/\zdz K17 s i m k nm nu=some (.inr ((j:Int),w)))\/
   (msgF s.length (m.Fields.take k) l=none/\∃nm' nu',zdz K17 s i m k nm nu=some (.inl (nm',nu'))/\Met nm' nu' i prev m.Fields):=by
 intro l
 induction l with
 | nil=>
  intro k nm nu hd hk hM;have:=zhs hd;have hkl:k=m.Fields.length:=by omega
  subst hkl;refine .inr ⟨rfl,nm,nu,zkI ?_,by simpa using hM⟩;unfold zcE;rw [uI]
 | cons f l ih=>
  intro k nm nu hd hk hM;obtain ⟨hi,hc,hd'⟩:=zgw hd;have hf:=hn f (by rw [<-hc];exact xB hi);have hfld:=zIG (n:=(s.length:Int)) (i:=(i:Int)) (nm:=nm) (nu:=nu) (prev:=m.Fields.take k) (f:=f) (by omega) (hM.nam _) (hM.num _);have htk:m.Fields.take (k+1)=m.Fields.take k++[f]:=by rw [pP hi,hc]
  have wY:(m.Fields.take k).length=k:=by simp;omega
  obtain ⟨bd,_⟩:=zwu (s.length:Int) (m.Fields.take k) f;rw [msgF];by_cases h0:zcx s.length (m.Fields.take k) f=0
  ·rw [xp (by omega)];rw [h0,xq rfl] at hfld;have hstep:zcE K17 s i m k nm nu=some (.inl (((k+1:Nat):Int),mput nm ⟨i,f.Name⟩ true,mput nu ⟨i,f.Number⟩ true)):=by
    unfold zcE;rw [uJ,zK rfl hi,sb,hc,hfld,sb];dsimp only;rw [itF (show ((0:Int) !=0)=false from rfl),uL];rfl
   rw [zrj hstep,<-htk];exact ih (k+1) _ _ hd' (by omega) (by rw [htk];exact hM.step f)
  ·rw [xq (by omega)];rw [xp h0] at hfld;refine .inl ⟨k,_,by rw [wY],zkI ?_⟩;unfold zcE;rw [uJ,zK rfl hi,sb,hc,hfld,sb];dsimp only;rw [itT (show (zcx (s.length:Int) (m.Fields.take k) f !=0)=true by simpa using h0)]
theorem zIz {s:List Mes} (hw:WS s):∀(l:List Mes) (i:Nat) (nm:List (zv×Bool)) (nu:List (zh×Bool)),s.drop i=l->i<=s.length->Met nm nu i (s.take i) []->
  zfv K17 s i nm nu=some (match chkF s.length (s.take i) l with| some (j,k,w)=> .inr ((j:Int),k,w)| none=> .inl ()):=by
 intro l
 induction l with
 | nil=>
  intro i nm nu hd hi hM;have:=zhs hd;refine zeI ?_;unfold zbf;rw [uK];rfl
 | cons m l ih=>
  intro i nm nu hd hi hM;obtain ⟨hil,hc,hd'⟩:=zgw hd;obtain ⟨w1,w2⟩:=hw;obtain ⟨m1,m2,m3⟩:=w2 m (by rw [<-hc];exact xB hil);have hmes:=zEJ (n:=(s.length:Int)) (nm:=nm) (nu:=nu) (prev:=s.take i) (m:=m) (by omega) (hM.mes _);have htk:s.take (i+1)=s.take i++[m]:=by rw [pP hil,hc]
  have wY:(s.take i).length=i:=by simp;omega
  rw [chkF];by_cases h1:zfs m.Name=false
  ·rw [xq h1] at hmes|-;refine zeI ?_;unfold zbf;rw [uJ,zK rfl hil,sb,hc,hmes,sb];dsimp only;rw [itT (show ((2:Int) !=0)=true from rfl),wY]
  rw [xp h1] at hmes|-;by_cases h2:((s.take i).any fun g=>g.Name==m.Name)=true
  ·rw [xq h2] at hmes|-;refine zeI ?_;unfold zbf;rw [uJ,zK rfl hil,sb,hc,hmes,sb];dsimp only;rw [itT (show ((3:Int) !=0)=true from rfl),wY]
  rw [xp h2] at hmes|-;by_cases h3:200<m.Fields.length
  ·rw [xq h3] at hmes|-;refine zeI ?_;unfold zbf;rw [uJ,zK rfl hil,sb,hc,hmes,sb];dsimp only;rw [itT (show ((4:Int) !=0)=true from rfl),wY]
  rw [xp h3] at hmes|-;have hM0:Met (mput nm ⟨-1,m.Name⟩ true) nu i (s.take i++[m]) (m.Fields.take 0):=by
   refine ⟨fun n=>?_,fun n=>?_,fun n=>?_,fun j n hj=>?_,fun j n hj=>hM.laterU j n hj⟩
   ·rw [znp,hM.mes,uA,Bool.or_comm];congr 1;simp only [qX,List.any_nil,pp];rw [yI];simp;exact eq_comm
   ·rw [znp,hM.nam,xT (by omega)];rfl
   ·rw [hM.num];rfl
   ·rw [znp,hM.later j n hj,xT (by omega)];rfl
  have hl2:=zIA (s:=s) (i:=i) m2 m3 m.Fields 0 _ nu rfl (by omega) hM0;simp only [qq] at hl2;rcases hl2 with ⟨j,w,g1,g2⟩| ⟨g1,nm',nu',g2,g3⟩
  ·rw [g1];refine zeI ?_;unfold zbf;have g2':zdz K17 s i m 0 (mput nm ⟨-1,m.Name⟩ true) nu=_:=g2;rw [uJ,zK rfl hil,sb,hc,hmes,sb];dsimp only;rw [itF (show ((0:Int) !=0)=false from rfl),g2',sb];simp only [wY]
  ·rw [g1];have hstep:zbf K17 s i nm nu=some (.inl (((i+1:Nat):Int),nm',nu')):=by
    unfold zbf;have g2':zdz K17 s i m 0 (mput nm ⟨-1,m.Name⟩ true) nu=_:=g2;rw [uJ,zK rfl hil,sb,hc,hmes,sb];dsimp only;rw [itF (show ((0:Int) !=0)=false from rfl),g2',sb];dsimp only;rw [uL];rfl
   rw [zri hstep];simp only [];rw [<-htk];refine ih (i+1) nm' nu' hd' (by omega) ⟨fun n=>?_,fun n=>?_,fun n=>?_,fun j n hj=>g3.later j n (by omega),fun j n hj=>g3.laterU j n (by omega)⟩
   ·rw [htk];exact g3.mes n
   ·rw [g3.later (i+1) n (by omega)];rfl
   ·rw [g3.laterU (i+1) n (by omega)];rfl
theorem zIy (hw:WS s):ziW s=some (⟨(zjq s).1,(zjq s).2.1,(zjq s).2.2⟩,if (zjq s).2.2=0 then 0 else 9):=by
 unfold ziW zjq;by_cases h:s.length=0\/100<s.length
 ·rw [uJ,xq h];rfl
 ·rw [uK,xp h,zLt,sb];have hl:=zIz hw s 0 [] [] rfl (by omega) ⟨fun n=>rfl,fun n=>rfl,fun n=>rfl,fun j n _=>rfl,fun j n _=>rfl⟩;simp only [qq] at hl;have hl':zfv [1,2,3,4,5,6,7,8,9,10,11,12,13,14,15,16,17] s 0 [] []=_:=hl;rw [hl',sb];cases hc:chkF s.length [] s with
  | none=>rfl
  | some q=>
   obtain ⟨i,k,w⟩:=q;have:=zFE _ _ _ _ _ _ hc;simp only;rw [xp (by omega)]
theorem zJV (hw:WS s):ziX s=some (zkC s):=by
 unfold ziX zkC;rw [zIy hw,sb];by_cases h:(zjq s).2.2=0<;>simp [h]
theorem zku (h:(zai k b).2=0):kNum k=true/\(pcs k b).2=0/\(zai k b).1=(pcs k b).1.map (zdW k):=by
 unfold zai at h|-;cases hn:kNum k with
 | false=>rw [hn,xq rfl] at h;simp at h
 | true=>
  rw [hn,xp (by simp)] at h;rw [xp (by simp)];by_cases h0:(pcs k b).2=0
  ·rw [xq h0];exact ⟨rfl,h0,rfl⟩
  ·rw [xp h0] at h;exact absurd h h0
theorem zqY {k:Int} {b:List UInt8} (hn:kNum k=true) (h0:(pcs k b).2=0):zai k b=((pcs k b).1.map (zdW k),0):=by
 unfold zai;rw [hn,xp (by simp),xq h0]
theorem zsi (h:(zai k b).2≠0):(zai k b).1=[]/\((zai k b).2=2\/(zai k b).2=3\/(zai k b).2=4):=by
 unfold zai at h|-;by_cases hn:kNum k=false
 ·rw [xq hn];simp
 ·rw [xp hn] at h|-;by_cases h0:(pcs k b).2=0
  ·rw [xq h0] at h;exact absurd rfl h
  ·rw [xp h0];rcases zCS k b with h1| h1| h1
   ·exact absurd h1 h0
   ·rw [h1];simp
   ·rw [h1];simp
theorem zyg (k:Int) (b:List UInt8):(zai k b).1.length<=b.length:=by
 by_cases h:(zai k b).2=0
 ·rw [(zku h).2.2,po];exact zvO k b
 ·rw [(zsi h).1];exact xC _
theorem zBA {k:Int} {a b:List UInt8} (ha:(zai k a).2=0):(zai k (a++b)).2=(zai k b).2/\((zai k b).2=0->(zai k (a++b)).1=(zai k a).1++(zai k b).1):=by
 obtain ⟨hn,h0,e⟩:=zku ha;have hp:=zEU k b a h0;by_cases hb:(pcs k b).2=0
 ·rw [zqY hn (b:=a++b) (by rw [hp];exact hb),zqY hn hb,e,hp];exact ⟨rfl,fun _=>by simp⟩
 ·have:(zai k b).2=(pcs k b).2:=by unfold zai;rw [xp (by rw [hn];simp),xp hb]
  have h2:(zai k (a++b)).2=(pcs k b).2:=by unfold zai;rw [xp (by rw [hn];simp),hp,xp hb]
  rw [this,h2];exact ⟨rfl,fun h=>absurd h hb⟩
theorem zIY {α:Type} (x y:α):(if (true:Bool)=false then x else y)=y:=rfl
def wid (k:Int):Nat:=if 12<=k then 8 else if 9<=k then 4 else 0
theorem zuo (k:Int):zgE k=some (if kNum k then ((wid k:Int),0) else (0,2)):=by
 cases hn:kNum k with
 | true=>
  have h:=zff.1 hn;have hk:k=1\/k=2\/k=3\/k=4\/k=5\/k=6\/k=7\/k=8\/k=9\/k=10\/k=11\/k=12\/k=13\/k=14:=by omega
  rcases hk with rfl| rfl| rfl| rfl| rfl| rfl| rfl| rfl| rfl| rfl| rfl| rfl| rfl| rfl<;>rfl
 | false=>
  have h:=pT hn;unfold zgE;have kl:∀c:Int,1<=c->c<=14->(k==c)=false:=fun c h1 h2=>by simp;omega
  simp only [kl 1 (by omega) (by omega),kl 2 (by omega) (by omega),kl 3 (by omega) (by omega),kl 4 (by omega) (by omega),kl 5 (by omega) (by omega),kl 6 (by omega) (by omega),kl 7 (by omega) (by omega),kl 8 (by omega) (by omega),kl 9 (by omega) (by omega),kl 10 (by omega) (by omega),kl 11 (by omega) (by omega),kl 12 (by omega) (by omega),kl 13 (by omega) (by omega),kl 14 (by omega) (by omega)];rfl
theorem zHo (hk:kNum k=true):(zaa k=0↔wid k=0)/\(wid k≠0->∀b:List UInt8,zbu (zaa k) b=decide (wid k=b.length))/\(wid k=0\/wid k=4\/wid k=8):=by
 have:=zff.1 hk;unfold zaa wid zbu;by_cases h1:12<=k
 ·rw [xp (by omega),xq h1,xq h1];refine ⟨by simp,fun _ b=>?_,by simp⟩;rw [xp (by omega)];simp only [show ((1:Int)=2)=False from by simp,show ((1:Int)=5)=False from by simp,false_or,false_and,xK,qo];simp [eq_comm]
 ·rw [xp (by omega),xp h1,xp h1];by_cases h2:9<=k
  ·rw [xq h2,xq h2];refine ⟨by simp,fun _ b=>?_,by simp⟩;rw [xp (by omega)];simp [eq_comm]
  ·rw [xp h2,xp h2];exact ⟨by simp,fun h=>absurd rfl h,by simp⟩
theorem zHW (b:List UInt8):ziU b=some (if zbu 0 b then ((rd b).1,0) else (0,12)):=by
 unfold ziU zbu;rw [zvR,sb,xq rfl];by_cases h:(rd b).2.2=0/\(rd b).2.1=(b.length:Int)
 ·rw [itF (by simp [h.1,h.2]),xq (by simpa using h)]
 ·rw [uJ,xp (by simpa using h)]
theorem zHU (k:Int) (b:List UInt8):ziT k b=some (if kNum k=false then (0,2) else if zbu (zaa k) b=false then (0,12) else (rawW k b,0)):=by
 unfold ziT;rw [zuo,sb];cases hn:kNum k with
 | false=>rw [xq rfl];rfl
 | true=>
  obtain ⟨e0,ef,_⟩:=zHo hn;simp only [yo];rw [uI,xp (show ¬(true=false) by simp)];by_cases h0:wid k=0
  ·have hw:=e0.2 h0;rw [itT (by simp [h0]),zHW,sb,hw];unfold rawW;cases hf:zbu 0 b with
   | true=>simp [hw]
   | false=>simp
  ·rw [itF (by simpa using h0),ef h0];by_cases hl:wid k=b.length
   ·rw [uK,zMp,sb,xp (by simpa using hl)];unfold rawW;rw [xp (fun h=>h0 (e0.1 h))]
   ·rw [uJ,xq (by simpa using hl)]
theorem zKo (k:Int) (b:List UInt8):zkn k b=some (zlG k b):=by
 unfold zkn zlG;rw [zHU,sb];cases hn:kNum k with
 | false=>rfl
 | true=>
  simp only [zIY];cases hf:zbu (zaa k) b with
  | false=>rfl
  | true=>
   simp only [zIY];rw [uH,zkT k (zms k),sb,hn,xq rfl]
theorem zGH {k w:Int} (h:0<=w/\w<=18446744073709551615):zjG k w=some (if kNum k then (sPut k w,0) else ([],2)):=by
 have hc:=zhc k h;obtain ⟨c,hcc⟩:∃c:Nat,zbk k w=c:=⟨(zbk k w).toNat,by omega⟩;unfold zjG;rw [zuo,sb];cases hn:kNum k with
 | false=>rfl
 | true=>
  simp only [yo];rw [uH,zkT k h,sb,hn];simp only [yo];rw [hcc];unfold sPut zkD;rw [hcc,xD];unfold wid;by_cases h1:12<=k
  ·rw [xq h1,xq h1,uH,zzk,sb];rfl
  ·rw [xp h1,xp h1];by_cases h2:9<=k
   ·rw [xq h2,xq h2,uH,zzk,sb];rfl
   ·rw [xp h2,xp h2,uG,zEW [] (by omega) (by simp),sb,xG]
theorem zxQ (h:0<=w/\w<=18446744073709551615):zhj k w=some (if kNum k then ((sPut k w).length:Int) else 0):=by
 have hc:=zhc k h;obtain ⟨c,hcc⟩:∃c:Nat,zbk k w=c:=⟨(zbk k w).toNat,by omega⟩;unfold zhj;rw [zuo,sb];cases hn:kNum k with
 | false=>rfl
 | true=>
  simp only [yo];unfold sPut zkD;rw [hcc,xD];unfold wid;by_cases h1:12<=k
  ·rw [xq h1,xq h1,uG,zaB]
  ·rw [xp h1,xp h1];by_cases h2:9<=k
   ·rw [xq h2,xq h2,uG,zaB]
   ·rw [xp h2,xp h2,uH,zkT k h,sb,hn];simp only [yo];rw [hcc,zJp (by omega),sb,zhV]
theorem zyR {α:Type} {l t:List α} {x:α} {k:Nat} (h:l.drop k=x::t):∃hk:k<l.length,l[k]=x/\l.drop (k+1)=t:=by
 have hk:k<l.length:=by
  rcases yv k l.length with h'| h'
  ·exact h'
  ·rw [yy h'] at h;cases h
 rw [yl hk] at h;injection h with h1 h2;exact ⟨hk,h1,h2⟩
theorem zAm (l:List (List UInt8)) (hl:l.length<=1099511627776):∀(t:List (List UInt8)) (k s:Nat),l.drop k=t->s+t.flatten.length<=1099511627776->
  zaJ l s k=some ((s+t.flatten.length:Nat):Int):=by
 intro t
 induction t with
 | nil=>
  intro k s hd _;have hk:l.length<=k:=by have:=congrArg List.length hd;simp at this;omega
  refine ziA ?_;unfold zar;rw [uK];simp
 | cons x t ih=>
  intro k s hd hs;obtain ⟨hk,hx,hd'⟩:=zyR hd;simp only [qi,xy] at hs;refine (ziz (size':=((s+x.length:Nat):Int)) (v':=((k+1:Nat):Int)) ?_).trans ?_
  ·unfold zar;rw [uJ,zK rfl hk,sb,hx,uL,uK,uL];push_cast;rfl
  ·rw [ih _ _ hd' (by omega)];simp only [qi,xy];congr 2;omega
theorem zAn (l:List (List UInt8)) (hl:l.length<=1099511627776):∀(t:List (List UInt8)) (k:Nat) (acc:List UInt8),l.drop k=t->acc.length+t.flatten.length<=1099511627776->
  zaK l acc k=some (acc++t.flatten):=by
 intro t
 induction t with
 | nil=>
  intro k acc hd _;have hk:l.length<=k:=by have:=congrArg List.length hd;simp at this;omega
  refine ziC ?_;unfold zas;rw [uK];simp
 | cons x t ih=>
  intro k acc hd hs;obtain ⟨hk,hx,hd'⟩:=zyR hd;simp only [qi,xy] at hs;refine (ziB (newslice':=acc++x) (v2':=((k+1:Nat):Int)) ?_).trans ?_
  ·unfold zas;rw [uJ,zK rfl hk,sb,hx,zcF (by omega),sb,uL];push_cast;rfl
  ·rw [ih _ _ hd' (by rw [xy];omega)];simp
theorem zLk {n:Nat} (h:n<=1099511627776):zcy (n:Int)=some []:=by
 unfold zcy;have e:i64.wrap ((n:Int) - i64.wrap (0 - 0))=n:=by rw [wrap_i64 (x:=0 - 0) (by omega),uL];omega
 rw [uI,e];by_cases h0:(n:Int)>0
 ·rw [itT (by simpa using h0),zEK (a:=n) rfl (Int.le_refl _) (by omega),sb];have e0:cut (List.replicate n (0:UInt8)) 0 0=some []:=zsr (b:=0) rfl (xC _);rw [e0,sb]
 ·rw [itF (by simpa using h0)]
theorem ztJ (hl:l.length<=1099511627776) (h:l.flatten.length<=1099511627776):zaF l=some l.flatten:=by
 unfold zaF;have h1:=zAm l hl l 0 0 rfl (by omega);have h1':zaJ l 0 0=_:=h1;have h2:=zAn l hl l 0 [] rfl (by simpa using h);have h2':zaK l [] 0=_:=h2;rw [h1',sb,zLk (by omega),sb,h2',sb];simp
def wid9 (k:Int):Int:=if kNum k then (if 12<=k then 8 else if 9<=k then 4 else 1) else 0
theorem zyB (hk:kNum k=true):(((sPut k 0).length:Nat):Int)=(if 12<=k then 8 else if 9<=k then 4 else 1):=by
 have hk':=zff.1 hk;have hc:(zbk k 0).toNat=0:=by
  have:k=1\/k=2\/k=3\/k=4\/k=5\/k=6\/k=7\/k=8\/k=9\/k=10\/k=11\/k=12\/k=13\/k=14:=by omega
  rcases this with h| h| h| h| h| h| h| h| h| h| h| h| h| h<;>subst h<;>decide
 unfold sPut;rw [hc];unfold zkD;by_cases h1:12<=k
 ·rw [xq h1,xq h1,zaB];rfl
 ·rw [xp h1,xp h1];by_cases h2:9<=k
  ·rw [xq h2,xq h2,zaB];rfl
  ·rw [xp h2,xp h2,zhV];simp [lenN]
theorem zzJ (k:Int):zla k=some (wid9 k):=by
 unfold zla wid9;rw [zxQ (by omega),sb];cases hk:kNum k with
 | false=>rfl
 | true=>simp only [yo];rw [zyB hk]
theorem zGU (hk:kNum k=true):(k<9->wid9 k=1)/\(¬k<9->k<12->wid9 k=4)/\(¬k<12->wid9 k=8):=by
 unfold wid9
 grind
theorem zDQ (hk:kNum k=false):wid9 k=0:=by unfold wid9;rw [hk];rfl
theorem zGT (hk:kNum k=true):(wid9 k==0)=false:=by
 obtain ⟨h1,h2,h3⟩:=zGU hk
 grind
theorem zzG (hk:kNum k=true) (b:List UInt8):znH (wid9 k) b=some (match zja k b with| .inl c=>(0,c)| .inr n=>((n:Int),0)):=by
 grind [znH,zja,zGU,zGD,sb,zlz]
def zkt (k:Int) (b:List UInt8):List (List UInt8)×Int:=if kNum k=false then ([],2) else pcs k b
def go9 {σ ρ:Type} (kb:σ->(List UInt8×Int)->Option (σ⊕ρ)):List (List UInt8)->Int->σ->Option (σ⊕ρ)
 | [],c,s=>if c=0 then some (.inl s) else kb s ([],c)
 | p::ps,c,s=>match kb s (p,0) with
  | some (.inl s')=>go9 kb ps c s'
  | some (.inr r)=>some (.inr r)
  | none=>none
theorem zFd {σ ρ χ:Type} {kb:σ->χ->Option (σ⊕ρ)} {s:σ} {x:χ} {o:σ⊕ρ} (h:kb s x=some o):∃c,rnd kb (.inl s) x=some (c,o)/\(c=true/\(∃s',o= .inl s')\/c=false/\∃r,o= .inr r):=by
 cases o with
 | inl s'=>exact ⟨true,by simp only [rnd,h],.inl ⟨rfl,s',rfl⟩⟩
 | inr r=>exact ⟨false,by simp only [rnd,h],.inr ⟨rfl,r,rfl⟩⟩
theorem zOG {σ ρ:Type} (kb:σ->(List UInt8×Int)->Option (σ⊕ρ)) {k:Int} (hk:kNum k=true) (b:List UInt8):∀(s:σ) (o:σ⊕ρ),go9 kb (pcs k b).1 (pcs k b).2 s=some o->
  ∃q,zfu (rnd kb) (wid9 k) b (.inl s)=some q/\(q= .inl o\/q= .inr o):=by
 refine zot k (fun b=>∀(s:σ) (o:σ⊕ρ),go9 kb (pcs k b).1 (pcs k b).2 s=some o->
  ∃q,zfu (rnd kb) (wid9 k) b (.inl s)=some q/\(q= .inl o\/q= .inr o)) ?_ ?_ ?_ b
 ·intro s o h;rw [ziQ] at h;have h':some (.inl s)=some o:=h;refine ⟨.inl o,zhG ?_,.inl rfl⟩;unfold zbZ
  grind
 ·intro l c hl hu hc s o h;rw [zos hl hu] at h;have h':kb s ([],c)=some o:=by
   have h2:(if c=0 then some (.inl s) else kb s ([],c))=some o:=h
   grind
  obtain ⟨t,ht,_⟩:=zFd h';refine ⟨.inr o,zhG ?_,.inr rfl⟩;have hp:=qr.2 hl;unfold zbZ;rw [uJ,zzG hk,sb,hu];simp only;rw [zgv (i:=0) (j:=0) (a:=0) (b:=0) rfl rfl (xw _) (xC _),sb]
  grind
 ·intro l n hl hu g1 g2 g3 ih s o h;rw [zhO hl hu] at h;have hp:=qr.2 hl;have kw:∀{t:Bool} {y:σ⊕ρ},rnd kb (.inl s) (l.take n,0)=some (t,y)->zbZ (rnd kb) (wid9 k) l (.inl s)=(if t then some (.inl (l.drop n,y)) else some (.inr (.inr y))):=by
   intro t y ht;unfold zbZ;rw [uJ,zzG hk,sb,hu];simp only;rw [zgv (i:=0) (j:=(n:Int)) (a:=0) (b:=n) rfl rfl (xC _) g2,sb];simp only [yd,qw];rw [ht,sb];cases t with
   | false=>rw [uG];rfl
   | true=>rw [uH,zpm (a:=n) rfl rfl g2,sb];rfl
  simp only [go9] at h;cases hb:kb s (l.take n,0) with
  | none=>rw [hb] at h;cases h
  | some z=>
   rw [hb] at h;obtain ⟨t,ht,hcase⟩:=zFd hb;have hB:=kw ht;rcases hcase with ⟨rfl,s',rfl⟩| ⟨rfl,r,rfl⟩
   ·obtain ⟨q,hq,hq'⟩:=ih s' o h;exact ⟨q,by rw [zrh hB];exact hq,hq'⟩
   ·have h':some (.inr r)=some o:=h;exact ⟨.inr (.inr r),zhG hB,.inr (by rw [qH h'])⟩
theorem zGS {σ ρ:Type} (kb:σ->(List UInt8×Int)->Option (σ⊕ρ)) (k:Int) (b:List UInt8) {s:σ} {o:σ⊕ρ} (h:go9 kb (zkt k b).1 (zkt k b).2 s=some o):zeO k b (rnd kb) (.inl s)=some o:=by
 unfold zeO;rw [zzJ,sb];unfold zkt at h;cases hk:kNum k with
 | false=>
  rw [hk,xq rfl] at h;have h':kb s ([],2)=some o:=h;obtain ⟨t,ht,_⟩:=zFd h';rw [zDQ hk,uG,ht,sb]
 | true=>
  rw [hk,xp (by simp)] at h;have hw:=zGT hk;obtain ⟨q,hq,hq'⟩:=zOG kb hk b s o h
  grind
theorem zyb (k:Int) (b:List UInt8):(zkt k b).2=(zai k b).2/\((zai k b).2=0->(zkt k b).1=(pcs k b).1)/\(∀p∈(zkt k b).1,zbu (zaa k) p=true/\1<=p.length/\p.length<=10)/\(zkt k b).1.length<=b.length/\((zkt k b).1=[]\/kNum k=true):=by
 unfold zkt zai;by_cases hn:kNum k=false
 ·grind
 ·have hk:kNum k=true:=by simpa using hn
  rw [xp hn,xp hn];refine ⟨?_,fun _=>rfl,zsU hk b,zvO k b,.inr hk⟩
  grind
theorem zDT (hk:kNum k=true) (c:Int):∀(ps:List (List UInt8)) (acc:List Int),(∀p∈ps,zbu (zaa k) p=true/\1<=p.length/\p.length<=10)->acc.length+ps.length<=1048576->
  go9 (fun (s:List Int) (x:List UInt8×Int)=>zdY k s x.1 x.2) ps c acc=some (if c=0 then .inl (acc++ps.map (zdW k)) else .inr (c,acc++ps.map (zdW k)))
 | [],acc,_,hl=>by
  simp only [go9,yF,xY]
  grind [zdY]
 | p::ps,acc,hf,hl=>by
  simp only [ye] at hl;have h1:zdY k acc p 0=some (.inl (acc++[zdW k p])):=by
   unfold zdY
   grind [zKo,sb,ziu,zcF]
  simp only [go9,h1];rw [zDT hk c ps _ (fun q hq=>hf q (xt _ hq)) (by simp;omega)];simp
theorem zHR (k:Int) {b:List UInt8} (hb:b.length<=1048576):znG k b=some (zai k b):=by
 obtain ⟨h1,h2,h3,h4,h5⟩:=zyb k b;unfold znG zjF;rw [sb];simp only;have hgo:go9 (fun (s:List Int) (x:List UInt8×Int)=>zdY k s x.1 x.2) (zkt k b).1 (zkt k b).2 []=some (if (zkt k b).2=0 then .inl ([]++(zkt k b).1.map (zdW k)) else .inr ((zkt k b).2,[]++(zkt k b).1.map (zdW k))):=by
  rcases h5 with h5| h5
  ·rw [h5];simp only [go9,yF,xY]
   grind [zdY]
  ·exact zDT h5 _ _ _ h3 (by simp;omega)
 grind [zGS,sb,zku,zsi]
theorem zBU (c:Int):∀(ps:List (List UInt8)) (n:Nat),n+ps.length<=1048576->
  go9 (fun (s:Int) (x:List UInt8×Int)=>zfM s x.1 x.2) ps c (n:Int)=some (if c=0 then .inl ((n+ps.length:Nat):Int) else .inr (c,((n+ps.length:Nat):Int)))
 | [],n,hl=>by
  simp only [go9,yz,yw]
  grind [zfM]
 | p::ps,n,hl=>by
  simp only [ye] at hl;have h1:zfM (n:Int) p 0=some (.inl ((n+1:Nat):Int)):=by
   grind [zfM,sb,wrap_i64]
  simp only [go9,h1];rw [zBU c ps (n+1) (by omega)]
  grind
theorem zHK (k:Int) {b:List UInt8} (hb:b.length<=1048576):znF k b=some (((zai k b).1.length:Int),(zai k b).2):=by
 obtain ⟨h1,h2,h3,h4,h5⟩:=zyb k b;unfold znF zjF;rw [sb];simp only;have hgo:=zBU (zkt k b).2 (zkt k b).1 0 (by omega)
 grind [zGS,sb,zku,zsi]
theorem zHF {k:Int} (hk:kNum k=true) {l:List Int} (h:∀w∈l,0<=w/\w<=18446744073709551615) (hl:l.length<=1048576):∀(d i:Nat),i+d=l.length->
  zkl k l ((l.take i).flatMap (sPut k)) i=some (l.flatMap (sPut k)):=by
 intro d
 induction d with
 | zero=>
  intro i hi;refine zvl ?_;unfold zgq
  grind
 | succ d ih=>
  intro i hi;have wS:i<l.length:=by omega
  have hw:=h _ (xB wS);have wY:=zkm (k:=k) hw;have hpre:∀m:List Int,(∀w∈m,0<=w/\w<=18446744073709551615)->(m.flatMap (sPut k)).length<=10*m.length:=by
   intro m hm
   induction m with
   | nil=>simp
   | cons x m ihm=>
    have h1:=zkm (k:=k) (hm x xr);have h2:=ihm (fun w hw=>hm w (xt _ hw))
    grind
  have hp:=hpre (l.take i) (fun w hw=>h w (pX hw));have hti:(l.take i).length=i:=by rw [xO];omega
  have hb:zgq k l ((l.take i).flatMap (sPut k)) i=some (.inl ((l.take (i+1)).flatMap (sPut k),((i+1:Nat):Int))):=by
   unfold zgq;rw [uJ,zK rfl wS,sb,zGH hw,sb,hk,xq rfl];simp only;rw [zcF (by omega),sb,uL,pP wS,yE];simp
  rw [zvk hb]
  grind
theorem zJX (k:Int) {l:List Int} (h:∀w∈l,0<=w/\w<=18446744073709551615) (hl:l.length<=1048576):zqi k l=some (if kNum k then (l.flatMap (sPut k),0) else ([],2)):=by
 unfold zqi;rw [zzJ,sb];cases hk:kNum k with
 | false=>rw [zDQ hk];rfl
 | true=>
  have hlp:=zHF hk h hl l.length 0 (by omega)
  grind [zGT,sb]
abbrev PVw:=zi
def prV (v:Vw):PVw:=⟨v.R,v.Field,v.Run⟩
def zCZ (b:List UInt8) (r:Rec):List UInt8:=(b.drop r.From.toNat).take (r.To.toNat - r.From.toNat)
theorem zye (m:Mes) (he:∀p c,e=some (p,c)->3<=c/\c<=5):∀(l:List Rec) (p c:Int),(vws m e l).2=some (p,c)->3<=c/\c<=6
 | [],p,c,h=>by
  cases e with
  | none=>cases h
  | some q=>
   simp only [vws,qU,yn,yr] at h;have:=he q.1 q.2 rfl;omega
 | r::l,p,c,h=>by
  rw [vws] at h;rcases zel m r.Number r.Wire with hv| ⟨hv,_⟩| ⟨i,run,hv,_⟩
  ·simp only [hv,yn,yr] at h;omega
  ·simp only [hv] at h;exact zye m he l p c h
  ·simp only [hv] at h;exact zye m he l p c h
theorem zNL (b:List UInt8):∀p c,(spl 0 b).2=some (p,c)->3<=c/\c<=5:=fun p c h=>by
 have:=(zKn 0 b p c h).1;omega
theorem zuw (m:Mes) (b:List UInt8):(zaC m b).2.2=0/\(vws m (spl 0 b).2 (spl 0 b).1).2=none/\(zaC m b).1=(vws m (spl 0 b).2 (spl 0 b).1).1/\(zaC m b).2.1=0\/(3<=(zaC m b).2.2/\(zaC m b).2.2<=6)/\(zaC m b).1=[]:=by
 unfold zaC vwR;cases h:(vws m (spl 0 b).2 (spl 0 b).1).2 with
 | none=>exact .inl ⟨rfl,rfl,rfl,rfl⟩
 | some q=>exact .inr ⟨zye m (zNL b) _ q.1 q.2 h,rfl⟩
theorem zyf :∀{l:List Rec},(vws m e l).2=none->e=none/\(vws m e l).1.map (·.R)=l
 | [],h=>by
  cases e with
  | none=>exact ⟨rfl,rfl⟩
  | some q=>simp [vws] at h
 | r::l,h=>by
  rw [vws] at h|-;rcases zel m r.Number r.Wire with hv| ⟨hv,_⟩| ⟨i,run,hv,_⟩
  ·simp only [hv] at h;cases h
  ·simp only [hv] at h|-;have:=zyf h;exact ⟨this.1,by simp [this.2]⟩
  ·simp only [hv] at h|-;have:=zyf h;exact ⟨this.1,by simp [this.2]⟩
theorem zDM :∀{l:List Rec},∀v∈(vws m e l).1,v.R∈l/\vw m v.R.Number v.R.Wire= .inr (v.Field,v.Run)
 | [],v,h=>by cases h
 | r::l,v,h=>by
  rw [vws] at h;rcases zel m r.Number r.Wire with hv| ⟨hv,_⟩| ⟨i,run,hv,_⟩
  ·simp only [hv] at h;cases h
  all_goals
   simp only [hv] at h;rcases xx.1 h with rfl| h
   ·exact ⟨xr,hv⟩
   ·have:=zDM v h;exact ⟨xt _ this.1,this.2⟩
theorem zGP (h:v∈(zaC m b).1):v.R∈(spl 0 b).1/\vw m v.R.Number v.R.Wire= .inr (v.Field,v.Run):=by
 rcases zuw m b with ⟨_,_,e,_⟩| ⟨_,e⟩
 ·rw [e] at h;exact zDM v h
 ·rw [e] at h;cases h
theorem zFj (b:List UInt8) (base:Nat) (l:List UInt8):l=b.drop base->base<=b.length->(spl base l).2=none->(spl base l).1.flatMap (zCZ b)=l:=by
 refine zha (fun base l=>l=b.drop base->base<=b.length->(spl base l).2=none->(spl base l).1.flatMap (zCZ b)=l) ?_ ?_ ?_ base l
 ·intro base _ _ _;rw [zdZ];rfl
 ·intro base l c hl h _ _ _ hn;rw [zfY hl h] at hn;cases hn
 ·intro base l n w a t hl h _ g1 g2 g3 ih hld hbase hn;have wY:l.length=b.length - base:=by rw [hld];simp
  rw [zcz hl h] at hn|-;have ih':=ih (by rw [hld,yh]) (by omega) hn;have hr:zCZ b ⟨n,w,(base:Int),((base+a:Nat):Int),((base+t:Nat):Int)⟩=l.take t:=by
   unfold zCZ;simp only [xD];rw [<-hld,show base+t - base=t by omega]
  rw [xI,hr,ih',qc]
theorem zqW (t:zV):zlb t=some (zbx t.Number t.Wire):=by
 have e:zhQ t.Wire=some (decide (t.Wire=0\/t.Wire=1\/t.Wire=2\/t.Wire=5)):=by
  unfold zhQ;by_cases h0:t.Wire=0
  ·simp [h0]
  by_cases h1:t.Wire=1
  ·simp [h1]
  by_cases h2:t.Wire=2
  ·simp [h2]
  by_cases h5:t.Wire=5
  ·simp [h5]
  simp [h0,h1,h2,h5]
 unfold zlb zbx;rw [e];by_cases h1:1<=t.Number
 ·by_cases h2:t.Number<=536870911
  ·rw [itT (by simpa using h1),itT (by simpa using h2),sb,sb];simp [h1,h2]
  ·rw [itT (by simpa using h1),itF (by simpa using h2),sb];simp [h2]
 ·rw [itF (by simpa using h1),sb];simp [h1]
theorem zOk (w:Nat) (h:w<18446744073709551616):andI .u64 (w:Int) 7=((w%8:Nat):Int):=by
 have e:=zBF (k:= .u64) rfl (a:=w) (b:=7) (by simpa [IntKind.bits] using h) (by simp [IntKind.bits]);have e2:w&&&7=w%8:=uE w 3;rw [e2] at e;exact e
theorem zOC (w:Nat):shrI .u64 (w:Int) 3=((w/8:Nat):Int):=ztk (k:= .u64) (a:=w) (b:=3) (by simp [IntKind.bits])
theorem zKA (b:List UInt8):zql b=some ((⟨(tg b).1,(tg b).2.1⟩:zV),(tg b).2.2.1,(tg b).2.2.2):=by
 obtain ⟨h1,h2,h3,h4,h5,h6,h7⟩:=zgP b;unfold zql tg;rw [zvR,sb];by_cases h:(rd b).2.2=0
 ·rw [itF (by simpa using h)];obtain ⟨w,hw⟩:∃w:Nat,(rd b).1=w:=⟨(rd b).1.toNat,by omega⟩;rw [hw] at h2|-;rw [zOC,zOk w (by omega)];have e0:i64.wrap ((w%8:Nat):Int)=(w:Int)%8:=by rw [uL];omega
  by_cases hg:4294967295<w
  ·have e1:i64.wrap (if (536870912:Int)<((w/8:Nat):Int) then 536870912 else ((w/8:Nat):Int))=536870912:=by
    split
    ·rfl
    ·rw [uL];omega
   rw [e0,e1,zqW,sb];have e2:zbx 536870912 ((w:Int)%8)=false:=by simp [zbx]
   simp only [e2];rw [uG,zqn h (.inl (by rw [hw];omega))]
  ·have e1:i64.wrap (if (536870912:Int)<((w/8:Nat):Int) then 536870912 else ((w/8:Nat):Int))=(w:Int)/8:=by
    rw [xp (by omega),uL];omega
   rw [e0,e1,zqW,sb];simp only;cases ht:zbx ((w:Int)/8) ((w:Int)%8)
   ·rw [uG,zqn h (.inr (by rw [hw];exact ht))]
   ·rw [uH,zBs h (by rw [hw,ht];simp;omega),hw]
 ·rw [itT (by simpa using h),zBr h]
theorem zNX {t:zV} (h:zbx t.Number t.Wire=true):zqm t=some ((tW t.Number t.Wire:Nat):Int):=by
 have hr:=zeC.1 h;obtain ⟨e,wS⟩:=zvc h;unfold zqm;congr 1;obtain ⟨n,hn⟩:∃n:Nat,t.Number=n:=⟨t.Number.toNat,by omega⟩;obtain ⟨w,hw⟩:∃w:Nat,t.Wire=w:=⟨t.Wire.toNat,by omega⟩;have e3:tW t.Number t.Wire=8*n+w:=by omega
 rw [e3,hn,hw,wrap_u64,wrap_u64,yL (by omega) (by omega),yL (by omega) (by omega)];have e4:shlI .u64 (n:Int) 3=((n*8:Nat):Int):=by
  have h3:shlI .u64 (n:Int) 3=((n*8%18446744073709551616:Nat):Int):=by
   simp [shlI,IntKind.bits,wrap_u64]
  rw [h3,qj (by omega)]
 rw [e4,zvM rfl (by simp [IntKind.bits];omega) (by simp [IntKind.bits];omega),pJ,zxk w n 3 (by omega)];congr 1;omega
theorem zMg {t:zV} (b:List UInt8) (hb:b.length<=1099511627776) (h:zbx t.Number t.Wire=true):zoA b t=some (b++enc (tW t.Number t.Wire),0):=by
 obtain ⟨_,wS⟩:=zvc h;unfold zoA;rw [zqW,sb,h,uH,zNX h,sb,zEW b (by omega) hb,sb]
theorem zMh {t:zV} (b:List UInt8) (h:zbx t.Number t.Wire=false):zoA b t=some ([],2):=by
 unfold zoA;rw [zqW,sb,h,uG]
theorem zGF (hw:w=0\/w=1\/w=2\/w=5) (hb:b.length<=1048576):
  zir w b=some (match zec w 0 b with| .inl c=>(0,(if w=0 then (rd b).2.1 else 0),c)| .inr (a,t)=>((a:Int),(t:Int),0)):=by
 obtain ⟨h1,h2,h3,h4,h5,h6,h7⟩:=zgP b;unfold zir zec;rcases hw with rfl| rfl| rfl| rfl
 ·rw [uG,zGD,sb,xq rfl];by_cases h:(rd b).2.2=0
  ·rw [xp (by simpa using h)];simp only [h,xL];congr 3;simp;omega
  ·rw [xq h];rfl
 ·rw [uH,uG,sb,uH,xp (show ¬((1:Int)=0) by omega),xp (show ¬((1:Int)=2) by omega)];simp only;have e:u64.wrap (i64.wrap ((b.length:Int) - 0))=(b.length:Int):=by rw [uL,wrap_u64];omega
  rw [e];by_cases g:b.length<8
  ·rw [uJ,xq (by simpa using g)];rfl
  ·rw [uK,xp (by simpa using g)];rfl
 ·rw [uH,uH,uH,uG,zvR,sb,sb,xp (show ¬((2:Int)=0) by omega),xq (show (2:Int)=2 from rfl)];by_cases h:(rd b).2.2=0
  ·have hk:=h7 h;rw [itF (by simpa using h),xp (show ¬((rd b).2.2≠0) from fun g=>g h)];simp only;have e:u64.wrap (i64.wrap ((b.length:Int) - (rd b).2.1))=(b.length:Int) - (rd b).2.1:=by rw [uL,wrap_u64];omega
   rw [e];by_cases g:(b.length:Int) - (rd b).2.1<(rd b).1
   ·rw [itT (by simpa using g),xq g];rfl
   ·rw [itF (by simpa using g),xp g,wrap_i64 (x:=(rd b).1) (by omega),uL];simp;omega
  ·rw [itT (by simpa using h),xq h];rfl
 ·rw [uH,uH,uG,sb,uH,xp (show ¬((5:Int)=0) by omega),xp (show ¬((5:Int)=2) by omega)];simp only;have e:u64.wrap (i64.wrap ((b.length:Int) - 0))=(b.length:Int):=by rw [uL,wrap_u64];omega
  rw [e];by_cases g:b.length<4
  ·rw [uJ,xq (by simpa using g)];rfl
  ·rw [uK,xp (by simpa using g)];rfl
theorem zBL (w:Int) (k:Nat) (m:List UInt8):zec w k m=match zec w 0 m with| .inl c=> .inl c| .inr (a,t)=> .inr (k+a,k+t):=by
 unfold zec
 repeat' split
 all_goals first
  | rfl
  | (rename_i h1 h2;injection h2 with h3;injection h3 with h4 h5;subst h4 h5;simp<;>omega)
  | simp_all<;>omega
theorem zsN (hb:b.length<=1048576) (at5:Int):zfK b at5=some (zbJ b at5):=by
 unfold zfK zbJ;by_cases h:at5<0\/at5>=b.length
 ·rw [itT (by simpa using h),xq h];rfl
 ·rw [itF (by simpa using h),xp h];obtain ⟨p,rfl⟩:∃p:Nat,at5=p:=⟨at5.toNat,by omega⟩;rw [zpm rfl rfl (by omega),sb,zKA,sb,xD];have hdl:(b.drop p).length=b.length - p:=by simp
  rcases zxU (b.drop p) with ⟨c,ht,hc⟩| ⟨n,w,k,ht,hr,k1,k2,k3,hrd⟩
  ·have e:rec5 (b.drop p)= .inl c:=by unfold rec5;rw [ht,xq (by simp only;omega)]
   rw [e,ht,uJ];rfl
  ·obtain ⟨k,rfl⟩:∃j:Nat,k=j:=⟨k.toNat,by omega⟩
   have e:rec5 (b.drop p)=match zec w k ((b.drop p).drop k) with
    | .inl c=> .inl c
    | .inr p=> .inr (n,w,p.1,p.2):=by unfold rec5;rw [ht];simp<;>rfl
   have hdd:(b.drop p).drop k=b.drop (p+k):=by rw [yh]
   have hml:(b.drop (p+k)).length=b.length - (p+k):=by simp
   have ew:i64.wrap ((p:Int)+k)=((p+k:Nat):Int):=by rw [uL];push_cast;rfl
   rw [e,ht,uI,hdd];simp only [ew];rw [zpm rfl rfl (by omega),sb,zGF (zeC.1 hr).2.2 (by omega),sb,zBL w k];rcases zjV w 0 (b.drop (p+k)) with ⟨c,hc,hc2⟩| ⟨a,t,hc,_,_,hle,_⟩
   ·rw [hc];simp only;rw [uJ];rfl
   ·rw [hc];simp only;rw [uH,uL,uL];simp only [yn,yr,zj.mk.injEq,qo,qn];push_cast;omega
theorem zLi {w:Int} {v:List UInt8} (hw:w=0\/w=1\/w=2\/w=5) (hv:v.length<=1048576):zkj w v=some (zbu w v):=by
 obtain ⟨h1,h2,h3,h4,h5,h6,h7⟩:=zgP v;unfold zkj;by_cases h:w=2
 ·rw [itT (by simpa using h)];subst h;rfl
 ·rw [itF (by simpa using h),zGF hw hv,sb];unfold zec zbu;congr 1;rcases hw with rfl| rfl| rfl| rfl
  ·rw [xq rfl,xq rfl];by_cases hg:(rd v).2.2=0
   ·rw [xp (by simpa using hg)];have e:(((0+(rd v).2.1.toNat:Nat):Int)==(v.length:Int))=decide ((rd v).2.1=v.length):=by rw [zsn];exact qt.2 (by omega)
    simp only [e,hg,qo];rfl
   ·rw [xq hg];simp [hg]
  ·by_cases g:v.length<8
   ·have:v.length≠8:=by omega
    simp [g,this]
   ·by_cases g8:v.length=8
    ·simp [g8]
    ·have:¬((8:Int)=v.length):=by omega
     simp [g,g8,this]
  ·exact absurd rfl h
  ·by_cases g:v.length<4
   ·have:v.length≠4:=by omega
    simp [g,this]
   ·by_cases g8:v.length=4
    ·simp [g8]
    ·have:¬((4:Int)=v.length):=by omega
     simp [g,g8,this]
theorem zCU {n w:Int} {v:List UInt8} (h:zbx n w=true) (hv:v.length<=1048576):(put5 n w v).length<=v.length+20:=by
 obtain ⟨_,wS⟩:=zvc h;have h1:=zkx (v:=tW n w) (by omega);have h2:=zkx (v:=v.length) (by omega);rw [zhP];split<;>omega
theorem zGC {b v:List UInt8} {n w:Int} (hb:b.length<=1048576) (hv:v.length<=1048576):
  zjC b n w v=some (if zbx n w=true/\zbu w v=true then (b++put5 n w v,0) else ([],2)):=by
 unfold zjC;cases h:zbx n w
 ·rw [zMh [] h,sb,uG,sb,uG];rfl
 ·have hp:=zCU h hv;rw [zMg [] (by simp) h,sb,uH,zLi (zeC.1 h).2.2 hv,sb,sb];cases hf:zbu w v
  ·rw [uG];rfl
  ·rw [uH];have e:u64.wrap (v.length:Int)=(v.length:Int):=by rw [wrap_u64,yL (by omega) (by omega)]
   obtain ⟨_,wS⟩:=zvc h;have h1:=zkx (v:=tW n w) (by omega);by_cases hw:w=2
   ·have hl:=zhP n w v;rw [xq hw] at hl;rw [itT (by simpa using hw),e,zEW _ (by omega) (by simp;omega),sb,ztJ (by simp) (by simp;omega),sb];simp [put5,hw]
   ·have hl:=zhP n w v;rw [xp hw] at hl;rw [itF (by simpa using hw),ztJ (by simp) (by simp;omega),sb];simp [put5,hw]
theorem zLX {b v:List UInt8} {n:Int} (hb:b.length<=1048576) (hv:v.length<=1048576):
  zlA b n v=some (if zbx n 2=true then b++put5 n 2 v else b):=by
 unfold zlA;rw [zGC hb hv,sb];have hf:zbu 2 v=true:=rfl;simp only [hf,qn];cases h:zbx n 2
 ·rw [xp (show ¬(false=true) by simp),xp (show ¬(false=true) by simp),uG,ztJ (by simp) (by simp;omega),sb];simp
 ·rw [xq rfl,xq rfl,uH]
abbrev Head:=zU
abbrev Role:=zW
def rol (m:Mes) (h:Head):Role:=match vw m h.number h.wire with
 | .inl c=>⟨0,false,c⟩
 | .inr (i,run)=>⟨i,run,0⟩
theorem zIe (hm:m.Fields.length<=1152921504606846976) (n:Int):zlO m n=some (fldI m n):=by
 unfold zlO zae;have h:=zqA (fun f:Fld=>f.Number==n) m.Fields (fun i=>zM m.Fields n i) (zaZ (by unfold zG;rw [uI])) (fun i hi=>by
  by_cases hp:(m.Fields[i].Number==n)=true
  ·rw [xq hp];exact zaZ (by unfold zG zjc;rw [uJ,zK rfl hi,sb,sb,itT hp])
  ·rw [xp hp];exact zdC (by unfold zG zjc;rw [uJ,zK rfl hi,sb,sb,itF (pq hp),uL];rfl)) m.Fields.length 0 (by omega) (fun j _ h=>by omega)
 have h':zM m.Fields n 0=_:=h;rw [h',sb];unfold fldI zkz;cases m.Fields.findIdx? (fun f:Fld=>f.Number==n) with
 | none=>rfl
 | some i=>rfl
theorem zIf (f:Fld) (w:Int):zlP f w=some (decide (f.Repeated=true/\kNum f.Kind=true/\w=2)):=by
 unfold zlP;cases f.Repeated
 ·simp [sb]
 ·by_cases hw:w=2
  ·subst hw;rw [itT rfl,itT (c:=(2:Int)==2) rfl,zwR,sb,sb];simp_all
  grind
theorem zKG (k w:Int):znT k w=some (decide (¬(zaY k=false\/zaa k≠w))):=by
 unfold znT;rw [zCD,sb];cases zaY k with
 | false=>rfl
 | true=>
  grind
theorem zFt (hm:m.Fields.length<=1152921504606846976) (h:Head):ziy m h=some (rol m h):=by
 unfold ziy rol;rw [zIe hm,sb]
 grind [vw,sb,wrap_i64,zdQ,zK,zbv,zIf,zKG]
def zsl (m:Mes) (met:List (Head×Role)):Prop:=∀h x,mget met h=some x->x=rol m h
theorem zsl.nil (m:Mes):zsl m []:=fun h x g=>by cases g
theorem zsl.put (g:zsl m met) (h:Head):zsl m (mput met h (rol m h)):=fun j x hx=>by
 rw [zft] at hx;by_cases e:j=h
 ·grind
 ·rw [xp e] at hx;exact g j x hx
theorem zJv (hm:m.Fields.length<=1152921504606846976) (hb:b.length<=1048576) (p:Int) (g:zsl m met):
  ∃wZ,znU m b p met=some (prV (zcn m b p).1,(zcn m b p).2,wZ)/\zsl m wZ:=by
 unfold znU zcn;rw [zsN hb,sb];by_cases h:(zbJ b p).2=0
 ·rw [itF (by simpa using h),xp (show ¬((zbJ b p).2≠0) from fun q=>q h)]
  generalize (zbJ b p).1=r
  have key:∃wZ,(if (!(mget met (⟨r.Number,r.Wire⟩:Head)).isSome) then (ziy m (⟨r.Number,r.Wire⟩:Head)>>=fun wQ=>some ((mput met (⟨r.Number,r.Wire⟩:Head) wQ),wQ.field,wQ.run,wQ.e))
    else some (met,((mget met (⟨r.Number,r.Wire⟩:Head)).getD (⟨0,false,0⟩:Role)).field,((mget met (⟨r.Number,r.Wire⟩:Head)).getD (⟨0,false,0⟩:Role)).run,((mget met (⟨r.Number,r.Wire⟩:Head)).getD (⟨0,false,0⟩:Role)).e))=some (wZ,(rol m ⟨r.Number,r.Wire⟩).field,(rol m ⟨r.Number,r.Wire⟩).run,(rol m ⟨r.Number,r.Wire⟩).e)/\zsl m wZ:=by
   cases hg:mget met (⟨r.Number,r.Wire⟩:Head) with
   | none=>
    rw [uG,zFt hm,sb];exact ⟨_,rfl,g.put _⟩
   | some x=>
    rw [uH];refine ⟨met,?_,g⟩;rw [<-g _ x hg];rfl
  obtain ⟨wZ,hk,hM⟩:=key;refine ⟨wZ,?_,hM⟩;rw [hk,sb];unfold rol;rcases zel m r.Number r.Wire with hv| ⟨hv,_⟩| ⟨i,run,hv,_⟩
  ·simp only [hv];rfl
  ·simp only [hv];rfl
  ·simp only [hv];rfl
 ·rw [itT (by simpa using h),xq h];exact ⟨met,rfl,g⟩
theorem zDL (hm:m.Fields.length<=1152921504606846976) (hb:b.length<=1048576) (p:Int):zle m b p=some (prV (zcn m b p).1,(zcn m b p).2):=by
 obtain ⟨wZ,h,_⟩:=zJv hm hb p (zsl.nil m);unfold zle;rw [h,sb]
theorem zMi (m:Mes) (b:List UInt8):(zaC m b).1.length<=b.length:=by
 grind [zuw,zyf,zMb]
def zoL (m:Mes) (g:Int->List UInt8->Nat) (b:List UInt8) (r:Rec):Nat:=match vw m r.Number r.Wire with
 | .inl _=>0
 | .inr (i,run)=>if i<0\/run=true then 0 else if (zr m i).Kind=17 then g (zr m i).Of (valB b r)+1 else 0
def zmo (m:Mes) (g:Int->List UInt8->Nat) (b:List UInt8):List Rec->Nat
 | []=>0
 | r::l=>max (zoL m g b r) (zmo m g b l)
def zjs (s:List Mes):Nat->Int->List UInt8->Nat
 | 0,k,b=>zmo (zo s k) (fun _ _=>0) b (spl 0 b).1
 | d+1,k,b=>zmo (zo s k) (zjs s d) b (spl 0 b).1
theorem zsA :∀{l:List Rec},zmo m g b l<=e↔∀r∈l,zoL m g b r<=e
 | []=>by simp [zmo]
 | r::l=>by
  have ih:=zsA (m:=m) (g:=g) (b:=b) (e:=e) (l:=l);unfold zmo;rw [List.forall_mem_cons,<-ih];omega
theorem zqT (h:zcA m a b r=none) (hc0:c=none↔e=0)
  (hc:∀q,a=some q->∀q',c=some q'->∀k v,q k v=none->(q' k v=none↔g k v+1<=e)):zcA m c b r=none↔zoL m g b r<=e:=by
 unfold zcA at h|-;unfold zoL;cases hv:vw m r.Number r.Wire with
 | inl x=>rw [hv] at h;cases h
 | inr p=>
  obtain ⟨i,run⟩:=p;rw [hv] at h;simp only at h|-;by_cases hi:i<0
  ·grind
  ·rw [xp hi] at h|-;unfold zhF at h|-;by_cases hr:run=true
   ·grind
   ·rw [xp hr] at h|-;rw [xp (show ¬(i<0\/run=true) from fun q=>q.elim hi hr)];by_cases h15:(zr m i).Kind=15/\zgW (valB b r)=false
    ·grind
    ·rw [xp h15] at h|-;by_cases wT:(zr m i).Kind=17
     ·rw [xq wT] at h|-;rw [xq wT];cases a with
      | none=>cases h
      | some q=>
       simp only at h;cases hq:q (zr m i).Of (valB b r) with
       | some z=>rw [hq] at h;cases h
       | none=>
        cases c with
        | none=>
         grind
        | some q'=>
         grind
     grind
theorem zBW (s:List Mes):∀(d e:Nat) (k:Int) (b:List UInt8),e<=d->zN s d k b=none->(zN s e k b=none↔zjs s d k b<=e)
 | 0,e,k,b,he,h=>by
  have:e=0:=by omega
  subst this;refine ⟨fun _=>zsA.2 (fun r hr=>?_),fun _=>h⟩;have h':=(zcU.1 h).1 r hr;exact (zqT (a:=none) (c:=none) h' (by simp) (fun q hq q' hq'=>nomatch hq')).1 h'
 | d+1,0,k,b,he,h=>by
  have h':zcm (zo s k) (some (zN s d)) b (spl 0 b)=none:=h;rw [zcU] at h';show zcm (zo s k) none b (spl 0 b)=none↔zmo _ _ _ _<=0;rw [zcU,zsA];constructor
  ·intro hh r hr;exact (zqT (a:=some (zN s d)) (c:=none) (h'.1 r hr) (by simp) (fun q hq q' hq'=>nomatch hq')).1 (hh.1 r hr)
  ·intro hh;exact ⟨fun r hr=>(zqT (a:=some (zN s d)) (c:=none) (h'.1 r hr) (by simp) (fun q hq q' hq'=>nomatch hq')).2 (hh r hr),h'.2⟩
 | d+1,e+1,k,b,he,h=>by
  have h':zcm (zo s k) (some (zN s d)) b (spl 0 b)=none:=h;rw [zcU] at h';show zcm (zo s k) (some (zN s e)) b (spl 0 b)=none↔zmo _ _ _ _<=e+1;rw [zcU,zsA];have key:∀r∈(spl 0 b).1,zcA (zo s k) (some (zN s e)) b r=none↔zoL (zo s k) (zjs s d) b r<=e+1:=fun r hr=>
   zqT (a:=some (zN s d)) (h'.1 r hr) (by simp) (fun q hq q' hq' k v hk=>by
    cases hq;cases hq';have:=zBW s d e k v (by omega) hk;rw [this];omega)
  exact ⟨fun hh r hr=>(key r hr).1 (hh.1 r hr),fun hh=>⟨fun r hr=>(key r hr).2 (hh r hr),h'.2⟩⟩
abbrev zjn:=zm
def zgX (s:List Mes) (met:List (zjn×PVw)):Prop:=∀h x,mget met h=some x->vw (zo s h.message) h.number h.wire= .inr (x.Field,x.Run)
theorem zgX.nil (s:List Mes):zgX s []:=fun h x g=>by cases g
theorem zgX.put (g:zgX s met) (hv:vw (zo s h.message) h.number h.wire= .inr (v.Field,v.Run)):zgX s (mput met h v):=fun j x hx=>by
 rw [zft] at hx;by_cases e:j=h
 ·grind
 ·rw [xp e] at hx;exact g j x hx
theorem zDR {s:List Mes} {k:Nat} (hk:k<s.length) (hm:(zo s k).Fields.length<=1152921504606846976) {b:List UInt8} (hb:b.length<=1048576) (p:Int) {t:Nat} (ht:t<=b.length) {met:List (zjn×PVw)} (g:zgX s met):
  ∃wZ,zgM ⟨s,b,met⟩ k p t=some (prV (zcn (zo s k) (b.take t) p).1,(zcn (zo s k) (b.take t) p).2,wZ)/\zgX s wZ:=by
 have hbt:(b.take t).length<=1048576:=by rw [xO];omega
 have hcut:cut b 0 (t:Int)=some (b.take t):=by
  rw [zgv (i:=0) (j:=t) rfl rfl (xC _) ht];simp
 have hidx:idx s (k:Int)=some (zo s k):=by rw [zK rfl hk,zcg hk]
 have hvl:=zDL hm hbt p;unfold zgM;simp only;rw [hcut,sb,zsN hbt,sb];unfold zcn at hvl|-;by_cases h:(zbJ (b.take t) p).2=0
 ·rw [itF (by simpa using h),xp (show ¬((zbJ (b.take t) p).2≠0) from fun q=>q h)];rw [xp (show ¬((zbJ (b.take t) p).2≠0) from fun q=>q h)] at hvl
  generalize (zbJ (b.take t) p).1=r at hvl|-
  cases hg:mget met (⟨(k:Int),r.Number,r.Wire⟩:zjn) with
  | none=>
   rw [uG,hidx,sb,hvl,sb];cases hv:vw (zo s k) r.Number r.Wire with
   | inl c=>
    have hc:c=6:=by
     grind [zel]
    subst hc;exact ⟨met,by rw [uG];rfl,g⟩
   | inr q=>
    obtain ⟨i,run⟩:=q;refine ⟨_,?_,g.put (h:=⟨(k:Int),r.Number,r.Wire⟩) (v:=prV ⟨r,i,run⟩) hv⟩;rfl
  | some x=>
   have hv:=g _ _ hg;simp only at hv;rw [uH,hv];exact ⟨met,rfl,g⟩
 ·rw [itT (by simpa using h),xq h];exact ⟨met,rfl,g⟩
def zpy (f:Fld) (run:Bool) (v:List UInt8):Int:=if run=true then (zlp f.Kind v).2 else if f.Kind=15/\zgW v=false then 7 else if f.Kind=17 then 8 else 0
theorem zId (f:Fld) (run:Bool) (hv:v.length<=1048576):zks f run v=some (zpy f run v):=by
 unfold zks zpy
 grind [zai,zlp,zur,sb,zHK]
abbrev Find:=zx
def okR (o:Option (Int×Int)) (a dp:Nat) (r:Find):Prop:=match o with
 | none=>r=⟨(dp:Int),0,0⟩
 | some (p,c)=>r.place=(a:Int)+p/\r.e=c
def zxS (s:List Mes):Nat->zme
 | 0=>none
 | d+1=>some (zN s d)
def ztK (s:List Mes):Nat->Int->List UInt8->Nat
 | 0=>fun _ _=>0
 | d+1=>zjs s d
theorem zHg (s:List Mes) (d:Nat) (k:Int) (b:List UInt8):zN s d k b=zcm (zo s k) (zxS s d) b (spl 0 b):=by cases d<;>rfl
theorem zLa (s:List Mes) (d:Nat) (k:Int) (b:List UInt8):zjs s d k b=zmo (zo s k) (ztK s d) b (spl 0 b).1:=by cases d<;>rfl
theorem zKw (s:List Mes) (d:Nat):∀g,zxS s d=some g->ztF g:=fun g h=>by
 cases d with
 | zero=>cases h
 | succ d=>cases h;exact zjt s d
theorem zLQ (b:List UInt8) (t a x y:Nat) (h:a+y<=t):(((b.take t).drop a).drop x).take (y - x)=(b.take (a+y)).drop (a+x):=by
 rw [yh,qI,qI,qd];congr 1;omega
theorem zIi {s:List Mes} {k:Nat} (hk:k<s.length) (hm:(zo s k).Fields.length<=1152921504606846976) {b:List UInt8} (hb:b.length<=1048576) {d:Int} {a t:Nat} (hat:a<=t) (ht:t<=b.length) {sub:zme} {gd:Int->List UInt8->Nat}
  (hg:∀g,sub=some g->ztF g) {recv:zac->Int->zi->Int->Option (zx×(List (zm×zi)))} {met0:List (zjn×PVw)}
  (hval:∀met,zgX s met->∀(n w i:Int) (run:Bool) (base x y:Nat),vw (zo s k) n w= .inr (i,run)->1<=x->x<=y->a+base+y<=t->
   ∃R wZ,recv ⟨s,b,met⟩ k ⟨⟨n,w,((a+base:Nat):Int),((a+(base+x):Nat):Int),((a+(base+y):Nat):Int)⟩,i,run⟩ d=some (R,wZ)/\zgX s wZ/\
    okR (zcA (zo s k) sub ((b.take t).drop a) ⟨n,w,base,(base+x:Nat),(base+y:Nat)⟩) a (zoL (zo s k) gd ((b.take t).drop a) ⟨n,w,base,(base+x:Nat),(base+y:Nat)⟩) R)
  (base:Nat) (l:List UInt8):∀(met:List (zjn×PVw)) (dp:Nat),zgX s met->l=((b.take t).drop a).drop base->base<=t - a->
  ∃wZ D,zgX s wZ/\zbI d k recv t ⟨s,b,met0⟩ met ((a+base:Nat):Int) dp=some (match zcm (zo s k) sub ((b.take t).drop a) (spl base l) with
   | none=> .inl (wZ,((max dp (zmo (zo s k) gd ((b.take t).drop a) (spl base l).1):Nat):Int))
   | some (p,c)=> .inr (wZ,D,(a:Int)+p,c)):=by
 have hvl:((b.take t).drop a).length=t - a:=by simp;omega
 generalize hvv:(b.take t).drop a=v at hval hvl|-
 refine zha (fun base l=>∀(met:List (zjn×PVw)) (dp:Nat),zgX s met->l=v.drop base->base<=t - a->
  ∃wZ D,zgX s wZ/\zbI d k recv t ⟨s,b,met0⟩ met ((a+base:Nat):Int) dp=some (match zcm (zo s k) sub v (spl base l) with
   | none=> .inl (wZ,((max dp (zmo (zo s k) gd v (spl base l).1):Nat):Int))
   | some (p,c)=> .inr (wZ,D,(a:Int)+p,c))) ?_ ?_ ?_ base l
 ·intro base met dp g hl hbase;have:v.length<=base:=by have:=congrArg List.length hl;simp at this;omega
  refine ⟨met,0,g,?_⟩;rw [zdZ];refine zdE ?_;unfold zax;rw [uK];simp [zcm,zmo]
 ·intro base l c hl h hc met dp g hld hbase;have wS:a+base<t:=by have:=qr.2 hl;rw [hld] at this;simp at this;omega
  have hdr:(b.take t).drop (a+base)=l:=by rw [hld,<-hvv,yh]
  have e:zbJ (b.take t) ((a+base:Nat):Int)=(zrec,c):=by unfold zbJ;rw [xp (by simp;omega),xD,hdr,h]
  have e2:zcn (zo s k) (b.take t) ((a+base:Nat):Int)=(zvw,c):=by unfold zcn;rw [e,xq (by simp only;omega)]
  obtain ⟨wZ,hlk,g'⟩:=zDR hk hm hb ((a+base:Nat):Int) ht g;refine ⟨wZ,0,g',?_⟩;rw [zfY hl h];refine zdE ?_;unfold zax;simp only;rw [uJ,hlk,sb,e2,uJ];simp [zcm]
 ·intro base l n w x y hl h _ g1 g2 g3 ih met dp g hld hbase;have hly:base+y<=t - a:=by rw [hld] at g3;simp at g3;omega
  have hdr:(b.take t).drop (a+base)=l:=by rw [hld,<-hvv,yh]
  have e:zbJ (b.take t) ((a+base:Nat):Int)=(⟨n,w,((a+base:Nat):Int),((a+(base+x):Nat):Int),((a+(base+y):Nat):Int)⟩,0):=by
   unfold zbJ;rw [xp (by simp;omega),xD,hdr,h]
   grind
  obtain ⟨wZ,hlk,g'⟩:=zDR hk hm hb ((a+base:Nat):Int) ht g
  have hfr:zcm (zo s k) sub v (spl base l)=match zcA (zo s k) sub v ⟨n,w,base,(base+x:Nat),(base+y:Nat)⟩ with
    | some p=>some p
    | none=>zcm (zo s k) sub v (spl (base+y) (l.drop y)):=by
   unfold zcm;rw [zcz hl h];simp only [uv];cases zcA (zo s k) sub v ⟨n,w,base,(base+x:Nat),(base+y:Nat)⟩<;>rfl
  have hfd:zmo (zo s k) gd v (spl base l).1=max (zoL (zo s k) gd v ⟨n,w,base,(base+x:Nat),(base+y:Nat)⟩) (zmo (zo s k) gd v (spl (base+y) (l.drop y)).1):=by
   rw [zcz hl h];rfl
  cases hv:vw (zo s k) n w with
  | inl c=>
   have hc:c=6:=by
    grind [zel]
   subst hc;have e2:zcn (zo s k) (b.take t) ((a+base:Nat):Int)=(zvw,6):=by unfold zcn;rw [e];simp only [ne_eq,qb,yu,hv]
   have hst:zcA (zo s k) sub v ⟨n,w,base,(base+x:Nat),(base+y:Nat)⟩=some ((base:Int),6):=by unfold zcA;simp only [hv]
   refine ⟨wZ,0,g',?_⟩;rw [hfr,hst];refine zdE ?_;unfold zax
   grind
  | inr q=>
   obtain ⟨i,run⟩:=q;have e2:zcn (zo s k) (b.take t) ((a+base:Nat):Int)=(⟨⟨n,w,((a+base:Nat):Int),((a+(base+x):Nat):Int),((a+(base+y):Nat):Int)⟩,i,run⟩,0):=by unfold zcn;rw [e];simp only [ne_eq,qb,yu,hv]
   obtain ⟨R,met2,hrv,g2',w6⟩:=hval wZ g' n w i run base x y hv g1 g2 (by omega);have hpr:prV (⟨⟨n,w,((a+base:Nat):Int),((a+(base+x):Nat):Int),((a+(base+y):Nat):Int)⟩,i,run⟩:Vw)=⟨⟨n,w,((a+base:Nat):Int),((a+(base+x):Nat):Int),((a+(base+y):Nat):Int)⟩,i,run⟩:=rfl;cases hst:zcA (zo s k) sub v ⟨n,w,base,(base+x:Nat),(base+y:Nat)⟩ with
   | some pc=>
    obtain ⟨p,c⟩:=pc;have hgd:=zzP hg g1 g2 (b:=v) (base:=base) (by omega) hst;rw [hst] at w6;obtain ⟨o1,o2⟩:=w6;refine ⟨met2,R.depth,g2',?_⟩;rw [hfr,hst];refine zdE ?_;unfold zax
    grind
   | none=>
    rw [hst] at w6;have hok':R=⟨((zoL (zo s k) gd v ⟨n,w,base,(base+x:Nat),(base+y:Nat)⟩:Nat):Int),0,0⟩:=w6;obtain ⟨met3,D,g3',h3⟩:=ih met2 (max dp (zoL (zo s k) gd v ⟨n,w,base,(base+x:Nat),(base+y:Nat)⟩)) g2' (by rw [hld,yh]) hly;refine ⟨met3,D,g3',?_⟩;rw [hfr,hst,hfd,<-Nat.max_assoc,<-h3];refine zmd ?_;unfold zax
    grind
theorem zMr {s:List Mes} (hr:zdA s) {k:Nat} (hk:k<s.length) {b:List UInt8} (hb:b.length<=1048576) {d fuel:Nat} (hd:d<=64) {a t:Nat} (ht:t<=b.length)
  (ih:∀e,d=e+1->∀(q A T:Nat) (met:List (zjn×PVw)),q<s.length->A<=T->T<=b.length->zgX s met->
   ∃R wZ,zaH fuel ⟨s,b,met⟩ q A T e=some (R,wZ)/\zgX s wZ/\okR (zN s e q ((b.take T).drop A)) A (zjs s e q ((b.take T).drop A)) R)
  (met:List (zjn×PVw)) (g:zgX s met) (n w i:Int) (run:Bool) (base x y:Nat) (hv:vw (zo s k) n w= .inr (i,run)) (h1:1<=x) (h2:x<=y) (hy:a+base+y<=t):
  ∃R wZ,zdV (fuel+1) ⟨s,b,met⟩ k ⟨⟨n,w,((a+base:Nat):Int),((a+(base+x):Nat):Int),((a+(base+y):Nat):Int)⟩,i,run⟩ d=some (R,wZ)/\zgX s wZ/\
    okR (zcA (zo s k) (zxS s d) ((b.take t).drop a) ⟨n,w,base,(base+x:Nat),(base+y:Nat)⟩) a (zoL (zo s k) (ztK s d) ((b.take t).drop a) ⟨n,w,base,(base+x:Nat),(base+y:Nat)⟩) R:=by
 have hidx:idx s (k:Int)=some (zo s k):=by rw [zK rfl hk,zcg hk]
 have hun:∀w' v',zdV (fuel+1) w' k v' d=zfm (zaH fuel) (zdV fuel) w' k v' d:=fun _ _=>rfl
 have hvb:valB ((b.take t).drop a) ⟨n,w,base,(base+x:Nat),(base+y:Nat)⟩=(b.take (a+(base+y))).drop (a+(base+x)):=by
  unfold valB
  grind [zLQ]
 rcases zel (zo s k) n w with h'| ⟨h',_⟩| ⟨j,run',h',_,hi⟩
 ·grind
 ·rw [hv] at h';obtain ⟨rfl,rfl⟩:i= -1/\run=false:=by simpa using h'
  refine ⟨⟨0,0,0⟩,met,?_,g,?_⟩
  ·rfl
  ·unfold zcA zoL;simp only [hv];rfl
 ·rw [hv] at h';obtain ⟨rfl,rfl⟩:i=j/\run=run':=by simpa using h'
  have hfm:zr (zo s k) (j:Int)∈(zo s k).Fields:=by rw [zbv hi];exact xB hi
  have hmem:zo s k∈s:=by rw [zcg hk];exact xB hk
  have ka:run=true->(zr (zo s k) (j:Int)).Kind≠17:=fun hh wT=>by
   subst hh;have:=(zBz hv).1;rw [wT] at this;cases this
  have hcut:cut b ((a+(base+x):Nat):Int) ((a+(base+y):Nat):Int)=some ((b.take (a+(base+y))).drop (a+(base+x))):=by
   rw [zgv rfl rfl (by omega) (by omega),qI]
  have wY:((b.take (a+(base+y))).drop (a+(base+x))).length<=1048576:=by simp;omega
  unfold zcA zoL;simp only [hv];rw [xp (show ¬((j:Int)<0) by omega),hvb];have hif:(if ((j:Int)<0\/run=true) then 0 else if (zr (zo s k) (j:Int)).Kind=17 then ztK s d (zr (zo s k) (j:Int)).Of ((b.take (a+(base+y))).drop (a+(base+x)))+1 else 0)=(if (zr (zo s k) (j:Int)).Kind=17 then ztK s d (zr (zo s k) (j:Int)).Of ((b.take (a+(base+y))).drop (a+(base+x)))+1 else 0):=by
   cases run with
   | false=>rw [xp (by simp)]
   | true=>rw [xq (.inr rfl),xp (ka rfl)]
  rw [hif];simp only [hun];unfold zfm;simp only;rw [itF (show ((j:Int)== -1)=false by simp),hidx,sb,zK (i:=j) rfl hi,sb,<-zbv hi]
  generalize hvv:(b.take (a+(base+y))).drop (a+(base+x))=v at wY hcut|-
  have hof:=(hr.fld _ hmem _ hfm).sub
  generalize zr (zo s k) (j:Int)=f at hfm ka hof|-
  by_cases hs:f.Kind=17/\0<d
  ·obtain ⟨e,rfl⟩:∃e,d=e+1:=⟨d - 1,by omega⟩;have hrf:run=false:=by
    cases run with
    | false=>rfl
    | true=>exact absurd hs.1 (ka rfl)
   subst hrf;have hof':=hof hs.1;obtain ⟨q,hq⟩:∃q:Nat,f.Of=q:=⟨f.Of.toNat,by omega⟩;obtain ⟨R,wZ,hR,g',w6⟩:=ih e rfl q (a+(base+x)) (a+(base+y)) met (by omega) (by omega) (by omega) g;rw [hvv] at w6;have hw1:i64.wrap (((e+1:Nat):Int) - 1)=(e:Int):=by rw [uL];omega
   refine ⟨⟨i64.wrap (R.depth+1),R.place,R.e⟩,wZ,?_,g',?_⟩
   ·grind
   ·rw [xq hs.1];unfold zhF;rw [xp (by simp),xp (by rw [hs.1];simp),xq hs.1];simp only [zxS,ztK,hq];cases hf:zN s e q v with
    | none=>
     rw [hf] at w6;have hok':R=⟨((zjs s e q v:Nat):Int),0,0⟩:=w6;have hdl:=(zBW s e e q v (xw _) hf).1 hf;subst hok';show (⟨i64.wrap (((zjs s e q v:Nat):Int)+1),0,0⟩:Find)=_;rw [uL];rfl
    | some pc=>
     obtain ⟨p,c⟩:=pc;rw [hf] at w6;obtain ⟨o1,o2⟩:=w6;refine ⟨?_,o2⟩
     grind
  ·have hno:((f.Kind==17)&&decide (((d:Nat):Int)>0))=false:=by
    grind
   have hlf:zhF f run (zxS s d) ⟨n,w,base,(base+x:Nat),(base+y:Nat)⟩ v=if zpy f run v≠0 then some ((base:Int),zpy f run v) else none:=by
    unfold zhF zpy;by_cases hrt:run=true
    ·grind
    ·rw [xp hrt,xp hrt];by_cases h15:f.Kind=15/\zgW v=false
     ·grind
     ·rw [xp h15,xp h15];by_cases wT:f.Kind=17
      ·have:d=0:=by have:=fun h=>hs ⟨wT,h⟩;omega
       subst this;rw [xq wT,xq wT,xq (by omega)];rfl
      grind
   rw [itF hno,hcut,sb,zId f run wY,sb,hlf];by_cases h0:zpy f run v=0
   ·refine ⟨⟨0,0,0⟩,met,by rw [itF (by simpa using h0)],g,?_⟩;rw [xp (by simpa using h0)];have:f.Kind≠17:=fun wT=>by
     grind [zpy]
    rw [xp this];rfl
   ·refine ⟨⟨0,((a+base:Nat):Int),zpy f run v⟩,met,by rw [itT (by simpa using h0)],g,?_⟩;rw [xq h0];exact ⟨by simp,rfl⟩
theorem zMo (hr:zdA s) (hb:b.length<=1048576):∀(d fuel:Nat),d<=64->2*d+2<=fuel->∀(q A T:Nat) (met:List (zjn×PVw)),q<s.length->A<=T->T<=b.length->zgX s met->
   ∃R wZ,zaH fuel ⟨s,b,met⟩ q A T d=some (R,wZ)/\zgX s wZ/\okR (zN s d q ((b.take T).drop A)) A (zjs s d q ((b.take T).drop A)) R:=by
 have step:∀(d fuel:Nat),d<=64->(∀e,d=e+1->∀(q A T:Nat) (met:List (zjn×PVw)),q<s.length->A<=T->T<=b.length->zgX s met->
   ∃R wZ,zaH fuel ⟨s,b,met⟩ q A T e=some (R,wZ)/\zgX s wZ/\okR (zN s e q ((b.take T).drop A)) A (zjs s e q ((b.take T).drop A)) R)->
   ∀(q A T:Nat) (met:List (zjn×PVw)),q<s.length->A<=T->T<=b.length->zgX s met->
   ∃R wZ,zaH (fuel+2) ⟨s,b,met⟩ q A T d=some (R,wZ)/\zgX s wZ/\okR (zN s d q ((b.take T).drop A)) A (zjs s d q ((b.take T).drop A)) R:=by
  intro d fuel hd ih q A T met hq hAT hT g;have hun:∀w' k' p' t' d',zaH (fuel+2) w' k' p' t' d'=zej (zaH (fuel+1)) (zdV (fuel+1)) w' k' p' t' d':=fun _ _ _ _ _=>rfl
  have hm:(zo s q).Fields.length<=1152921504606846976:=by
   rw [zcg hq];have:=hr.few _ (xB hq);omega
  obtain ⟨wZ,D,g',hl⟩:=zIi (s:=s) hq hm hb (d:=(d:Int)) hAT hT (sub:=zxS s d) (gd:=ztK s d) (zKw s d) (recv:=zdV (fuel+1)) (met0:=met)
   (fun met1 g1 n w i run base x y hv h1 h2 hy=>zMr hr hq hb hd hT ih met1 g1 n w i run base x y hv h1 h2 hy) 0 _ met 0 g rfl (xC _)
  have hl':zbI d q (zdV (fuel+1)) T ⟨s,b,met⟩ met (A:Int) 0=_:=hl;rw [hun,zHg,zLa];unfold zej;simp only;rw [yd,Nat.zero_max] at hl';rw [hl',sb];cases hf:zcm (zo s q) (zxS s d) ((b.take T).drop A) (spl 0 ((b.take T).drop A)) with
  | none=>exact ⟨_,_,rfl,g',rfl⟩
  | some pc=>exact ⟨_,_,rfl,g',rfl,rfl⟩
 intro d
 induction d with
 | zero=>
  intro fuel hd hf;obtain ⟨fuel,rfl⟩:∃z,fuel=z+2:=⟨fuel - 2,by omega⟩;exact step 0 fuel hd (fun e he=>by omega)
 | succ d ih=>
  intro fuel hd hf;obtain ⟨fuel,rfl⟩:∃z,fuel=z+2:=⟨fuel - 2,by omega⟩;refine step (d+1) fuel hd (fun e he=>?_)
  grind
theorem zDK (hw:WS s) (root d:Int):zjK s root d=some (argS s root d):=by
 unfold zjK argS
 grind [zJV,sb]
theorem zLh (hw:WS s) (root:Int) (hb:b.length<=1048576) (d:Int) (hf:130<=fuel):
  ∃R,zlM fuel s root b d=some R/\R.place=(zaT s root b d).1/\R.e=(zaT s root b d).2/\((zaT s root b d).2=0->R.depth=((zjs s d.toNat root b:Nat):Int)):=by
 unfold zlM zaT;rw [zDK hw,sb];by_cases h:argS s root d=0
 ·obtain ⟨hr,h1,h2,h3,h4⟩:=zng h;obtain ⟨k,rfl⟩:∃k:Nat,root=k:=⟨root.toNat,by omega⟩;obtain ⟨e,rfl⟩:∃k:Nat,d=k:=⟨d.toNat,by omega⟩;obtain ⟨R,wZ,hR,_,w6⟩:=zMo hr hb e fuel (by omega) (by omega) k 0 b.length [] (by omega) (xC _) (xw _) (zgX.nil s);have hR':zaH fuel ⟨s,b,[]⟩ k 0 (b.length:Int) e=some (R,wZ):=hR;rw [pV,yd] at w6;rw [itF (by simpa using h),xp (by simpa using h),hR',sb,xD];refine ⟨R,rfl,?_⟩;cases hfi:zN s e k b with
  | none=>
   rw [hfi] at w6;have hok':R=⟨((zjs s e k b:Nat):Int),0,0⟩:=w6
   grind
  | some pc=>
   obtain ⟨p,c⟩:=pc;rw [hfi] at w6;obtain ⟨o1,o2⟩:=w6;have:=zjt s e k b p c hfi
   grind
 ·simp_all
theorem zIc (hw:WS s) (root:Int) (hb:b.length<=1048576) (d:Int) (hf:130<=fuel):zkr fuel s root b d=some (zaT s root b d):=by
 obtain ⟨R,hR,h1,h2,_⟩:=zLh hw root hb d hf;unfold zkr
 grind
theorem zuy (hm:m.Fields.length<=140737488351232) (n:Int):zhY m n=some (match m.Fields.findIdx? (fun f=>f.Number==n) with| some i=>((i:Int),true)| none=>(0,false)):=by
 unfold zhY zfV zbg;have h:=zqA (fun f:Fld=>f.Number==n) m.Fields (fun i=>zI m.Fields n i) (zaL (by unfold zH;rw [uI])) (fun i hi=>by
  by_cases hp:(m.Fields[i].Number==n)=true
  ·rw [xq hp];exact zaL (by unfold zH ziV;rw [uJ,zK rfl hi,sb,sb,itT hp])
  ·rw [xp hp];exact zcZ (by unfold zH ziV;rw [uJ,zK rfl hi,sb,sb,itF (pq hp),uL];rfl)) m.Fields.length 0 (by omega) (fun j _ h=>by omega)
 have h':zI m.Fields n 0=_:=h;rw [h',sb];cases m.Fields.findIdx? (fun f:Fld=>f.Number==n) with
 | none=>rfl
 | some i=>simp [sb];omega
theorem zlg {α:Type} (p:α->Bool) (l:List α) (F:Int->Option (Unit⊕Unit)) (h0:F (l.length:Int)=some (.inl ())) (hs:∀(i:Nat) (h:i<l.length),F (i:Int)=if p l[i]=true then F ((i+1:Nat):Int) else some (.inr ())):
  ∀(c i:Nat),i+c=l.length->F (i:Int)=some (if (l.drop i).all p=true then .inl () else .inr ())
 | 0,i,h=>by
  have e:l.drop i=[]:=yy (by omega);have hi:i=l.length:=by omega
  rw [e,hi,h0];simp
 | c+1,i,h=>by
  rw [hs i (by omega),yl (by omega),yK];cases hp:p l[i]
  ·rw [xp (by simp)];simp
  ·rw [xq rfl,xZ];exact zlg p l F h0 hs c (i+1) (by omega)
theorem zHY (hb:v.Words.length<=140737488351232/\v.Texts.length<=140737488351232/\v.Subs.length<=140737488351232):ziY v=some ((zaq v:Nat):Int):=by
 unfold ziY zaq;rw [wrap_i64 (x:=(v.Words.length:Int)+(v.Texts.length:Int)) (by omega),uL];push_cast;rfl
theorem zBI (hl:l.length<=1152921504606846976) (h:∀t∈l,t.length<=140737488351232):znb l=some (l.all zgW):=by
 unfold znb;have h1:=zlg zgW l (fun i=>zeT l i) (by
   refine zkq ?_;unfold zeS;rw [uI])
  (fun i hi=>by
   have hx:=h _ (xB hi);have e:lenO l[i]=some l[i]:=by unfold lenO;rw [xq (by omega)]
   cases hp:zgW l[i]
   ·rw [xp (by simp)];refine zkq ?_;unfold zeS;rw [uJ,zK rfl hi,sb,e,sb,zur (by omega),sb,hp,uG]
   ·rw [xq rfl];refine zqp ?_;unfold zeS;rw [uJ,zK rfl hi,sb,e,sb,zur (by omega),sb,hp,uH,uL];push_cast;rfl)
  l.length 0 (xL _)
 have h1':zeT l 0=_:=h1;rw [h1',sb,yd];cases l.all zgW<;>rfl
theorem zBH (hl:l.length<=1152921504606846976) (h:∀w∈l,0<=w/\w<=18446744073709551615):ziZ k l=some (l.all fun w=>kNum k&&zbk k w==w):=by
 unfold ziZ;have h1:=zlg (fun w=>kNum k&&zbk k w==w) l (fun i=>zdb k l i) (by
   refine zfT ?_;unfold zbY;rw [uI])
  (fun i hi=>by
   have hx:=h _ (xB hi);cases hk:kNum k
   ·rw [yS,xp (by simp)];refine zfT ?_;unfold zbY;rw [uJ,zK rfl hi,sb,zkT k hx,sb,hk,uG]
   ·rw [xZ];by_cases hp:zbk k l[i]=l[i]
    ·rw [xq (by simpa using hp)];refine zna ?_;unfold zbY;rw [uJ,zK rfl hi,sb,zkT k hx,sb,hk,itF (by simp [hp]),uL];push_cast;rfl
    ·rw [xp (by simpa using hp)];refine zfT ?_;unfold zbY;rw [uJ,zK rfl hi,sb,zkT k hx,sb,hk,itT (by simp [hp])])
  l.length 0 (xL _)
 have h1':zdb k l 0=_:=h1;rw [h1',sb,yd];cases l.all (fun w=>kNum k&&zbk k w==w)<;>rfl
theorem zIW (hm:m.Fields.length<=140737488351232) (hu:u.length<=1048576):zlL m u=some (unkR m u):=by
 unfold zlL unkR;have e:lenO u=some u:=by unfold lenO;rw [xq (by omega)]
 rw [e,sb,zsN hu,sb]
 generalize zbJ u 0=r
 by_cases c1:r.2=0
 ·by_cases c2:r.1.To=(u.length:Int)
  ·rw [itF (by simp [c1,c2]),zuy hm,sb];have hf:fldI m r.1.Number=zkz (fun f:Fld=>f.Number==r.1.Number) m.Fields:=rfl;rw [hf];cases h:m.Fields.findIdx? (fun f:Fld=>f.Number==r.1.Number) with
   | none=>rw [zmm h];simp [c1,c2]
   | some i=>rw [zmn h];simp [c1,c2]
  ·rw [itT (by simp [c2])];simp [c2]
 ·rw [itT (by simp [c1])];simp [c1]
theorem zAb {α:Type} {p:α->Bool} (h:∀x,p x=false) (l:List α):l.all p=l.isEmpty:=by
 cases l with
 | nil=>rfl
 | cons x l=>rw [yK,h];rfl
theorem zpC {α:Type} (l:List α):l.isEmpty=decide (l.length=0):=by cases l<;>simp
theorem zDD {s:List Mes} (hs:zdA s):∀(fuel:Nat),(∀(x:Msg) (k:Nat),k<s.length->2*szM x<fuel->bdM x->smM x->zfl fuel s k x=some (zaA s x k))/\
  (∀(v:Vlu) (f:Fld),2*szV v<fuel->bdV v->smV v->zjI fuel f s v=some (zkd s v f))/\
  ∀(l:List Msg) (k:Int),2*szMs l+1<fuel->l.length<=1152921504606846976->bdMs l->smMs l->zhy fuel s k l=some (decide (0<=k/\k<s.length)&&l.all fun x=>zaA s x k)
 | 0=>⟨fun x k _ h=>by omega,fun v f h=>by omega,fun l k h=>by omega⟩
 | fuel+1=>by
  obtain ⟨ih1,ih2,ih3⟩:=zDD hs fuel;have wY:=hs.len;refine ⟨fun x k hk kg hb hsm=>?_,fun v f kg hb hsm=>?_,fun l k kg hl hb hsm=>?_⟩
  ·obtain ⟨b1,⟨b2,b3⟩,b4⟩:=(zkw x).1 hb;obtain ⟨s1,⟨s2,s3⟩,s4⟩:=(zxN x).1 hsm;rw [zcB] at kg;show zjJ (zhy fuel) (zjI fuel) (zfl fuel) s k x=_;unfold zjJ;rw [zkY,xQ (show (0:Int)<=(k:Int)/\(k:Int)<(s.length:Int) by omega),xZ];have hm:idx s (k:Int)=some (zo s k):=by rw [zK rfl hk,zcg hk]
   have hmm:zo s (k:Int)∈s:=by rw [zcg hk];exact xB hk
   have hfew:=hs.few _ hmm;have hfld:=hs.fld _ hmm
   generalize zo s (k:Int)=m at hm hmm hfew hfld|-
   rw [hm,sb];have hv:∀(c i:Nat) (p:Option Int) (last:Int),i+c=x.Values.length->(p=none/\last=0\/p=some last)->zew (zjI fuel) s x m last i=some (if zfL s (x.Values.drop i) m p=true then .inl () else .inr ()):=by
    intro c
    induction c with
    | zero=>
     intro i p last hi _;have e:x.Values.drop i=[]:=yy (by omega);rw [e,zfL,xq rfl];refine zjk ?_;unfold zeu;rw [uK]
    | succ c ih=>
     intro i p last hi hp;have hil:i<x.Values.length:=by omega
     have hx:idx x.Values (i:Int)=some x.Values[i]:=zK rfl hil;have hmem:=xB hil;have z1:=zeK hmem;have hbv:=zeU.1 b4 _ hmem;have hsv:=znL.1 s4 _ hmem;rw [yl hil,zfL]
     generalize x.Values[i]=v at hx hmem z1 hbv hsv|-
     have hw1:i64.wrap ((i:Int)+1)=((i+1:Nat):Int):=by rw [uL];push_cast;rfl
     have kw:zeu (zjI fuel) s x m last i=if (decide (0<=fldI m v.Number)&&p.all (fun q=>decide (q<v.Number))&&zkd s v (zr m (fldI m v.Number)))=true then some (.inl (v.Number,((i+1:Nat):Int))) else some (.inr (.inr ())):=by
      unfold zeu;rw [uJ,hx,sb,zuy (by omega),sb];have hf:fldI m v.Number=zkz (fun f:Fld=>f.Number==v.Number) m.Fields:=rfl;cases h:m.Fields.findIdx? (fun f:Fld=>f.Number==v.Number) with
      | none=>
       rw [hf,zmm h,uG,sb,uG,xp (by simp)]
      | some j=>
       rw [hf,zmn h];have hjs:=pO.1 h;obtain ⟨hj,hjn,_⟩:=hjs;have hjn':(m.Fields[j]).Number=v.Number:=by simpa using hjn
       have hlo:=(hfld _ (xB hj)).lo;have hfj:idx m.Fields (j:Int)=some (zr m (j:Int)):=by rw [zK rfl hj,zbv hj]
       have hfit:=ih2 v (zr m (j:Int)) (by omega) hbv hsv;have hpl:p.all (fun q=>decide (q<v.Number))=decide (last<v.Number):=by
        rcases hp with ⟨rfl,rfl⟩| rfl
        ·rw [xQ (show (0:Int)<v.Number by omega)];rfl
        ·rfl
       rw [uH,hpl,xQ (show (0:Int)<=(j:Int) by omega),xZ];by_cases wS:last<v.Number
       ·rw [itF (by simpa using wS),xQ wS,xZ];simp only;rw [hfj,sb,hfit,sb,sb];cases hfv:zkd s v (zr m (j:Int))
        ·rw [uG,xp (by simp)]
        ·rw [uH,xq rfl,hw1]
       ·rw [uJ,sb,uG,xT wS,xp (by simp)]
     generalize (decide (0<=fldI m v.Number)&&p.all (fun q=>decide (q<v.Number))&&zkd s v (zr m (fldI m v.Number)))=bb at kw|-
     cases bb
     ·rw [xp (by simp)] at kw;rw [zjk kw,yS,xp (by simp)]
     ·rw [xq rfl] at kw;rw [zpe kw,ih _ (some v.Number) v.Number (by omega) (.inr rfl),xZ]
   have h1:=hv x.Values.length 0 none 0 (xL _) (.inl ⟨rfl,rfl⟩);have h1':zew (zjI fuel) s x m 0 0=_:=h1;rw [yd] at h1';rw [h1',sb];cases hrv:zfL s x.Values m none
   ·rw [xp (by simp)];rfl
   ·rw [xq rfl,xZ];simp only;have h2:=zlg (unkR m) x.Unknown (fun i=>zex x m i) (by
      refine zjl ?_;unfold zev;rw [uI])
     (fun i hi=>by
      have hu:=zIW (m:=m) (by omega) (s3 _ (xB hi));cases hun:unkR m x.Unknown[i]
      ·rw [xp (by simp)];refine zjl ?_;unfold zev;rw [uJ,zK rfl hi,sb,hu,sb,hun,uG]
      ·rw [xq rfl];refine zpf ?_;unfold zev;rw [uJ,zK rfl hi,sb,hu,sb,hun,uH,uL];push_cast;rfl)
     x.Unknown.length 0 (xL _)
    have h2':zex x m 0=_:=h2;rw [h2',sb,yd];cases x.Unknown.all (unkR m)<;>rfl
  ·obtain ⟨_,⟨b1,b1'⟩,⟨b2,b3⟩,b4,b5⟩:=(zhZ v).1 hb;obtain ⟨s1,⟨s2,s3⟩,s4,s5⟩:=(zxO v).1 hsm;rw [zfS] at kg;show zqq (zhy fuel) (zjI fuel) (zfl fuel) f s v=_;unfold zqq;rw [zHY ⟨by omega,by omega,by omega⟩,sb,zsy,zlD];have hmany:zaq v=v.Words.length+v.Texts.length+v.Subs.length:=rfl;by_cases h0:zaq v=0\/1<zaq v/\f.Repeated=false
   ·have hmr:zru f v=false:=by
     unfold zru;rcases h0 with h0| ⟨h0,h1⟩
     ·simp [h0]
     ·rw [h1];simp;omega
    rw [hmr,itT (by
     rcases h0 with h0| ⟨h0,h1⟩
     ·simp [h0]
     ·rw [h1];simp;omega)]
    rfl
   ·have hmr:zru f v=zaY f.Kind:=by
     unfold zru;rw [xQ (show 0<zaq v by omega),xZ];cases hr:f.Repeated
     ·rw [hr] at h0;rw [xQ (show zaq v<=1 by simp at h0;omega)];rfl
     ·simp
    rw [hmr,itF (by
     cases hr:f.Repeated
     ·rw [hr] at h0;simp at h0|-;omega
     ·simp;omega)]
    have hW:kNum f.Kind=false->v.Words.all (zjd f)=decide (v.Words.length=0):=fun h=>by
     rw [zAb (fun w=>by unfold zjd;rw [h];rfl),zpC]
    have hT:f.Kind≠15->f.Kind≠16->v.Texts.all (zkJ f)=decide (v.Texts.length=0):=fun h1 h2=>by
     rw [zAb (fun t=>by unfold zkJ;simp [h1,h2]),zpC]
    have hS:f.Kind≠17->(v.Subs.all fun x=>f.Kind==17&&zaA s x f.Of)=decide (v.Subs.length=0):=fun h=>by
     rw [zAb (fun x=>by simp [h]),zpC]
    by_cases k15:f.Kind=15
    ·rw [itT (by simp [k15]),hW (by rw [k15];rfl),hS (by omega)];have hkr:zaY f.Kind=true:=by rw [k15];rfl
     rw [hkr,xZ];by_cases hl:v.Words.length=0/\v.Subs.length=0
     ·rw [uJ,zBI (by omega) b3,sb,sb,xQ hl.1,xQ hl.2,xZ,qY];have:v.Texts.all (zkJ f)=v.Texts.all zgW:=by
       congr 1;funext t;unfold zkJ;simp [k15]
      rw [this]
     ·rw [uK,sb];congr 1
      symm
      by_cases hw0:v.Words.length=0
      ·rw [xT (show ¬v.Subs.length=0 by omega),q7]
      ·rw [xT hw0,yS,yS]
    ·rw [itF (by simp [k15])];by_cases k16:f.Kind=16
     ·rw [itT (by simp [k16]),hW (by rw [k16];rfl),hS (by omega)];have hkr:zaY f.Kind=true:=by rw [k16];rfl
      have hta:v.Texts.all (zkJ f)=true:=by rw [xF];intro t _;unfold zkJ;simp [k16]
      rw [hkr,hta,xZ,qY];congr 1;rw [<-Bool.decide_and];rw [yI];simp only [qJ,xP];omega
     ·rw [itF (by simp [k16])];by_cases k17:f.Kind=17
      ·rw [itT (by simp [k17]),hW (by rw [k17];rfl),hT k15 k16];have hkr:zaY f.Kind=true:=by rw [k17];rfl
       rw [hkr,xZ];have hsub:(v.Subs.all fun x=>f.Kind==17&&zaA s x f.Of)=v.Subs.all fun x=>zaA s x f.Of:=by
        congr 1;funext x;simp [k17]
       rw [hsub];by_cases hl:v.Words.length=0/\v.Texts.length=0
       ·rw [uJ,ih3 v.Subs f.Of (by omega) (by omega) b5 s5,sb,sb,xQ hl.1,xQ hl.2,xZ,xZ];by_cases hof:0<=f.Of/\f.Of<s.length
        ·rw [xQ hof,xZ]
        ·rw [xT hof,yS];congr 1
         symm
         have kl:v.Subs≠[]:=fun e=>h0 (.inl (by rw [hmany,hl.1,hl.2,e];rfl))
         obtain ⟨x,l,hxl⟩:=uB kl;rw [hxl,yK,zkY,xT hof];rfl
       ·rw [uK,sb];congr 1
        symm
        by_cases hw0:v.Words.length=0
        ·rw [xT (show ¬v.Texts.length=0 by omega),q7,yS]
        ·rw [xT hw0,yS,yS]
      ·rw [itF (by simp [k17]),hT k15 k16,hS k17];have hck:(v.Words.all fun w=>kNum f.Kind&&zbk f.Kind w==w)=v.Words.all (zjd f):=rfl;by_cases hl:v.Texts.length=0/\v.Subs.length=0
       ·rw [uJ,zBH (by omega) b1',sb,sb,xQ hl.1,xQ hl.2,qY,qY,hck];congr 1;cases hkn:kNum f.Kind
        ·rw [hW hkn,xT (show ¬v.Words.length=0 by omega),q7]
        ·have hkr:zaY f.Kind=true:=by
          rw [zff] at hkn;unfold zaY;simp;omega
         rw [hkr,xZ]
       ·rw [uK,sb];congr 1
        symm
        by_cases hw0:v.Texts.length=0
        ·rw [xT (show ¬v.Subs.length=0 by omega),q7]
        ·rw [xT hw0,q7,yS]
  ·show zic (zhy fuel) (zjI fuel) (zfl fuel) s k l=_;unfold zic;by_cases hk:0<=k/\k<s.length
   ·rw [uK,xQ hk,xZ];obtain ⟨n,rfl⟩:∃n:Nat,k=n:=⟨k.toNat,by omega⟩;have h1:=zlg (fun x=>zaA s x n) l (fun i=>zds l n (zfl fuel) s i) (by
      refine ziv ?_;unfold zdr;rw [uI])
     (fun i hi=>by
      have hm:=xB hi;have z1:=zeJ hm;have hr:=ih1 l[i] n (by omega) (by omega) (zfx.1 hb _ hm) (znK.1 hsm _ hm);cases hp:zaA s l[i] n
      ·rw [xp (by simp)];refine ziv ?_;unfold zdr;rw [uJ,zK rfl hi,sb,hr,sb,hp,uG]
      ·rw [xq rfl];refine znN ?_;unfold zdr;rw [uJ,zK rfl hi,sb,hr,sb,hp,uH,uL];push_cast;rfl)
     l.length 0 (xL _)
    have h1':zds l n (zfl fuel) s 0=_:=h1;rw [h1',sb,yd];cases l.all (fun x=>zaA s x n)<;>rfl
   ·rw [uJ,xT hk];rfl
theorem zFo (root:Int) (hf:2*szM x<fuel) (hw:WS s) (hb:bdM x) (hsm:smM x) (hd:dM x<=131072):zsc fuel s root x=some (zkC s&&zaA s x root):=by
 unfold zsc;rw [zDK hw,sb];by_cases h0:argS s root 0=0
 ·obtain ⟨hr,g1,g2,_,_⟩:=zng h0;have hrs:zkC s=true:=by
   unfold argS at h0;cases h:zkC s with
   | true=>rfl
   | false=>rw [h,xq rfl] at h0;cases h0
  obtain ⟨k,rfl⟩:∃k:Nat,root=k:=⟨root.toNat,by omega⟩;rw [itT (by simp [h0]),zDA (by omega) hb hd,sb,uG,(zDD hr fuel).1 x k (by omega) hf hb hsm,sb,sb,hrs,xZ]
 ·rw [itF (by simp [h0]),sb];congr 1
  symm
  cases hrs:zkC s
  ·rfl
  ·rw [xZ,zkY];unfold argS at h0;rw [xp (by rw [hrs];simp)] at h0;rw [xT (by split at h0<;>omega)];rfl
theorem zLS (hk:kNum k=true) (hf:zbu (zaa k) v=true):pcs k v=([v],0):=by
 have hk':=zff.1 hk;have hu:zja k v= .inr v.length/\v≠[]:=by
  unfold zja;unfold zbu zaa at hf;by_cases h9:k<9
  ·rw [xp (show ¬15<=k by omega),xp (show ¬12<=k by omega),xp (show ¬9<=k by omega),xq rfl] at hf;obtain ⟨h1,h2⟩:=yq hf;obtain ⟨b1,b2,b3,b4,b5,b6,b7⟩:=zgP v;have hp:=b7 h1;rw [xq h9,xp (by simpa using h1),h2];refine ⟨by simp,fun e=>?_⟩;subst e;simp at h2;omega
  ·rw [xp h9];by_cases h12:k<12
   ·rw [xp (show ¬15<=k by omega),xp (show ¬12<=k by omega),xq (show 9<=k by omega),xp (by omega)] at hf;have hf':=yq hf;have hl:v.length=4:=by omega
    rw [xq h12,xp (by omega),hl];exact ⟨rfl,fun e=>by rw [e] at hl;simp at hl⟩
   ·rw [xp (show ¬15<=k by omega),xq (show 12<=k by omega),xp (by omega)] at hf;have hf':=yq hf;have hl:v.length=8:=by omega
    rw [xp h12,xp (by omega),hl];exact ⟨rfl,fun e=>by rw [e] at hl;simp at hl⟩
 rw [zhO hu.2 hu.1,pV,pr,ziQ]
theorem zqZ (hk:kNum k=true) (hf:zbu (zaa k) v=true):zai k v=([(zlG k v).1],0):=by
 unfold zai;rw [xp (by rw [hk];simp),zLS hk hf,xq rfl,ziu hk hf];rfl
def zco (f:Fld) (T:List Th):List Th:=if f.Repeated=true then T else T.drop (T.length - 1)
def valT (g:Int->List UInt8->Msg) (f:Fld) (T:List Th):Vlu:=
 if f.Kind=17 then ⟨f.Number,[],[],if f.Repeated=true then T.map fun t=>g f.Of t.val else [g f.Of (T.flatMap (·.val))]⟩
 else if f.Kind=15\/f.Kind=16 then ⟨f.Number,[],(zco f T).map (·.val),[]⟩
 else ⟨f.Number,(zco f T).flatMap (fun t=>(zai f.Kind t.val).1),[],[]⟩
theorem znX (g:Int->List UInt8->Msg) (f:Fld) (i:Int):∀(l:List Th) (a:zce),accF g f i a l=(l.filter fun t=>t.fi==i).foldl (stp g f) a
 | [],a=>rfl
 | t::l,a=>by
  rw [accF,yJ];by_cases h:t.fi=i
  ·rw [xq h,xq (by simpa using h),yc];exact znX g f i l _
  ·rw [xp h,xp (by simpa using h)];exact znX g f i l _
def OkF (f:Fld) (t:Th):Prop:=(t.run=true->kNum f.Kind=true/\f.Repeated=true)/\(t.run=false->zaY f.Kind=true/\zbu (zaa f.Kind) t.val=true)
theorem zue :zco f (t::u::T)=if f.Repeated=true then t::u::T else zco f (u::T):=by
 unfold zco;simp_all
theorem zCc (g:Int->List UInt8->Msg) (hk:kNum f.Kind=true):∀(T:List Th) (a:zce),T≠[]->(∀t∈T,OkF f t)->
  T.foldl (stp g f) a=(a.1,true,(if f.Repeated=true then a.2.2.1 else [])++(zco f T).flatMap (fun t=>(zai f.Kind t.val).1),(if f.Repeated=true then a.2.2.2.1 else []),a.2.2.2.2)
 | [],a,h,_=>absurd rfl h
 | [t],a,_,ht=>by
  obtain ⟨h1,h2⟩:=ht t xr;have hp:zco f [t]=[t]:=by unfold zco;simp
  rw [hp,yc,pU]
  grind [stp,sb,wrap_i64,zqZ]
 | t::u::T,a,_,ht=>by
  obtain ⟨h1,h2⟩:=ht t xr;have hst:stp g f a t=(a.1,true,(if f.Repeated=true then a.2.2.1 else [])++(zai f.Kind t.val).1,(if f.Repeated=true then a.2.2.2.1 else []),a.2.2.2.2):=by
   grind [stp,sb,wrap_i64,zqZ]
  rw [yc,hst,zCc g hk (u::T) _ (by simp) fun x hx=>ht x (xt _ hx),zue];cases hr:f.Repeated
  ·simp
  ·have hp:zco f (u::T)=u::T:=by unfold zco;rw [xq hr]
   rw [hp];simp
theorem zza (g:Int->List UInt8->Msg) (hk:kNum f.Kind=false) (wT:f.Kind≠17):∀(T:List Th) (a:zce),T≠[]->(∀t∈T,OkF f t)->
  T.foldl (stp g f) a=(a.1,true,(if f.Repeated=true then a.2.2.1 else []),(if f.Repeated=true then a.2.2.2.1 else [])++(zco f T).map (·.val),a.2.2.2.2)
 | [],a,h,_=>absurd rfl h
 | [t],a,_,ht=>by
  obtain ⟨h1,h2⟩:=ht t xr;have hp:zco f [t]=[t]:=by unfold zco;simp
  have hr:t.run=false:=by
   grind
  rw [hp,yc,pU];unfold stp
  grind
 | t::u::T,a,_,ht=>by
  obtain ⟨h1,h2⟩:=ht t xr;have hr:t.run=false:=by
   grind
  have hst:stp g f a t=(a.1,true,(if f.Repeated=true then a.2.2.1 else []),(if f.Repeated=true then a.2.2.2.1 else [])++[t.val],a.2.2.2.2):=by
   unfold stp
   grind
  rw [yc,hst,zza g hk wT (u::T) _ (by simp) fun x hx=>ht x (xt _ hx),zue];cases hr:f.Repeated
  ·simp
  ·have hp:zco f (u::T)=u::T:=by unfold zco;rw [xq hr]
   rw [hp];simp
theorem zyZ (g:Int->List UInt8->Msg) (wT:f.Kind=17) (hr:f.Repeated=true):∀(T:List Th) (a:zce),(∀t∈T,OkF f t)->(T≠[]\/a.2.1=true)->
  T.foldl (stp g f) a=(a.1,true,a.2.2.1,a.2.2.2.1,a.2.2.2.2++T.map fun t=>g f.Of t.val)
 | [],a,_,h=>by
  grind
 | t::T,a,ht,_=>by
  obtain ⟨h1,h2⟩:=ht t xr;have hrn:t.run=false:=by
   cases hr:t.run
   ·rfl
   ·have:=(h1 hr).1;rw [wT] at this;cases this
  have hst:stp g f a t=(a.1,true,a.2.2.1,a.2.2.2.1,a.2.2.2.2++[g f.Of t.val]):=by
   unfold stp;rw [hrn,xp (by simp),xp (by rw [wT];decide),xq ⟨wT,hr⟩,xq hr,xq hr]
  rw [yc,hst,zyZ g wT hr T _ (fun x hx=>ht x (xt _ hx)) (.inr rfl)];simp
theorem zCe (g:Int->List UInt8->Msg) (wT:f.Kind=17) (hr:f.Repeated=false):∀(T:List Th) (a:zce),(∀t∈T,OkF f t)->T≠[]->
  T.foldl (stp g f) a=(a.1++T.flatMap (·.val),true,[],[],a.2.2.2.2)
 | [],a,_,h=>absurd rfl h
 | [t],a,ht,_=>by
  obtain ⟨h1,h2⟩:=ht t xr;have hrn:t.run=false:=by
   grind
  rw [yc,pU];unfold stp;rw [hrn,xp (by simp),xp (by rw [wT];decide),xp (by rw [hr];simp),xq wT,hr];simp
 | t::u::T,a,ht,_=>by
  obtain ⟨h1,h2⟩:=ht t xr;have hrn:t.run=false:=by
   grind
  have hst:stp g f a t=(a.1++t.val,true,[],[],a.2.2.2.2):=by
   unfold stp;rw [hrn,xp (by simp),xp (by rw [wT];decide),xp (by rw [hr];simp),xq wT,hr];simp
  rw [yc,hst,zCe g wT hr (u::T) _ (fun x hx=>ht x (xt _ hx)) (by simp)];simp
theorem zOb (g:Int->List UInt8->Msg) (hkr:zaY f.Kind=true) (hT:T≠[]) (ht:∀t∈T,OkF f t):valO g f (T.foldl (stp g f) acc0)=valT g f T:=by
 unfold valT;by_cases wT:f.Kind=17
 ·rw [xq wT];cases hr:f.Repeated
  ·rw [zCe g wT hr T acc0 ht hT];unfold valO;rw [xq ⟨rfl,wT,hr⟩];simp [acc0]
  ·rw [zyZ g wT hr T acc0 ht (.inl hT)];unfold valO;rw [xp (by rw [hr];simp)];simp [acc0]
 ·rw [xp wT];by_cases hx:f.Kind=15\/f.Kind=16
  ·rw [xq hx,zza g (by unfold kNum;simp;omega) wT T acc0 hT ht];unfold valO;simp only;rw [xp (show ¬(True/\f.Kind=17/\f.Repeated=false) from fun h=>wT h.2.1)];cases f.Repeated<;>simp [acc0]
  ·have hk:kNum f.Kind=true:=by unfold zaY at hkr;unfold kNum;simp at hkr|-;omega
   rw [xp hx,zCc g hk T acc0 hT ht];unfold valO;simp only;rw [xp (show ¬(True/\f.Kind=17/\f.Repeated=false) from fun h=>wT h.2.1)];cases f.Repeated<;>simp [acc0]
def At14 (b:List UInt8) (L:List Vw):Prop:=∀t∈L,0<=t.R.From/\t.R.From<t.R.At/\t.R.At<=t.R.To/\t.R.To<=b.length
theorem zKZ (h:At14 b L) (ht:t∈L):cut b t.R.At t.R.To=some (valB b t.R):=by
 obtain ⟨r1,r2,r3,r4⟩:=h t ht;obtain ⟨x,hx1⟩:∃x:Nat,t.R.At=x:=⟨t.R.At.toNat,by omega⟩;obtain ⟨y,hy1⟩:∃x:Nat,t.R.To=x:=⟨t.R.To.toNat,by omega⟩;rw [zgv hx1 hy1 (by omega) (by omega)];unfold valB;rw [hx1,hy1];simp only [xD]
theorem zFG (h:At14 b L) (ht:t∈L):cut b t.R.From t.R.To=some (rawB b t.R):=by
 obtain ⟨r1,r2,r3,r4⟩:=h t ht;obtain ⟨x,hx1⟩:∃x:Nat,t.R.From=x:=⟨t.R.From.toNat,by omega⟩;obtain ⟨y,hy1⟩:∃x:Nat,t.R.To=x:=⟨t.R.To.toNat,by omega⟩;rw [zgv hx1 hy1 (by omega) (by omega)];unfold rawB;rw [hx1,hy1];simp only [xD]
def kn14 (acc:List (Int×List PVw)) (v:Vw):List (Int×List PVw):=if v.Field= -1 then acc else mput acc v.R.Number ((mget acc v.R.Number).getD []++[prV v])
def zeV (L:List Vw) (n:Int):List Vw:=L.filter fun v=>decide (v.Field≠ -1/\v.R.Number=n)
theorem zAM {κ ν:Type} [DecidableEq κ] (m:List (κ×ν)) (k j:κ) (x:ν):j∈(mput m k x).map Prod.fst↔j∈m.map Prod.fst\/j=k:=by
 rw [zjy];cases h:mget m k with
 | none=>simp
 | some y=>
  simp only;exact ⟨.inl,fun h'=>h'.elim id fun e=>e▸zJx h⟩
theorem zGb (n:Int):∀(L:List Vw) (acc:List (Int×List PVw)),n∈(L.foldl kn14 acc).map Prod.fst↔n∈acc.map Prod.fst\/∃v∈L,v.Field≠ -1/\v.R.Number=n
 | [],acc=>by simp
 | v::L,acc=>by
  rw [yc,zGb n L]
  grind [kn14,sb,wrap_i64,zAM]
theorem zCC:∀(L:List Vw) (acc:List (Int×List PVw)),(acc.map Prod.fst).Nodup->((L.foldl kn14 acc).map Prod.fst).Nodup
 | [],acc,h=>h
 | v::L,acc,h=>by
  rw [yc];refine zCC L _ ?_
  grind [kn14,sb,wrap_i64,zon]
theorem zCN {κ ν:Type} [DecidableEq κ] (m:List (κ×ν)) (k:κ) (x:ν):(mput m k x).length<=m.length+1:=by
 have h:=congrArg List.length (zjy m k x)
 grind
theorem zED:∀(L:List Vw) (acc:List (Int×List PVw)),(L.foldl kn14 acc).length<=acc.length+L.length
 | [],acc=>by simp
 | v::L,acc=>by
  rw [yc];have h:=zED L (kn14 acc v);have h2:(kn14 acc v).length<=acc.length+1:=by
   grind [kn14,sb,wrap_i64,zCN]
  grind
theorem zCy {L:List Vw} (hwf:∀v∈L,v.Field≠ -1->(Lit.int .i64 v.R.Number).wf=true) (hL:L.length<=1048576):
  ∃ks,znt (L.foldl kn14 [])=some ks/\ks.Pairwise (·<·)/\∀n,n∈ks↔∃v∈L,v.Field≠ -1/\v.R.Number=n:=by
 have wY:=zED L [];have hnd:=zCC L [] (by simp);have hk:=fun n=>zGb n L []
 generalize L.foldl kn14 []=K at wY hnd hk
 refine ⟨(K.map Prod.fst).mergeSort fun x y=>decide (x<=y),?_,?_,fun n=>?_⟩
 ·have hall:(K.all fun p=>(Lit.int .i64 p.1).wf)=true:=by
   rw [xF];intro p hp;obtain h| ⟨v,hv,hf,hn⟩:=(hk p.1).1 (qF hp)
   ·simp at h
   grind
  have hl:K.length*8<=140737488355328:=by rw [yz] at wY;omega
  unfold znt;rw [zFk]
  grind
 ·have hp:=List.mergeSort_perm (K.map Prod.fst) fun x y=>decide (x<=y)
  have hs:=List.pairwise_mergeSort (le:=fun x y:Int=>decide (x<=y)) (fun a b c h k=>by simp at*;omega) (fun a b=>by simp;omega) (K.map Prod.fst);have hnd':=hp.nodup_iff.2 hnd
  generalize (K.map Prod.fst).mergeSort (fun x y=>decide (x<=y))=ks at hs hnd'
  refine (List.Pairwise.and hs hnd').imp fun {a b} h=>?_
  grind
 ·simp_all
theorem zuV:∀(l k:List Int),l.Pairwise (·<·)->k.Pairwise (·<·)->(∀w,w∈l↔w∈k)->l=k
 | [],[],_,_,_=>rfl
 | [],y::k,_,_,h=>absurd ((h y).2 xr) (by simp)
 | x::l,[],_,_,h=>absurd ((h x).1 xr) (by simp)
 | x::l,y::k,hl,hk,h=>by
  have hl':=xX.1 hl;have hk':=xX.1 hk;have hxy:x=y:=by
   rcases xx.1 ((h x).1 xr) with h1| h1
   ·exact h1
   ·rcases xx.1 ((h y).2 xr) with h2| h2
    ·exact h2.symm
    grind
  subst hxy;congr 1;refine zuV l k hl'.2 hk'.2 fun w=>?_
  grind
theorem zwx {α:Type} (vo:Int->α) (p:α->Bool) (met:Int->Bool):∀(o:List Int),(∀i∈o,met i=false->p (vo i)=false)->(o.map vo).filter p=((o.filter met).map vo).filter p
 | [],_=>rfl
 | i::o,h=>by
  have ih:=zwx vo p met o fun j hj=>h j (xt _ hj)
  grind
theorem zyW:∀(T:List Th),(T.flatMap (·.val)).length+T.length<=wt T
 | []=>by simp [wt]
 | t::T=>by have:=zyW T;rw [xI,xy,ye,wt];omega
theorem zsx {s:List Mes} {e:Nat} {k:Int}:∀(l:List (List UInt8)),(∀v∈l,zN s e k v=none)->zN s e k l.flatten=none
 | [],_=>by rw [List.flatten_nil];exact zpz s e k
 | v::l,h=>by
  rw [qi];exact (zhu s e k l.flatten (h v xr)).2 (zsx l fun u hu=>h u (xt _ hu))
theorem zHy {s:List Mes} (hs:zdA s) {d k:Nat} {b:List UInt8} (hk:k<s.length) (hfi:zN s d k b=none) {ks:List Int} (hkp:ks.Pairwise (·<·)) (hkm:∀n,n∈ks↔∃v∈(zaC (zo s (k:Int)) b).1,v.Field≠ -1/\v.R.Number=n):
  (∀n∈ks,∃i:Nat,i<(zo s (k:Int)).Fields.length/\(zr (zo s (k:Int)) i).Number=n/\fldI (zo s (k:Int)) n=i/\zeV (zaC (zo s (k:Int)) b).1 n≠[]/\(∀v∈zeV (zaC (zo s (k:Int)) b).1 n,v.Field=i)/\
   ∀t∈(zeV (zaC (zo s (k:Int)) b).1 n).map (thOf b),OkF (zr (zo s (k:Int)) i) t/\OkT s d (zo s (k:Int)) t/\t.fi=i)/\
  (ofM s k b).Values=((ks.map fun n=>valT (ofM s) (zr (zo s (k:Int)) (fldI (zo s (k:Int)) n)) ((zeV (zaC (zo s (k:Int)) b).1 n).map (thOf b))).filter fun v=>decide (0<zaq v))/\(ofM s k b).Unknown=unkO ((zaC (zo s (k:Int)) b).1.map (thOf b)):=by
 have hmm:zo s (k:Int)∈s:=by rw [zcg hk];exact xB hk
 have hfld:=hs.fld _ hmm;have w6:=zDB hfi;have hris:=ztl hs hmm;have hat9:=fun {i:Int} (h0:0<=i) (h1:i<(zo s (k:Int)).Fields.length)=>zsz hs hmm h0 h1
 rw [zjA];have hvk:∀v∈(zaC (zo s (k:Int)) b).1,v.Field= -1\/0<=v.Field/\v.Field<(zo s (k:Int)).Fields.length/\fldI (zo s (k:Int)) v.R.Number=v.Field/\(zr (zo s (k:Int)) v.Field).Number=v.R.Number:=by
  intro v hv;have h:=(zGP hv).2;rcases zel (zo s (k:Int)) v.R.Number v.R.Wire with h1| ⟨h1,_⟩| ⟨i,run,h1,h2,h3⟩
  ·grind
  ·grind
  ·rw [h] at h1;simp only [Sum.inr.injEq,yr] at h1;refine .inr ⟨by omega,by omega,by rw [h2,h1.1],?_⟩;rcases zdQ (zo s (k:Int)) v.R.Number with ⟨g1,_⟩| ⟨j,hj,g1,g2,_⟩
   ·omega
   ·rw [h1.1,<-h2,g1,zbv hj,g2]
 have hths:ths (zo s (k:Int)) b=(zaC (zo s (k:Int)) b).1.map (thOf b):=rfl;rw [hths] at w6|-
 generalize zo s (k:Int)=m at hmm hfld w6 hris hat9 hvk hkm|-
 generalize (zaC m b).1=L at w6 hvk hkm|-
 let vo:Int->Vlu:=fun i=>valO (ofM s) (zr m i) (accF (ofM s) (zr m i) i acc0 (L.map (thOf b)))
 have hby:∀{i:Int},0<=i->i<m.Fields.length->(zeV L (zr m i).Number).map (thOf b)=(L.map (thOf b)).filter fun t=>t.fi==i:=fun {i} h0 h1=>by
  unfold zeV;rw [List.filter_map];congr 1;refine List.filter_congr fun v hv=>?_
  show decide (v.Field≠ -1/\v.R.Number=(zr m i).Number)=(v.Field==i)
  grind
 have hmem:∀{i:Int},0<=i->i<m.Fields.length->∀t∈(zeV L (zr m i).Number).map (thOf b),OkF (zr m i) t/\OkT s d m t/\t.fi=i:=fun {i} h0 h1 t ht=>by
  rw [hby h0 h1,yb] at ht;have hfi':t.fi=i:=by simpa using ht.2
  have ho:=w6 t ht.1;refine ⟨⟨fun hr=>?_,fun hr=>?_⟩,ho,hfi'⟩
  ·have:=ho.run (by omega) hr
   grind
  ·have:=ho.one (by omega) hr
   grind
 have hvoT:∀{i:Int},0<=i->i<m.Fields.length->zeV L (zr m i).Number≠[]->vo i=valT (ofM s) (zr m i) ((zeV L (zr m i).Number).map (thOf b)):=fun {i} h0 h1 kl=>by
  have hT:=hby h0 h1;have hm:=hmem h0 h1;obtain ⟨j,rfl⟩:∃j:Nat,i=j:=⟨i.toNat,by omega⟩;have hjl:j<m.Fields.length:=by omega
  have hkr:zaY (zr m (j:Int)).Kind=true:=by rw [zbv hjl];exact (hfld _ (xB hjl)).kind
  show valO _ _ (accF _ _ _ _ _)=_;rw [znX,<-hT,zOb _ hkr (by simpa using kl) fun t ht=>(hm t ht).1]
 have hkn:∀n∈ks,∃i:Nat,i<m.Fields.length/\(zr m (i:Int)).Number=n/\fldI m n=i/\zeV L n≠[]/\∀v∈zeV L n,v.Field=i:=fun n hn=>by
  obtain ⟨v,hv,hf,hnn⟩:=(hkm n).1 hn;obtain ⟨g0,g1,g2,g3⟩:=(hvk v hv).resolve_left hf;obtain ⟨j,hj⟩:∃j:Nat,v.Field=j:=⟨v.Field.toNat,by omega⟩;refine ⟨j,by omega,by rw [<-hj,g3,hnn],by rw [<-hnn,g2,hj],fun e=>?_,fun u hu=>?_⟩
  ·have:v∈zeV L n:=yb.2 ⟨hv,by simp [hf,hnn]⟩;rw [e] at this;cases this
  ·obtain ⟨hu1,hu2⟩:=yb.1 hu;obtain ⟨q1,q2⟩:=yq hu2;have:=(hvk u hu1).resolve_left q1;rw [<-this.2.2.1,q2,<-hnn,g2,hj]
 refine ⟨fun n hn=>?_,?_,rfl⟩
 ·obtain ⟨i,h1,h2,h3,h4,h5⟩:=hkn n hn;refine ⟨i,h1,h2,h3,h4,h5,?_⟩;have:=hmem (i:=(i:Int)) (by omega) (by omega);rw [h2] at this;exact this
 have e0:(ks.map fun n=>valT (ofM s) (zr m (fldI m n)) ((zeV L n).map (thOf b)))=ks.map fun w=>vo (fldI m w):=qa fun n hn=>by
  obtain ⟨i,h1,h2,h3,h4,h5⟩:=hkn n hn;have:=hvoT (i:=(i:Int)) (by omega) (by omega) (by rw [h2];exact h4);rw [h3,this,h2]
 rw [e0];show ((zch (zaR m) m.Fields.length).map vo).filter (fun v=>decide (0<zaq v))=_;rw [zwx vo (fun v=>decide (0<zaq v)) (fun i=> !(zeV L (zr m i).Number).isEmpty) _ fun i hi hme=>?_]
 ·have hsub:∀i∈(zch (zaR m) m.Fields.length).filter (fun i=> !(zeV L (zr m i).Number).isEmpty),0<=i/\i<m.Fields.length:=fun i hi=>zdU.1 (yb.1 hi).1
  have hks2:((zch (zaR m) m.Fields.length).filter (fun i=> !(zeV L (zr m i).Number).isEmpty)).map (zaR m)=ks:=by
   refine zuV _ _ ?_ hkp fun w=>?_
   ·grind
   ·rw [xz];constructor
    ·rintro ⟨i,hi,rfl⟩;obtain ⟨hi1,hi2⟩:=yb.1 hi;have kl:zeV L (zr m i).Number≠[]:=by
      grind
     obtain ⟨v0,r0,hv0⟩:=uB kl;have hv0m:v0∈zeV L (zr m i).Number:=by rw [hv0];exact xr
     obtain ⟨q1,q2⟩:=yb.1 hv0m;obtain ⟨q3,q4⟩:=yq q2;exact (hkm _).2 ⟨v0,q1,q3,q4⟩
    ·intro hw;obtain ⟨i,h1,h2,h3,h4,_⟩:=hkn w hw;exact ⟨i,yb.2 ⟨zdU.2 ⟨by omega,by omega⟩,by rw [h2];simpa using h4⟩,h2⟩
  have e1:(ks.map fun w=>vo (fldI m w))=((zch (zaR m) m.Fields.length).filter (fun i=> !(zeV L (zr m i).Number).isEmpty)).map vo:=by
   rw [<-hks2,yU];refine qa fun i hi=>?_
   show vo (fldI m (zaR m i))=vo i;rw [zpF,hat9 (hsub i hi).1 (hsub i hi).2]
  rw [e1]
 ·obtain ⟨h0,h1⟩:=zdU.1 hi;have hbe:zeV L (zr m i).Number=[]:=by simpa using hme
  have hT:=hby h0 h1;rw [hbe] at hT;have hvo:vo i=valO (ofM s) (zr m i) acc0:=by
   show valO _ _ (accF _ _ _ _ _)=_;rw [znX,<-hT];rfl
  rw [hvo];rfl
structure zyI (l:List zag):Prop where
 sorted:l.Pairwise (fun a b=>zdx a b=true)
 full:∀w∈l,w≠[]
 anti:∀v∈l,∀w∈l,v<+:w->v=w
theorem zyI.of (h:zyI l):ofW l=l:=
 zva _ _ (zEQ l) h.sorted fun w=>by
  rw [zGs];exact ⟨fun k=>k.1,fun hw=>⟨hw,h.full w hw,fun v hv _ hp=>h.anti v hv w hw hp⟩⟩
theorem zyI.filter (h:zyI l) (p:zag->Bool):zyI (l.filter p):=
 ⟨h.sorted.filter p,fun w hw=>h.full w (yb.1 hw).1,fun v hv w hw=>h.anti v (yb.1 hv).1 w (yb.1 hw).1⟩
structure Fo (pre acc:List zag):Prop where
 mask:zyI acc
 has:∀v,hasB acc v=hasB pre v
 mem:∀a∈acc,a∈pre
abbrev zOg:=List (zMU×Int)
structure Trie (t:zOg) (A:List zag) (P:List (zag×Int)):Prop where
 root:([],0)∈P
 same:∀p∈P,∀q∈P,(p.2=q.2↔p.1=q.1)
 ids:∀p∈P,0<=p.2/\p.2<=t.length
 keys:∀(i n:Int),(t.length:Int)<i->mget t ⟨i,n⟩=none
 leaf:∀p∈P,∀n,p.1++[n]∈A->mget t ⟨p.2,n⟩=some (-1)
 node:∀p∈P,∀n,∀q∈P,q.1=p.1++[n]->mget t ⟨p.2,n⟩=some q.2
 none:∀p∈P,∀n,p.1++[n]∉A->(∀q∈P,q.1≠p.1++[n])->mget t ⟨p.2,n⟩=none
 clo:∀q∈P,∀p n,q.1=p++[n]->∃i,(p,i)∈P
 comp:∀a∈A,∀p,p<+:a->p≠a->∃i,(p,i)∈P
 anti:∀v∈A,∀w∈A,v<+:w->v=w
 full:∀a∈A,a≠[]
section
end
def UW (w:List zag):Prop:=w.length<=4194304/\∀x∈w,x.length<=4194304
theorem UW.of (h:UW w):UW (ofW w):=⟨yi (zLN w) h.1,fun x hx=>h.2 x (zGs.1 hx).1⟩
theorem UW.filter (h:UW w) (p:zag->Bool):UW (w.filter p):=⟨yi (uw _ _) h.1,fun x hx=>h.2 x (yb.1 hx).1⟩
structure Ok15 (fuel:Nat) (x:Msg):Prop where
 b:bdM x
 s:smM x
 z:2*szM x<fuel
 d:szM x<=131072
theorem Ok15.dm (h:Ok15 fuel x):dM x<=131072:=by have:=zOm x;have:=h.d;omega
theorem Ok15.right {fuel:Nat} {x:Msg} (h:Ok15 fuel x) {s:List Mes} (hw:WS s) (root:Int):zsc fuel s root x=some (zkC s&&zaA s x root):=zFo root h.z hw h.b h.s h.dm
theorem Ok15.copy {fuel:Nat} {x:Msg} (h:Ok15 fuel x):zuq fuel x=some x:=zKx (by have:=h.z;omega) h.b h.dm
def jv15 (s:List Mes) (a:Msg) (k:Int) (v:Vlu):Vlu:=zgH s v (look a.Values v.Number) (zr (zo s k) (fldI (zo s k) v.Number))
structure Jm (s:List Mes) (a:Msg) (k:Int) (t:List Vlu) (q:List (Int×Vlu)):Prop where
 nd:(q.map Prod.fst).Nodup
 get:∀n,mget q n=match look t n with
  | some v=>some (jv15 s a k v)
  | none=>look a.Values n
 len:q.length<=a.Values.length+t.length
theorem Jm.put (h:Jm s a k t q) (hn:look t v.Number=none):Jm s a k (t++[v]) (mput q v.Number (jv15 s a k v)):=by
 refine ⟨zon h.nd _ _,fun n=>?_,?_⟩
 ·rw [zft,zpM];by_cases e:n=v.Number
  ·subst e;rw [xq rfl,hn];simp only;rw [zcW,xq rfl]
  ·rw [xp e,h.get];cases hl:look t n with
   | some u=>rfl
   | none=>
    simp only;rw [zcW,xp (fun e'=>e e'.symm)];rfl
 ·have:=zCN q v.Number (jv15 s a k v);have:=h.len;rw [xy,qk];omega
structure Ok16 (fuel:Nat) (x:Msg):Prop where
 b:bdM x
 s:smM x
 z:2*szM x<fuel
 w:wgM x<=30000
end Go.Proofs.YtaglemhabeipfaaGreat
