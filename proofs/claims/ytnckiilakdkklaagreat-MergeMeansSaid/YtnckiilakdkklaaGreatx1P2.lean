/-
  What the plain functions are. No condition.
-/
import Derived.Test.YtnckiilakdkklaaGreatx1S1
import Derived.Test.YtnckiilakdkklaaGreatx1P1
import Derived.Test.YtnckiilakdkklaaGreatx1K2
set_option autoImplicit true
set_option relaxedAutoImplicit true
namespace Go.Proofs.YtnckiilakdkklaaGreat
open Go.IntKind (i64 u32 u64)
open Go
set_option linter.unusedVariables false
theorem zpK (hx:x.Values.length*80<=140737488351232):∀(c i:Nat) (done:Bool) (out:List Vlu),i+c=x.Values.length->out.length<=i+(if done=true then 1 else 0)->
  ∃q,zdj v x done i out=some q/\(if q.1=true then q.2 else q.2++[v])=out++putL v done (x.Values.drop i)/\q.2.length<=x.Values.length+1/\(q.1=false->q.2.length<=x.Values.length)
 | 0,i,done,out,hi,ho=>by
  have e:x.Values.drop i=[]:=yu (by omega);refine ⟨(done,out),?_,?_,?_,?_⟩
  ·refine zlP ?_;unfold zcg;rw [ud]
  ·rw [e,putL];cases done<;>simp
  ·simp only;split at ho<;>omega
  ·intro h;simp only at h|-;subst h;simp at ho;omega
 | c+1,i,done,out,hi,ho=>by
  have hil:i<x.Values.length:=by omega
  have hd:x.Values.drop i=x.Values[i]::x.Values.drop (i+1):=yd hil;have hxi:idx x.Values (i:Int)=some x.Values[i]:=zS rfl hil;rw [hd,putL]
  generalize x.Values[i]=u at hxi|-
  have hob:out.length<=i+1:=by split at ho<;>omega
  have hw:i64.wrap ((i:Int)+1)=((i+1:Nat):Int):=by rw [ue];push_cast;rfl
  obtain ⟨q,hq,hqe,hql,hqf⟩:=zpK hx c (i+1) (done|| decide (v.Number<=u.Number)) (out++((if done=false/\v.Number<=u.Number then [v] else [])++(if u.Number=v.Number then [] else [u]))) (by omega) (by
   simp only [xz];cases done
   ·by_cases h:v.Number<=u.Number
    ·rw [xn ⟨rfl,h⟩];simp only [h,pp,qz,yi] at ho|-;simp at ho;split<;>simp<;>omega
    ·rw [xm (fun hh=>h hh.2)];simp only [h,pq,qt,qu,yc] at ho|-;split<;>simp<;>omega
   ·rw [xm (by simp)];simp only [Bool.true_or,yi] at ho|-;split<;>simp<;>omega)
  refine ⟨q,?_,?_,hql,hqf⟩
  ·rw [<-hq];refine zlO ?_;unfold zcg;have hg:(if (!done)=true then (idx x.Values (i:Int)>>=fun x2=>some (decide (x2.Number>=v.Number))) else some false)=some (decide (done=false/\v.Number<=u.Number)):=by
    cases done
    ·rw [p7,hxi,sb];simp
    ·rw [p8];simp
   rw [uc,hg,sb,hw,hxi];have hp:((if decide (done=false/\v.Number<=u.Number)=true then (app 80 out ([v]:List za)>>=fun v3=>some (true,v3)) else some (done,out)):Option (Bool×List za))=some (done|| decide (v.Number<=u.Number),out++(if done=false/\v.Number<=u.Number then [v] else [])):=by
    by_cases hc:done=false/\v.Number<=u.Number
    ·rw [itT (by simpa using hc),xn hc,zbn (by simp only [yh];omega),sb,hc.1];simp [hc.2]
    ·rw [itF (by simpa using hc),xm hc,yl];cases done
     ·have:¬v.Number<=u.Number:=fun hh=>hc ⟨rfl,hh⟩
      simp [this]
     ·rfl
   rw [hp,sb,sb];by_cases hu:u.Number=v.Number
   ·rw [itF (by simpa using hu),xn hu,yl]
   ·rw [itT (by simpa using hu),xm hu,sb,zbn (by
     simp only [xz,yh];have:(if done=false/\v.Number<=u.Number then [v] else ([]:List Vlu)).length<=1:=by split<;>simp
     omega),sb,yr]
  ·rw [hqe];simp only [yr]
theorem zzU (hx:x.Values.length*80<=140737488351232) (hv:v.Words.length<=140737488351232/\v.Texts.length<=140737488351232/\v.Subs.length<=140737488351232):zbX x v=some (putM x v):=by
 unfold zbX putM;rw [zuY hv,sb];have e:(((zay v:Nat):Int)==0)=decide (zay v=0):=by
  by_cases h:zay v=0
  ·simp [h]
  ·have:((zay v:Nat):Int)≠0:=by omega
   simp [h]
 rw [e];obtain ⟨q,hq,hqe,hql,hqf⟩:=zpK (v:=v) hx x.Values.length 0 (decide (zay v=0)) [] (xP _) (xx _);have hq':zdj v x (decide (zay v=0)) 0 []=some q:=hq;rw [yb,xR] at hqe;rw [hq',sb,<-hqe];cases hd:q.1
 ·rw [p7,zbn (by have:=hqf hd;simp only [yh];omega),sb];rfl
 ·rw [p8];rfl
theorem zox {s:List Mes} {k:Int} {m:Mes} (hm:idx s k=some m) (hfew:m.Fields.length<=200) {rec:List ze->Int->Msg->Msg->Option Msg} {a b:Msg} (hsa:smM a) (hsb:smM b)
  (ha:∀v∈a.Values,0<=fldI m v.Number/\zhN s v (zy m (fldI m v.Number))) (hb:∀v∈b.Values,0<=fldI m v.Number/\zhN s v (zy m (fldI m v.Number)))
  (hrec:∀f∈m.Fields,f.Kind=17->∀v∈b.Values,∀x∈v.Subs,∀u∈a.Values,∀y∈u.Subs,zbA s x f.Of=true->zbA s y f.Of=true->rec s f.Of y x=some (zhS s x y f.Of)):
  ∀(c i:Nat) (ws:List Vlu) (u:List Str),i+c=b.Values.length->ws.length<=a.Values.length+i->zcL a b rec k s i ws u=some (zgY s (b.Values.drop i) a m ws,u)
 | 0,i,ws,u,hi,hacc=>by
  have e:b.Values.drop i=[]:=yu (by omega);rw [e,zgY];refine zly ?_;unfold zbP;rw [ud]
 | c+1,i,ws,u,hi,hacc=>by
  obtain ⟨sa1,⟨sa2,sa3⟩,sa4⟩:=(zoA a).1 hsa;obtain ⟨sb1,⟨sb2,sb3⟩,sb4⟩:=(zoA b).1 hsb;have hil:i<b.Values.length:=by omega
  have hd:b.Values.drop i=b.Values[i]::b.Values.drop (i+1):=yd hil;have hx:idx b.Values (i:Int)=some b.Values[i]:=zS rfl hil;have hvm:=xy hil;rw [hd,zgY]
  generalize b.Values[i]=v at hx hvm|-
  obtain ⟨hf0,hfit⟩:=hb v hvm;obtain ⟨sv1,⟨sv2,sv3⟩,sv4,sv5⟩:=(zoB v).1 (zib.1 sb4 v hvm);have hw:i64.wrap ((i:Int)+1)=((i+1:Nat):Int):=by rw [ue];push_cast;rfl
  rcases zfJ m v.Number with ⟨hf,_⟩| ⟨j,hj,hf,_⟩
  ·omega
  have hfj:idx m.Fields (j:Int)=some (zy m (j:Int)):=by rw [zS rfl hj,zcp hj]
  have hfm:zy m (j:Int)∈m.Fields:=by rw [zcp hj];exact xy hj
  rw [hf] at hfit|-;have ih:=zox hm hfew hsa hsb ha hb hrec c (i+1) (putM ⟨ws,[]⟩ (zht s v (look a.Values v.Number) (zy m (j:Int)))).Values u (by omega) (by have:=zzN ws [] (zht s v (look a.Values v.Number) (zy m (j:Int)));omega);rw [<-ih];refine zlx ?_;unfold zbP;rw [uc,hx,sb,hm,sb,sb,zsQ (by omega),sb,hf,hfj,sb,zDQ (by omega),sb,hw];have haw:∀w∈a.Values,w.Number=v.Number->zhN s w (zy m (j:Int)):=fun w hw hn=>by
   have:=(ha w hw).2;rw [hn,hf] at this;exact this
  generalize zy m (j:Int)=f at hfit hfm haw|-
  have hput:∀w:Vlu,w.Words.length<=4194304->w.Texts.length<=4194304->w.Subs.length<=4194304->zbX ⟨ws,u⟩ w=some ⟨(putM ⟨ws,[]⟩ w).Values,u⟩:=fun w h1 h2 h3=>by
   rw [zzU (by simp only;omega) ⟨by omega,by omega,by omega⟩];rfl
  rcases zAU a v.Number with ⟨hg,hl⟩| ⟨p,hp,hg,hl⟩
  ·rw [hg,p9,hl,zgy,hput v (by omega) (by omega) (by omega),sb]
  ·have hxa:idx a.Values (p:Int)=some a.Values[p]:=zS rfl hp;have hum:=xy hp;rw [hg,itT (by simp),hxa,sb,hl,zgy];have hun:=(zgc hl).1
   generalize a.Values[p]=w at hum hun|-
   obtain ⟨sw1,⟨sw2,sw3⟩,sw4,sw5⟩:=(zoB w).1 (zib.1 sa4 w hum);simp only;by_cases hr:f.Repeated=true
   ·rw [itT hr,xn hr,zbn (by simp;omega),sb,zbn (by simp;omega),sb,zbn (by simp;omega),sb,zbn (by simp;omega),sb,zbn (by simp;omega),sb,zbn (by simp;omega),sb];simp only [xR];rw [hput _ (by simp;omega) (by simp;omega) (by simp;omega),sb]
   ·rw [itF (by simpa using hr),xm hr];by_cases ww:f.Kind=17
    ·rw [itT (by simpa using ww),xn ww];obtain ⟨x,hvx,hxr⟩:=hfit.msg ww (by simpa using hr);obtain ⟨y,hwy,hyr⟩:=(haw w hum hun).msg ww (by simpa using hr);have hws:w.Subs=[y]:=by rw [hwy]
     have hvs:v.Subs=[x]:=by rw [hvx]
     have hj:=hrec f hfm ww v hvm x (by rw [hvs];exact xo) w hum y (by rw [hws];exact xo) hxr hyr;have i1:idx [y] 0=some y:=rfl;have i2:idx [x] 0=some x:=rfl;rw [hws,hvs,i1,sb,i2,sb,hj,sb,zjn];rw [hput _ (by simp) (by simp) (by simp),sb]
    ·rw [itF (by simpa using ww),xm ww,hput v (by omega) (by omega) (by omega),sb]
theorem zrd {s:List Mes} (hs:zgh s):∀(fuel:Nat) (b a:Msg) (k:Int),szM b<fuel->smM a->smM b->zbA s a k=true->zbA s b k=true->zcZ fuel s k a b=some (zhS s b a k)
 | 0,b,a,k,h,_,_,_,_=>by omega
 | fuel+1,b,a,k,hf,hsa,hsb,hra,hrb=>by
  obtain ⟨k0,k1,_,ra,_⟩:=zci hra;obtain ⟨_,_,_,rb,_⟩:=zci hrb;obtain ⟨n,rfl⟩:∃n:Nat,k=n:=⟨k.toNat,by omega⟩;have hn:n<s.length:=by omega
  have hm:idx s (n:Int)=some (zA s n):=by rw [zS rfl hn,zdJ hn]
  have hmm:zA s (n:Int)∈s:=by rw [zdJ hn];exact xy hn
  obtain ⟨sa1,⟨sa2,sa3⟩,sa4⟩:=(zoA a).1 hsa;obtain ⟨sb1,⟨sb2,sb3⟩,sb4⟩:=(zoA b).1 hsb;rw [zeF] at hf
  have hl:=zox hm (hs.few _ hmm) hsa hsb (fun v hv=>⟨(ra v hv).1,zfs (ra v hv).2⟩) (fun v hv=>⟨(rb v hv).1,zfs (rb v hv).2⟩) (rec:=zcZ fuel)
   (fun f hfm ww v hv x hx u hu y hy hxr hyr=>by
    have s1:=zfX hv;have s2:=zfW hx;rw [ziI] at s1;exact zrd hs fuel x y f.Of (by omega) (zkt.1 ((zoB u).1 (zib.1 sa4 u hu)).2.2.2 y hy) (zkt.1 ((zoB v).1 (zib.1 sb4 v hv)).2.2.2 x hx) hyr hxr) b.Values.length 0 a.Values a.Unknown (xP _) (xt _)
  have hl':zcL a b (zcZ fuel) n s 0 a.Values a.Unknown=_:=hl;show zea (zcZ fuel) s n a b=_;unfold zea;rw [hl',sb,zbn (by simp;omega),sb,zbn (by simp;omega),sb,zkc,yb,xR]
mutual
/-- Kept or left by ways. -/
def zqZ (s:List Mes):Msg->Int->List zgs->Bool->Msg
 | ⟨vs,u⟩,k,w,keep=>⟨zhU s vs (zA s k) w keep,if keep=true then [] else u⟩
def zhU (s:List Mes):List Vlu->Mes->List zgs->Bool->List Vlu
 | [],_,_,_=>[]
 | v::l,m,w,keep=>zuR s v (zy m (fldI m v.Number)) w keep++zhU s l m w keep
def zuR (s:List Mes):Vlu->Fld->List zgs->Bool->List Vlu
 | ⟨n,a,t,sub⟩,f,w,keep=>if zmX w n=false/\zlG w n≠[]/\f.Kind=17/\f.Repeated=false then [⟨n,[],[],zoq s sub f.Of (zlG w n) keep⟩]
  else if zmX w n=keep then [⟨n,a,t,sub⟩] else []
def zoq (s:List Mes):List Msg->Int->List zgs->Bool->List Msg
 | [],_,_,_=>[]
 | x::_,k,w,keep=>[zqZ s x k w keep]
end
theorem zuP (s:List Mes) (x:Msg) (k:Int) (w:List zgs) (keep:Bool):zqZ s x k w keep=⟨zhU s x.Values (zA s k) w keep,if keep=true then [] else x.Unknown⟩:=by cases x;rw [zqZ]
theorem zra (s:List Mes) (v:Vlu) (f:Fld) (w:List zgs) (keep:Bool):zuR s v f w keep=if zmX w v.Number=false/\zlG w v.Number≠[]/\f.Kind=17/\f.Repeated=false then [⟨v.Number,[],[],zoq s v.Subs f.Of (zlG w v.Number) keep⟩]
  else if zmX w v.Number=keep then [v] else []:=by cases v;rw [zuR]
theorem zDH (s:List Mes) (v:Vlu) (f:Fld) (w:List zgs) (keep:Bool):(zuR s v f w keep).length<=1:=by
 rw [zra];split;simp;split<;>simp
theorem zAY (hv:zhN s v f) (ho:∀u,o=some u->zhN s u f)
  (ih:∀x∈v.Subs,∀y:Msg,zbA s x f.Of=true->zbA s y f.Of=true->zbA s (zhS s x y f.Of) f.Of=true):zhN s (zht s v o f) f:=by
 have hm:=zuu hv ho;rw [zgy] at hm|-;cases o with
 | none=>exact hv
 | some u=>
  have hu:=ho u rfl;simp only at hm|-;by_cases hr:f.Repeated=true
  ·rw [xn hr] at hm|-;refine ⟨hm,(fun h=>by rw [hr] at h;cases h),hv.kind,fun w hw=>?_,fun w hw=>?_,fun w hw=>?_⟩
   ·rcases xu.1 hw with hw| hw
    ·exact hu.words w hw
    ·exact hv.words w hw
   ·rcases xu.1 hw with hw| hw
    ·exact hu.texts w hw
    ·exact hv.texts w hw
   ·rcases xu.1 hw with hw| hw
    ·exact hu.subs w hw
    ·exact hv.subs w hw
  ·rw [xm hr] at hm|-;by_cases ww:f.Kind=17
   ·rw [xn ww] at hm|-;obtain ⟨x,hvx,hx⟩:=hv.msg ww (by simpa using hr);obtain ⟨y,huy,hy⟩:=hu.msg ww (by simpa using hr);have hvs:v.Subs=[x]:=by rw [hvx]
    have hus:u.Subs=[y]:=by rw [huy]
    rw [hvs,hus,zjn];refine ⟨by simp [zay],(fun _=>by simp [zay]),hv.kind,(fun w hw=>nomatch hw),(fun w hw=>nomatch hw),fun w hw=>?_⟩;rw [xY.1 hw];exact ⟨ww,ih x (by rw [hvs];exact xo) y hx hy⟩
   ·rw [xm ww] at hm|-;exact hv
theorem zsI :∀(N:Nat) (b a:Msg) (k:Int),szM b<=N->zbA s a k=true->zbA s b k=true->zbA s (zhS s b a k) k=true
 | 0,b,a,k,h,_,_=>by rw [zeF] at h;omega
 | N+1,b,a,k,hsz,ha,hb=>by
  obtain ⟨k0,k1,ra,ha',ua⟩:=zci ha;obtain ⟨_,_,rb,hb',ub⟩:=zci hb;obtain ⟨j1,j2⟩:=zrU ha hb;rw [zeF] at hsz;refine zwZ k0 k1 j1 (fun v hv=>?_) fun u hu=>?_
  ·have hl:=zuB j1 hv;rw [j2] at hl;cases hbl:look b.Values v.Number with
   | none=>
    rw [hbl] at hl;simp only at hl;exact ha' v (zgc hl).2
   | some w=>
    rw [hbl] at hl;simp only at hl;obtain ⟨wn,wm⟩:=zgc hbl;obtain ⟨w0,wf⟩:=hb' w wm;rw [wn] at w0 wf;have hfw:=zfs wf;have s1:=zfX wm;rw [ziI] at s1;refine ⟨w0,zCe ?_⟩;have hvj:zht s w (look a.Values v.Number) (zy (zA s k) (fldI (zA s k) v.Number))=v:=yJ hl;have:=zAY (o:=look a.Values v.Number) hfw (fun u hu=>by
     obtain ⟨un,um⟩:=zgc hu;have:=zfs (ha' u um).2;rw [un] at this;exact this) fun x hx y hxr hyr=>by
      have:=zfW hx;exact zsI N x y _ (by omega) hyr hxr
    rw [hvj] at this;exact this
  ·rw [zkc] at hu;rcases xu.1 hu with hu| hu
   ·exact ua u hu
   ·exact ub u hu
structure zJu (s:List Mes) (d:Nat) (k:Int) (p:List UInt8) (t:Th):Prop where
 ok:zU s d k p=none
 th:ths (zA s k) p=[t]
theorem pieces {s:List Mes} {d:Nat} {k:Int}:∀{ps:List (List UInt8×Th)},(∀p∈ps,zJu s d k p.1 p.2)->zU s d k (ps.flatMap (·.1))=none/\ths (zA s k) (ps.flatMap (·.1))=ps.map (·.2)
 | [],_=>by
  have h:=znX s d k;refine ⟨h,?_⟩;rw [List.flatMap_nil,zvt h,zey];rfl
 | p::ps,h=>by
  obtain ⟨h1,h2⟩:=pieces fun q hq=>h q (xp _ hq)
  have hp:=h p xo;rw [xQ];refine ⟨(zgL s d k _ hp.ok).2 h1,?_⟩;rw [zvs hp.ok h1,hp.th,h2];rfl
theorem zJq {m:Mes} {e:Option (Nat×Int)} (b:List UInt8):∀(base:Nat) (l:List UInt8),l=b.drop base->base<=b.length->(((vws m e (spl base l).1).1.map (thOf b)).map fun t=>t.raw.length).sum<=l.length:=by
 intro base l;refine zgQ (fun base l=>l=b.drop base->base<=b.length->(((vws m e (spl base l).1).1.map (thOf b)).map fun t=>t.raw.length).sum<=l.length) ?_ ?_ ?_ base l
 ·intro base _ _;rw [zey];simp [vws]
 ·intro base l c hl h _ _ _;rw [zgr hl h];simp [vws]
 ·intro base l n w a t hl h _ g1 g2 g3 ih hld hbase;have wz:l.length=b.length - base:=by rw [hld];simp
  have ih':=ih (by rw [hld,xU]) (by omega);rw [zdv hl h,vws];cases hv:vw m n w with
  | inl c=>simp
  | inr p=>
   simp only [xC,yQ,thOf,xN] at ih'|-;have:(rawB b ⟨n,w,(base:Int),((base+a:Nat):Int),((base+t:Nat):Int)⟩).length=t:=by unfold rawB;simp;omega
   rw [this];omega
theorem zJj (m:Mes) (b:List UInt8):((ths m b).map fun t=>t.raw.length).sum<=b.length:=by
 unfold ths zaJ vwR;split
 ·exact zJq b 0 b rfl (xx _)
 ·simp
theorem zHC (m:Mes) (b:List UInt8):∀t∈ths m b,t.val.length+1<=t.raw.length:=by
 intro t ht;unfold ths at ht;obtain ⟨r,hr,rfl⟩:=xA.1 ht;obtain ⟨h1,h2,h3,h4⟩:=ztR hr;show (valB b r.R).length+1<=(rawB b r.R).length;unfold valB rawB;simp;omega
def ri (i:Int):List Th->Nat
 | []=>0
 | t::l=>(if t.fi=i then 2*t.raw.length else 0)+ri i l
def ru:List Th->Nat
 | []=>0
 | t::l=>(if t.fi<0 then 2*t.raw.length else 0)+ru l
theorem zCX (x:Int) (y:Nat):∀(o:List Int),o.Nodup->(o.map fun i=>if x=i then y else 0).sum<=y/\(x∉o->(o.map fun i=>if x=i then y else 0).sum=0)
 | [],_=>by simp
 | i::o,h=>by
  obtain ⟨h1,h2⟩:=pg.1 h;obtain ⟨i1,i2⟩:=zCX x y o h2;rw [xC,yQ];by_cases hx:x=i
  ·rw [xn hx,i2 (by rw [hx];exact h1)];exact ⟨by omega,fun hh=>absurd (by rw [hx];exact xo) hh⟩
  ·rw [xm hx];exact ⟨by omega,fun hh=>by rw [i2 fun hm=>hh (xp _ hm)]⟩
theorem zCW (f g:Int->Nat):∀(o:List Int),(o.map fun i=>f i+g i).sum=(o.map f).sum+(o.map g).sum
 | []=>rfl
 | i::o=>by simp only [xC,yQ,zCW f g o];omega
theorem zFG {o:List Int} (hd:o.Nodup) (h0:∀i∈o,0<=i):∀(l:List Th),(o.map fun i=>ri i l).sum+ru l<=2*(l.map fun t=>t.raw.length).sum
 | []=>by
  have:(o.map fun _=>(0:Nat)).sum=0:=by
   clear hd h0
   induction o with
   | nil=>rfl
   | cons i o ih=>rw [xC,yQ,ih]
  have e:(o.map fun i=>ri i [])=o.map fun _=>(0:Nat):=qC fun i _=>rfl
  rw [e,this];simp [ru]
 | t::l=>by
  have ih:=zFG hd h0 l;have e:(o.map fun i=>ri i (t::l))=o.map fun i=>(if t.fi=i then 2*t.raw.length else 0)+ri i l:=rfl
  obtain ⟨s1,s2⟩:=zCX t.fi (2*t.raw.length) o hd;rw [e,zCW,ru,xC,yQ];by_cases ht:t.fi<0
  ·rw [xn ht,s2 fun hm=>by have:=h0 _ hm;omega];omega
  ·rw [xm ht];omega
theorem ztc:∀(a b:List Msg),wgMs (a++b)=wgMs a+wgMs b
 | [],b=>by simp [wgMs]
 | x::a,b=>by rw [yg,wgMs,wgMs,ztc a b];omega
def wv (a:zcu):Nat:=a.2.2.1.length+(a.2.2.2.1.map fun t=>1+t.length).sum+wgMs a.2.2.2.2+2*a.1.length
theorem zJe {g:Int->List UInt8->Msg} {f:Fld} {t:Th} (hg:f.Kind=17->wgM (g f.Of t.val)<=2*t.val.length+1) {c:Nat} (hc:c<=1\/c=2/\f.Kind=17/\f.Repeated=false) (a:zcu):wv (stp g f a t)+c<=wv a+(2*t.val.length+2):=by
 have h1:(if f.Repeated=true then a.2.2.1 else []).length<=a.2.2.1.length:=by split<;>simp
 have h2:((if f.Repeated=true then a.2.2.2.1 else []).map fun t=>1+t.length).sum<=(a.2.2.2.1.map fun t=>1+t.length).sum:=by split<;>simp
 have h3:=zpl f.Kind t.val;have h4:kNum f.Kind=false->(zaG f.Kind t.val).1=[]:=fun h=>by unfold zaG;rw [xn h]
 unfold stp wv;by_cases c1:t.run=true
 ·rw [xn c1];simp only [xz];rcases hc with hc| ⟨hc,ww,_⟩
  ·omega
  ·rw [h4 (by rw [ww];rfl)];simp only [yZ];omega
 ·rw [xm c1];by_cases c2:kNum f.Kind=true
  ·rw [xn c2];simp only [xz,yh];rcases hc with hc| ⟨hc,ww,_⟩
   ·omega
   ·exact absurd ww (ztD c2).1
  ·rw [xm c2];by_cases c3:f.Kind=17/\f.Repeated=true
   ·rw [xn c3];have:=hg c3.1;rcases hc with hc| ⟨_,_,hr⟩
    ·simp only [ztc,wgMs];omega
    ·rw [hr] at c3;exact absurd c3.2 (by simp)
   ·rw [xm c3];by_cases c4:f.Kind=17
    ·rw [xn c4];simp only [xz];omega
    ·rw [xm c4];simp only [yv,List.sum_append,pT,List.sum_singleton];rcases hc with hc| ⟨_,ww,_⟩
     ·omega
     ·exact absurd ww c4
theorem zxu {g:Int->List UInt8->Msg} {f:Fld} {i:Int} {c:Nat} (hc:c<=1\/c=2/\f.Kind=17/\f.Repeated=false):∀(l:List Th) (a:zcu),(∀t∈l,t.val.length+1<=t.raw.length)->(f.Kind=17->∀t∈l,wgM (g f.Of t.val)<=2*t.val.length+1)->
  wv (accF g f i a l)+(if (accF g f i a l).2.1=true then c else 0)<=wv a+(if a.2.1=true then c else 0)+ri i l
 | [],a,_,_=>by simp only [accF,ri,yw];exact xt _
 | t::l,a,h1,h2=>by
  rw [accF,ri];have ih:=zxu (g:=g) (i:=i) hc l (if t.fi=i then stp g f a t else a) (fun x hx=>h1 x (xp _ hx)) fun h x hx=>h2 h x (xp _ hx)
  have ht:=h1 t xo;by_cases hi:t.fi=i
  ·rw [xn hi] at ih|-;rw [xn hi];have hs:=zJe (g:=g) (f:=f) (t:=t) (fun h=>h2 h t xo) hc a;rw [zyy,xn rfl] at ih;omega
  ·rw [xm hi] at ih|-;rw [xm hi];omega
theorem zHE {g:Int->List UInt8->Msg} {f:Fld} {i:Int} {l:List Th} (h1:∀t∈l,t.val.length+1<=t.raw.length) (h2:f.Kind=17->∀t∈l,wgM (g f.Of t.val)<=2*t.val.length+1)
  (hj:f.Kind=17->wgM (g f.Of (accF g f i acc0 l).1)<=2*(accF g f i acc0 l).1.length+1) (hm:0<zay (valO g f (accF g f i acc0 l))):wgV (valO g f (accF g f i acc0 l))<=ri i l:=by
 have hmet:(accF g f i acc0 l).2.1=true:=by
  cases h:(accF g f i acc0 l).2.1 with
  | true=>rfl
  | false=>
   rw [znF g f i l acc0 h] at hm;unfold zay valO acc0 at hm;simp at hm
 have w0:wv acc0=0:=rfl;have m0:acc0.2.1=false:=rfl;have k1:=zxu (g:=g) (f:=f) (i:=i) (c:=1) (.inl (xt _)) l acc0 h1 h2;rw [w0,m0,hmet] at k1;simp only [yi,qu,yc] at k1;rw [zkB];by_cases hc:f.Kind=17/\f.Repeated=false
 ·have k2:=zxu (g:=g) (f:=f) (i:=i) (c:=2) (.inr ⟨rfl,hc⟩) l acc0 h1 h2;rw [w0,m0,hmet] at k2;simp only [yi,qu,yc] at k2;have hjj:=hj hc.1
  generalize accF g f i acc0 l=q at hmet k2 hjj
  unfold valO;rw [xn ⟨hmet,hc⟩];unfold wv at k2;simp only [wgMs];omega
 ·generalize accF g f i acc0 l=q at hmet k1
  unfold valO;rw [xm (fun hh=>hc hh.2)];unfold wv at k1;simp only;omega
theorem zFJ:∀(l:List Th),(∀t∈l,t.val.length+1<=t.raw.length)->((unkO l).map fun t=>1+t.length).sum<=ru l
 | [],_=>by simp [unkO,ru]
 | t::l,h=>by
  have ih:=zFJ l fun x hx=>h x (xp _ hx)
  have ht:=h t xo;unfold unkO at ih|-;rw [yL,ru];by_cases hf:t.fi<0
  ·rw [xn (by simpa using hf),xn hf,xC,xC,yQ];omega
  ·rw [xm (by simpa using hf),xm hf];omega
theorem zFv (s:List Mes):∀(N:Nat) (b:List UInt8) (k:Int),b.length=N->wgM (ofM s k b)<=2*b.length+1:=by
 intro N
 induction N using Nat.strongRecOn with
 | _ N IH=>
  intro b k hN;have hwt:=zmU (zA s k) b;have hwr:=zJj (zA s k) b;have hraw:=zHC (zA s k) b;rw [zki]
  generalize ths (zA s k) b=l at hwt hwr hraw
  generalize zA s k=m
  have hg:∀(f:Fld) (v:List UInt8),v.length+1<=b.length->wgM (ofM s f.Of v)<=2*v.length+1:=fun f v hv=>IH v.length (by omega) v f.Of rfl
  have hval:∀i,0<zay (valO (ofM s) (zy m i) (accF (ofM s) (zy m i) i acc0 l))->wgV (valO (ofM s) (zy m i) (accF (ofM s) (zy m i) i acc0 l))<=ri i l:=fun i hp=>by
   refine zHE hraw (fun _ t ht=>hg _ _ (by have:=zoM ht;omega)) (fun _=>?_) hp;have hw:=(znG (ofM s) (zy m i) i acc0 l).2;have j0:wJ acc0=0:=rfl;rw [j0] at hw;cases hm:(accF (ofM s) (zy m i) i acc0 l).2.1 with
   | true=>
    rw [wJ,xn hm] at hw;exact hg _ _ (by omega)
   | false=>
    rw [znF (ofM s) (zy m i) i l acc0 hm] at hp;unfold zay valO acc0 at hp;simp at hp
  have hsum:∀o:List Int,wgVs ((o.map fun i=>valO (ofM s) (zy m i) (accF (ofM s) (zy m i) i acc0 l)).filter fun v=>decide (0<zay v))<=(o.map fun i=>ri i l).sum:=by
   intro o
   induction o with
   | nil=>simp [wgVs]
   | cons i o ih=>
    rw [xC,yL,xC,yQ];by_cases hp:0<zay (valO (ofM s) (zy m i) (accF (ofM s) (zy m i) i acc0 l))
    ·rw [xn (by simpa using hp),wgVs];have:=hval i hp;omega
    ·rw [xm (by simpa using hp)];omega
  have h1:=hsum (zbU (zaK m) m.Fields.length);have hnd:(zbU (zaK m) m.Fields.length).Nodup:=(zmT (zaK m) m.Fields.length).imp fun {a b} h e=>by
   rw [e] at h;exact zxx h h
  have h2:=zFG hnd (fun i hi=>(zdV.1 hi).1) l;have h3:=zFJ l hraw;rw [zmW];unfold zgz zlg;simp only;omega
def znY (s:List Mes) (root d:Int):Nat->List (List UInt8)->Option (Nat×Int)
 | _,[]=>none
 | i,x::l=>if (zaV s root x d).2≠0 then some (i,(zaV s root x d).2) else znY s root d (i+1) l
def zpz (s:List Mes) (root:Int) (l:List (List UInt8)) (d:Int):List UInt8×Int×Int:=
 if argS s root d≠0 then ([],0,argS s root d) else match znY s root d 0 l with
  | some (i,c)=>([],i,c)
  | none=>(l.flatten,0,0)
def zyg (m:Mes) (a b:List UInt8):Nat:=((zaJ m a).1.filter fun t=>decide (0<=t.Field)&&(zaJ m b).1.any (fun u=>u.R.Number==t.R.Number)&& !(zy m t.Field).Repeated&&(zy m t.Field).Kind !=17).length
theorem zAG (s:List Mes) (root d:Int):argS s root d=0\/argS s root d=2\/argS s root d=9:=by
 unfold argS;split
 ·omega
 ·split<;>omega
theorem zxE (s:List Mes) (root:Int) (b:List UInt8) (d:Int):0<=(zaV s root b d).2/\(zaV s root b d).2<=9:=by
 unfold zaV;by_cases h:argS s root d=0
 ·rw [xm (by simpa using h)];cases hf:zU s d.toNat root b with
  | none=>simp
  | some p=>
   have:=ziw s d.toNat root b p.1 p.2 hf;simp only [Option.getD_some];omega
 ·rw [xn h];rcases zAG s root d with h| h| h<;>rw [h]<;>simp
theorem zxD {s:List Mes} {root:Int} {b:List UInt8} {d:Int} (h:argS s root d≠0):(zaV s root b d).2=argS s root d:=by
 unfold zaV;rw [xn h]
theorem zpC {s:List Mes} {root:Int} {b:List UInt8} {d:Int} (h:(zaV s root b d).2=0):argS s root d=0/\zU s d.toNat root b=none:=zqH.1 (by unfold is11;simpa using h)
theorem zpR {s:List Mes} {root:Int} {b:List UInt8} {d:Int} (h:argS s root d=0) (hf:zU s d.toNat root b=none):(zaV s root b d).2=0:=by
 have:=(zqH (s:=s) (root:=root) (b:=b) (d:=d)).2 ⟨h,hf⟩;unfold is11 at this;simpa using this
theorem zDa (s:List Mes) (root:Int) (a b:List UInt8) (d:Int):zpz s root [a,b] d=if (zaV s root a d).2≠0 then ([],0,(zaV s root a d).2) else if (zaV s root b d).2≠0 then ([],1,(zaV s root b d).2) else (a++b,0,0):=by
 unfold zpz;by_cases h:argS s root d=0
 ·by_cases ha:(zaV s root a d).2=0
  ·by_cases hb:(zaV s root b d).2=0
   ·simp [h,znY,ha,hb]
   ·simp [h,znY,ha,hb]
  ·simp [h,znY,ha]
 ·rw [xn h,zxD h,xn h]
theorem zpB (s:List Mes) (root:Int) (b:List UInt8) (d:Int):0<=(zaV s root b d).2/\(zaV s root b d).2<=255:=by
 have:=zxE s root b d;omega
theorem zxa (hg:∀v u,g v=some u->u.Number=v.Number):∀{l:List Vlu},zet l->zet (l.filterMap g)
 | [],_=> .nil
 | v::l,h=>by
  obtain ⟨h1,h2⟩:=xZ.1 h;have ih:=zxa hg h2;cases e:g v with
  | none=>rw [List.filterMap_cons_none e];exact ih
  | some u=>
   rw [List.filterMap_cons_some e];refine xZ.2 ⟨fun w hw=>?_,ih⟩;obtain ⟨w',hw',e'⟩:=List.mem_filterMap.1 hw;rw [hg _ _ e,hg _ _ e'];exact h1 w' hw'
def goB (m:Mes) (w:List zgs) (v:Vlu):Bool:= !zmX w v.Number&&decide (zlG w v.Number≠[])&&decide ((zy m (fldI m v.Number)).Kind=17)&& !(zy m (fldI m v.Number)).Repeated
theorem zxR :goB m w v=true↔zmX w v.Number=false/\zlG w v.Number≠[]/\(zy m (fldI m v.Number)).Kind=17/\(zy m (fldI m v.Number)).Repeated=false:=by
 unfold goB;simp only [xq,ye,xK,and_assoc]
def inV (s:List Mes) (m:Mes) (w:List zgs) (keep:Bool) (v:Vlu):Vlu:=⟨v.Number,[],[],zoq s v.Subs (zy m (fldI m v.Number)).Of (zlG w v.Number) keep⟩
def zuQ (s:List Mes) (m:Mes) (w:List zgs) (keep:Bool) (v:Vlu):Option Vlu:=if goB m w v=true then some (inV s m w keep v) else if zmX w v.Number=keep then some v else none
theorem zwS (v u:Vlu) (h:zuQ s m w keep v=some u):u.Number=v.Number:=by
 unfold zuQ at h;split at h
 ·cases h;rfl
 ·split at h
  ·cases h;rfl
  ·cases h
theorem zwT (s:List Mes) (m:Mes) (w:List zgs) (keep:Bool):∀l:List Vlu,zhU s l m w keep=l.filterMap (zuQ s m w keep)
 | []=>by rw [zhU];rfl
 | v::l=>by
  rw [zhU,zwT s m w keep l,zra];by_cases hg:goB m w v=true
  ·rw [xn (zxR.1 hg),List.filterMap_cons_some (b:=inV s m w keep v) (by unfold zuQ;rw [xn hg])];rfl
  ·rw [xm (fun h=>hg (zxR.2 h))];by_cases hk:zmX w v.Number=keep
   ·rw [xn hk,List.filterMap_cons_some (b:=v) (by unfold zuQ;rw [xm hg,xn hk])];rfl
   ·rw [xm hk,List.filterMap_cons_none (by unfold zuQ;rw [xm hg,xm hk])];rfl
theorem zGP (hg:goB m w v=true) (hf:zhN s v (zy m (fldI m v.Number))):∃y,v=⟨v.Number,[],[],[y]⟩/\zbA s y (zy m (fldI m v.Number)).Of=true/\∀keep,inV s m w keep v=⟨v.Number,[],[],[zqZ s y (zy m (fldI m v.Number)).Of (zlG w v.Number) keep]⟩:=by
 obtain ⟨_,_,h3,h4⟩:=zxR.1 hg;obtain ⟨y,e,hy⟩:=hf.msg h3 h4;have hs:v.Subs=[y]:=by rw [e]
 refine ⟨y,e,hy,fun keep=>?_⟩;unfold inV;rw [hs,zoq]
theorem zEH (hf:zhN s ⟨n,[],[],[y]⟩ f) (hz:zbA s z f.Of=true):zhN s ⟨k,[],[],[z]⟩ f:=
 ⟨by simp [zay],(fun _=>by simp [zay]),hf.kind,(fun w hw=>nomatch hw),(fun w hw=>nomatch hw),fun w hw=>by rw [xY.1 hw];exact ⟨(hf.subs y xo).1,hz⟩⟩
theorem zJi (hv:v∈x.Values) (e:v=⟨v.Number,[],[],[y]⟩):szM y<szM x:=by
 have s1:=zfX hv;rw [ziI] at s1;have hs:v.Subs=[y]:=by rw [e]
 have s2:szM y<=szMs v.Subs:=zfW (by rw [hs];exact xo);rw [zeF x];omega
theorem zsO :∀(N:Nat) (x:Msg) (k:Int) (w:List zgs) (keep:Bool),szM x<=N->zbA s x k=true->zbA s (zqZ s x k w keep) k=true
 | 0,x,k,w,keep,h,_=>by rw [zeF] at h;omega
 | N+1,x,k,w,keep,hsz,hx=>by
  obtain ⟨k0,k1,rx,hx',ux⟩:=zci hx;rw [zuP,zwT];refine zwZ k0 k1 (zxa zwS rx) (fun v hv=>?_) fun u hu=>?_
  ·obtain ⟨v0,hv0,e⟩:=List.mem_filterMap.1 hv;obtain ⟨w0,wf⟩:=hx' v0 hv0;have hn:=zwS _ _ e;unfold zuQ at e;by_cases hg:goB (zA s k) w v0=true
   ·rw [xn hg] at e;have hf:=zfs wf;obtain ⟨y,e1,hy,hin⟩:=zGP hg hf;rw [hin] at e;have hsy:=zJi hv0 e1;rw [hn];refine ⟨w0,zCe ?_⟩;rw [<-yJ e];rw [e1] at hf;exact zEH hf (zsO N y _ _ _ (by omega) hy)
   ·rw [xm hg] at e;by_cases hk:zmX w v0.Number=keep
    ·rw [xn hk] at e;rw [<-yJ e];exact ⟨w0,wf⟩
    ·rw [xm hk] at e;cases e
  ·cases keep with
   | true=>exact absurd hu (by simp)
   | false=>exact ux u hu
theorem zuv (s:List Mes) (a:Msg) (m:Mes):∀(l ws:List Vlu),(zgY s l a m ws).length<=ws.length+l.length
 | [],ws=>by rw [zgY];simp
 | v::l,ws=>by
  rw [zgY];have h1:=zuv s a m l (putM ⟨ws,[]⟩ (zht s v (look a.Values v.Number) (zy m (fldI m v.Number)))).Values;have h2:=zzN ws [] (zht s v (look a.Values v.Number) (zy m (fldI m v.Number)));simp only [xL];omega
theorem zCr :∀(N:Nat) (b a:Msg) (k:Int),szM b<=N->zbA s a k=true->zbA s b k=true->bdM a->bdM b->smM a->smM b->bdM (zhS s b a k)
 | 0,b,a,k,h,_,_,_,_,_,_=>by rw [zeF] at h;omega
 | N+1,b,a,k,hsz,ha,hb,ba,bb,sa,sb'=>by
  obtain ⟨_,_,ra,ha',_⟩:=zci ha;obtain ⟨_,_,rb,hb',_⟩:=zci hb;obtain ⟨j1,j2⟩:=zrU ha hb;obtain ⟨a1,⟨a2,a3⟩,a4⟩:=(znJ a).1 ba;obtain ⟨b1,⟨b2,b3⟩,b4⟩:=(znJ b).1 bb;obtain ⟨sa1,⟨sa2,sa3⟩,sa4⟩:=(zoA a).1 sa;obtain ⟨sb1,⟨sb2,sb3⟩,sb4⟩:=(zoA b).1 sb';rw [zeF] at hsz;have wz:(zhS s b a k).Values.length<=a.Values.length+b.Values.length:=by rw [zkc];exact zuv s a _ _ _
  have hun:(zhS s b a k).Unknown=a.Unknown++b.Unknown:=by rw [zkc]
  refine (znJ _).2 ⟨by omega,⟨by rw [hun];simp;omega,fun t ht=>by
   rw [hun] at ht;rcases xu.1 ht with h| h
   ·exact a3 t h
   ·exact b3 t h⟩,zhb.2 fun x hx=>?_⟩
  have hl:=zuB j1 hx;rw [j2] at hl;cases hlb:look b.Values x.Number with
  | none=>rw [hlb] at hl;exact zhb.1 a4 x (zgc hl).2
  | some v=>
   rw [hlb] at hl;have e:x=zht s v (look a.Values x.Number) (zy (zA s k) (fldI (zA s k) x.Number)):=(yJ hl).symm;obtain ⟨hvn,hvm⟩:=zgc hlb;have bv:=zhb.1 b4 v hvm;have sv:=zib.1 sb4 v hvm;rw [e,zgy];cases hla:look a.Values x.Number with
   | none=>exact bv
   | some u=>
    obtain ⟨hun',hum⟩:=zgc hla;have bu:=zhb.1 a4 u hum;have su:=zib.1 sa4 u hum;obtain ⟨v1,⟨v2,v3⟩,⟨v4,v5⟩,v6,v7⟩:=(zlj v).1 bv;obtain ⟨u1,⟨u2,u3⟩,⟨u4,u5⟩,u6,u7⟩:=(zlj u).1 bu;obtain ⟨q1,⟨q2,q3⟩,q4,q5⟩:=(zoB v).1 sv;obtain ⟨r1,⟨r2,r3⟩,r4,r5⟩:=(zoB u).1 su;simp only;split
    ·refine (zlj _).2 ⟨v1,⟨by simp;omega,fun w hw=>?_⟩,⟨by simp;omega,fun w hw=>?_⟩,by simp;omega,zha.2 fun w hw=>?_⟩
     ·rcases xu.1 hw with h| h
      ·exact u3 w h
      ·exact v3 w h
     ·rcases xu.1 hw with h| h
      ·exact u5 w h
      ·exact v5 w h
     ·rcases xu.1 hw with h| h
      ·exact zha.1 u7 w h
      ·exact zha.1 v7 w h
    ·split
     ·rename_i hrep ww;have fv:=hb' v hvm;have fu:=ha' u hum;rw [hvn] at fv;rw [hun'] at fu;have ov:=zfs fv.2;have ou:=zfs fu.2;refine (zlj _).2 ⟨v1,⟨by simp,by simp⟩,⟨by simp,by simp⟩,?_⟩;cases hvs:v.Subs with
      | nil=>rw [zjn];exact ⟨by simp,by rw [bdMs];trivial⟩
      | cons y ys=>
       cases hus:u.Subs with
       | nil=>rw [zjn];exact ⟨by simp,by rw [bdMs];trivial⟩
       | cons z zs=>
        rw [zjn];simp only;have hy:y∈v.Subs:=by rw [hvs];exact xo
        have hz:z∈u.Subs:=by rw [hus];exact xo
        have hsv:=zfX hvm;rw [ziI] at hsv;have hsy:=zfW hy;have hj:=zCr N y z _ (by omega) (ou.subs z hz).2 (ov.subs y hy).2 (zha.1 u7 z hz) (zha.1 v7 y hy) (zkt.1 r5 z hz) (zkt.1 q5 y hy);exact ⟨by simp,by rw [bdMs,bdMs];exact ⟨hj,trivial⟩⟩
     ·exact bv
theorem zsY:∀(l m:List Vlu),szVs (l++m)=szVs l+szVs m
 | [],m=>by rw [xR,szVs];omega
 | v::l,m=>by rw [yg,szVs,szVs,zsY l m];omega
theorem zCO :∀(N:Nat) (x:Msg) (k:Int) (w:List zgs) (keep:Bool),szM x<=N->bdM x->bdM (zqZ s x k w keep)/\szM (zqZ s x k w keep)<=szM x
 | 0,x,k,w,keep,h,_=>by rw [zeF] at h;omega
 | N+1,x,k,w,keep,hsz,hb=>by
  obtain ⟨b1,⟨b2,b3⟩,b4⟩:=(znJ x).1 hb;rw [zeF] at hsz;have key:∀v∈x.Values,∀f:Fld,(∀u∈zuR s v f w keep,bdV u)/\szVs (zuR s v f w keep)<=szV v:=fun v hv f=>by
   have bv:=zhb.1 b4 v hv;obtain ⟨v1,v2,v3,v6,v7⟩:=(zlj v).1 bv;have hsv:=zfX hv;have hve:=ziI v;rw [zra];split
   ·cases hs:v.Subs with
    | nil=>
     rw [zoq];refine ⟨fun u hu=>?_,?_⟩
     ·rw [xY.1 hu];exact (zlj _).2 ⟨v1,⟨by simp,by simp⟩,⟨by simp,by simp⟩,by simp,by rw [bdMs];trivial⟩
     ·rw [szVs,szVs,ziI];simp only;rw [szMs];omega
    | cons y ys=>
     have hy:y∈v.Subs:=by rw [hs];exact xo
     have hsy:=zfW hy;obtain ⟨p1,p2⟩:=zCO N y f.Of (zlG w v.Number) keep (by omega) (zha.1 v7 y hy);rw [zoq];refine ⟨fun u hu=>?_,?_⟩
     ·rw [xY.1 hu];exact (zlj _).2 ⟨v1,⟨by simp,by simp⟩,⟨by simp,by simp⟩,by simp,by rw [bdMs,bdMs];exact ⟨p1,trivial⟩⟩
     ·rw [szVs,szVs,ziI];simp only;rw [szMs,szMs];omega
   ·split
    ·refine ⟨(fun u hu=>by rw [xY.1 hu];exact bv),?_⟩;rw [szVs,szVs];omega
    ·exact ⟨(fun u hu=>by cases hu),(by rw [szVs];omega)⟩
  have all:∀l:List Vlu,(∀v∈l,v∈x.Values)->(∀u∈zhU s l (zA s k) w keep,bdV u)/\szVs (zhU s l (zA s k) w keep)<=szVs l/\(zhU s l (zA s k) w keep).length<=l.length:=by
   intro l
   induction l with
   | nil=>intro _;rw [zhU];exact ⟨(fun u hu=>by cases hu),xt _,xt _⟩
   | cons v l ih=>
    intro h;obtain ⟨i1,i2,i3⟩:=ih fun u hu=>h u (xp _ hu)
    obtain ⟨k1,k2⟩:=key v (h v xo) (zy (zA s k) (fldI (zA s k) v.Number));have k3:=zDH s v (zy (zA s k) (fldI (zA s k) v.Number)) w keep;rw [zhU];refine ⟨fun u hu=>?_,?_,?_⟩
    ·rcases xu.1 hu with hu| hu
     ·exact k1 u hu
     ·exact i1 u hu
    ·rw [zsY,szVs];omega
    ·rw [xz,xL];omega
  obtain ⟨a1,a2,a3⟩:=all x.Values fun v hv=>hv
  rw [zuP];refine ⟨(znJ _).2 ⟨by simp only;omega,⟨?_,?_⟩,zhb.2 a1⟩,by rw [zeF,zeF];simp only;omega⟩
  ·simp only;cases keep<;>simp<;>omega
  ·simp only;cases keep with
   | true=>intro t ht;cases ht
   | false=>exact b3
theorem zDg:∀(N:Nat) (x:Msg),szM x<=N->szM x<=wgM x
 | 0,x,h=>by rw [zeF] at h;omega
 | N+1,x,h=>by
  rw [zeF] at h;have hv:∀v∈x.Values,szV v<=wgV v:=fun v hv=>by
   have h1:=zfX hv;have he:=ziI v;have:∀l:List Msg,(∀y∈l,y∈v.Subs)->szMs l<=wgMs l:=by
    intro l
    induction l with
    | nil=>intro _;rw [szMs];omega
    | cons y l ih=>
     intro hl;have hy:=hl y xo;have h2:=zfW hy;have:=zDg N y (by omega);have:=ih fun z hz=>hl z (xp _ hz)
     rw [szMs,wgMs];omega
   have:=this v.Subs fun y hy=>hy
   rw [he,zkB];omega
  have:∀l:List Vlu,(∀v∈l,v∈x.Values)->szVs l<=wgVs l:=by
   intro l
   induction l with
   | nil=>intro _;rw [szVs];omega
   | cons v l ih=>
    intro hl;have:=hv v (hl v xo);have:=ih fun z hz=>hl z (xp _ hz)
    rw [szVs,wgVs];omega
  have:=this x.Values fun v hv=>hv
  rw [zeF,zmW];omega
theorem zIm:∀(N:Nat) (x:Msg),szM x<=N->wgM x<=1048576->smM x
 | 0,x,h,_=>by rw [zeF] at h;omega
 | N+1,x,h,hw=>by
  rw [zeF] at h;rw [zmW] at hw;have hl:=zAv x.Values;have hu:=zyB (l:=x.Unknown);refine (zoA _).2 ⟨by omega,⟨by omega,fun t ht=>by have:=zyC ht;omega⟩,zib.2 fun v hv=>?_⟩;have h1:=zfX hv;have h2:=zAw hv;rw [ziI] at h1;rw [zkB] at h2;have ht:=zyB (l:=v.Texts);have hs:=zAu v.Subs;refine (zoB _).2 ⟨by omega,⟨by omega,fun t ht=>by have:=zyC ht;omega⟩,by omega,zkt.2 fun y hy=>?_⟩;have h3:=zfW hy;have h4:=zoJ hy;exact zIm N y (by omega) (by omega)
theorem zrA:∀(l m:List Vlu),wgVs (l++m)=wgVs l+wgVs m
 | [],m=>by rw [xR,wgVs];omega
 | v::l,m=>by rw [yg,wgVs,wgVs,zrA l m];omega
theorem zAt:∀(l m:List Msg),wgMs (l++m)=wgMs l+wgMs m
 | [],m=>by rw [xR,wgMs];omega
 | v::l,m=>by rw [yg,wgMs,wgMs,zAt l m];omega
def wgO:Option Vlu->Nat
 | none=>0
 | some u=>wgV u
theorem zFC (v:Vlu):∀(d:Bool) (l:List Vlu),zet l->wgVs (putL v d l)+wgO (look l v.Number)<=wgVs l+(if d=true then 0 else wgV v)
 | d,[],_=>by
  rw [putL];cases d
  ·show wgVs [v]+0<=_;simp [wgVs]
  ·show wgVs []+0<=_;simp
 | d,u::l,h=>by
  obtain ⟨h1,h2⟩:=xZ.1 h;have ih:=zFC v (d|| decide (v.Number<=u.Number)) l h2;rw [putL,zrA,zrA,zdk,wgVs];by_cases he:u.Number=v.Number
  ·rw [xn he,xn he];have hn:look l v.Number=none:=zoW fun x hx=>by have:=h1 x hx;omega
   rw [hn] at ih;have hle:decide (v.Number<=u.Number)=true:=by simp;omega
   rw [hle,qz,xn rfl] at ih;simp only [wgO,wgVs,hle,qz] at ih|-;cases d
   ·rw [xn ⟨rfl,by omega⟩,wgVs,wgVs];simp;omega
   ·rw [xm (by simp),wgVs];simp;omega
  ·rw [xm he,xm he,wgVs,wgVs];cases d
   ·by_cases hv:v.Number<=u.Number
    ·rw [xn ⟨rfl,hv⟩,wgVs,wgVs];simp only [hv,pp,qz,yi,qu,yc] at ih|-;omega
    ·rw [xm (fun hh=>hv hh.2),wgVs];simp only [hv,pq,qt,qu,yc] at ih|-;omega
   ·rw [xm (by simp),wgVs];simp only [Bool.true_or,yi] at ih|-;omega
theorem zwG :∀(l ws:List Vlu),zet l->zet ws->(∀v∈l,look ws v.Number=look a.Values v.Number)->(∀v∈l,wgV (zht s v (look a.Values v.Number) (zy m (fldI m v.Number)))<=wgV v+wgO (look a.Values v.Number))->wgVs (zgY s l a m ws)<=wgVs ws+wgVs l
 | [],ws,_,_,_,_=>by rw [zgY];omega
 | v::l,ws,hl,ha,he,hw=>by
  obtain ⟨l1,l2⟩:=xZ.1 hl;have hv:=he v xo;have hwv:=hw v xo;have hn:=zwF s v (look a.Values v.Number) (zy m (fldI m v.Number));rw [zgY]
  generalize zht s v (look a.Values v.Number) (zy m (fldI m v.Number))=v' at hn hwv|-
  have hp:=zFC v' (decide (zay v'=0)) ws ha;have ih:=zwG (s:=s) (a:=a) (m:=m) l (putM ⟨ws,[]⟩ v').Values l2 (zov ha) (fun u hu=>by
   show look (putL v' _ ws) u.Number=_;have:=l1 u hu;rw [zuD ha,xm (by omega)];exact he u (xp _ hu)) (fun u hu=>hw u (xp _ hu))
  have hq:wgVs (putM ⟨ws,[]⟩ v').Values=wgVs (putL v' (decide (zay v'=0)) ws):=rfl;rw [hn,hv] at hp;rw [wgVs];split at hp<;>omega
theorem zCs :∀(N:Nat) (b a:Msg) (k:Int),szM b<=N->zbA s a k=true->zbA s b k=true->wgM (zhS s b a k)<=wgM a+wgM b
 | 0,b,a,k,h,_,_=>by rw [zeF] at h;omega
 | N+1,b,a,k,hsz,ha,hb=>by
  obtain ⟨_,_,ra,ha',_⟩:=zci ha;obtain ⟨_,_,rb,hb',_⟩:=zci hb;rw [zeF] at hsz;have:=zwG (s:=s) (a:=a) (m:=zA s k) b.Values a.Values rb ra (fun _ _=>rfl) fun v hv=>by
   rw [zgy];cases hla:look a.Values v.Number with
   | none=>simp only [wgO];omega
   | some u=>
    obtain ⟨hun,hum⟩:=zgc hla;have hve:=zkB v;have hue:=zkB u;simp only [wgO];split
    ·rw [zkB];simp only [xz,yv,List.sum_append,zAt];omega
    ·split
     ·rename_i hrep ww;have ov:=zfs (hb' v hv).2;have ou:=zfs (ha' u hum).2;rw [hun] at ou;have hsv:=zfX hv;rw [ziI] at hsv;rw [zkB];simp only [yZ,yO,List.sum_nil];cases hvs:v.Subs with
      | nil=>rw [zjn,wgMs];omega
      | cons y ys=>
       cases hus:u.Subs with
       | nil=>rw [zjn,wgMs];omega
       | cons z zs=>
        rw [zjn];have hy:y∈v.Subs:=by rw [hvs];exact xo
        have hz:z∈u.Subs:=by rw [hus];exact xo
        have hsy:=zfW hy;have hj:=zCs N y z _ (by omega) (ou.subs z hz).2 (ov.subs y hy).2;have w1:=zoJ hy;have w2:=zoJ hz;rw [wgMs,wgMs];omega
     ·omega
  rw [zkc,zmW,zmW,zmW];simp only [yv,List.sum_append];omega
theorem zCP :∀(N:Nat) (x:Msg) (k:Int) (w:List zgs) (keep:Bool),szM x<=N->wgM (zqZ s x k w keep)<=wgM x
 | 0,x,k,w,keep,h=>by rw [zeF] at h;omega
 | N+1,x,k,w,keep,hsz=>by
  rw [zeF] at hsz;have key:∀v∈x.Values,∀f:Fld,wgVs (zuR s v f w keep)<=wgV v:=fun v hv f=>by
   have hsv:=zfX hv;rw [ziI] at hsv;have hve:=zkB v;rw [zra];split
   ·cases hs:v.Subs with
    | nil=>
     rw [zoq,wgVs,wgVs,zkB];simp only [yZ,yO,List.sum_nil];rw [wgMs];omega
    | cons y ys=>
     have hy:y∈v.Subs:=by rw [hs];exact xo
     have hsy:=zfW hy;have hwy:=zoJ hy;have:=zCP (s:=s) N y f.Of (zlG w v.Number) keep (by omega);rw [zoq,wgVs,wgVs,zkB];simp only [yZ,yO,List.sum_nil];rw [wgMs,wgMs];omega
   ·split
    ·rw [wgVs,wgVs];omega
    ·rw [wgVs];omega
  have all:∀l:List Vlu,(∀v∈l,v∈x.Values)->wgVs (zhU s l (zA s k) w keep)<=wgVs l:=by
   intro l
   induction l with
   | nil=>intro _;rw [zhU];exact xt _
   | cons v l ih=>
    intro h;have i2:=ih fun u hu=>h u (xp _ hu)
    have k2:=key v (h v xo) (zy (zA s k) (fldI (zA s k) v.Number));rw [zhU,zrA,wgVs];omega
  have:=all x.Values fun v hv=>hv
  rw [zuP,zmW,zmW];simp only;cases keep<;>simp<;>omega
structure Gd (s:List Mes) (root:Int) (n:Nat) (x:Msg):Prop where
 r:zbA s x root=true
 b:bdM x
 w:wgM x<=n
theorem Gd.s {s:List Mes} {root:Int} {n:Nat} {x:Msg} (h:Gd s root n x) (hn:n<=1048576):smM x:=zIm _ x (xt _) (yo h.w hn)
theorem Gd.z {s:List Mes} {root:Int} {n fuel:Nat} {x:Msg} (h:Gd s root n x) (hn:n<fuel):szM x<fuel:=Nat.lt_of_le_of_lt (yo (zDg _ x (xt _)) h.w) hn
theorem Gd.join {s:List Mes} {root:Int} {n m:Nat} {a b:Msg} (ha:Gd s root n a) (hb:Gd s root m b) (hn:n<=1048576) (hm:m<=1048576):Gd s root (n+m) (zhS s b a root):=
 ⟨zsI _ b a root (xt _) ha.r hb.r,zCr _ b a root (xt _) ha.r hb.r ha.b hb.b (ha.s hn) (hb.s hm),yo (zCs _ b a root (xt _) ha.r hb.r) (Nat.add_le_add ha.w hb.w)⟩
theorem Gd.part {s:List Mes} {root:Int} {n:Nat} {a:Msg} (ha:Gd s root n a) (w:List zgs) (keep:Bool):Gd s root n (zqZ s a root w keep):=
 ⟨zsO _ a root w keep (xt _) ha.r,(zCO _ a root w keep (xt _) ha.b).1,yo (zCP _ a root w keep (xt _)) ha.w⟩
def zyI (s:List Mes) (root:Int) (b:List UInt8) (d:Int):Msg×Int:=if (zaV s root b d).2≠0 then (⟨[],[]⟩,(zaV s root b d).2) else (ofM s root b,0)
theorem zxF (h:(zaV s root b d).2=0):argS s root d=0:=by
 unfold zaV at h;by_cases h0:argS s root d=0
 ·exact h0
 ·rw [xn h0] at h;exact h
theorem zHl:∀a<256,zrx ((a:Nat):Int)=some (if a<128 then (1,(a:Int)) else if a/32=6 then (2,((a%32:Nat):Int)) else if a/16=14 then (3,((a%16:Nat):Int)) else if a/8=30 then (4,((a%8:Nat):Int)) else (0,0)):=by decide+kernel
theorem zyw (w k:Nat) (h:k<=32):shrI .u32 (w:Int) (k:Int)=((w/2^k:Nat):Int):=zvj (k:= .u32) (a:=w) (b:=k) (by simpa [IntKind.bits] using h)
theorem ztB (w:Nat):zml (w:Int)=some (if w<128 then 1 else if w<2048 then 2 else if 55296<=w/\w<=57343 then 0 else if w<65536 then 3 else if w<=1114111 then 4 else 0):=by
 unfold zml;have e7:shrI .u32 (w:Int) 7=((w/128:Nat):Int):=zyw w 7 (by omega);have e11:shrI .u32 (w:Int) 11=((w/2048:Nat):Int):=zyw w 11 (by omega);have e16:shrI .u32 (w:Int) 16=((w/65536:Nat):Int):=zyw w 16 (by omega);rw [e7,e11,e16];by_cases h1:w<128
 ·rw [uc,xn h1]
 ·rw [ud,xm h1];by_cases h2:w<2048
  ·rw [uc,xn h2]
  ·rw [ud,xm h2];by_cases h3:55296<=w/\w<=57343
   ·rw [uc,xn h3]
   ·rw [ud,xm h3];by_cases h4:w<65536
    ·rw [uc,xn h4]
    ·rw [ud,xm h4];by_cases h5:w<=1114111
     ·rw [uc,xn h5]
     ·rw [ud,xm h5]
theorem zDz:∀c<256,shrI .u8 ((c:Nat):Int) 6=((c/64:Nat):Int)/\u32.wrap (andI .u8 ((c:Nat):Int) 63)=((c%64:Nat):Int):=by decide+kernel
theorem zjN {v:List UInt8} {w i:Nat} (h:i<v.length) (hv:v.length<=1000) (hw:w<=1000000):
  zcj v w i=if cont v[i] then zcj v ((64*w+v[i].toNat%64:Nat):Int) ((i+1:Nat):Int) else some (.inr ()):=by
 have hc:=v[i].toNat_lt;obtain ⟨e1,e2⟩:=zDz v[i].toNat (by omega);have hb:zfE v w i=if cont v[i] then some (.inl (((64*w+v[i].toNat%64:Nat):Int),((i+1:Nat):Int))) else some (.inr (.inr ())):=by
  unfold zfE;rw [uc,zS rfl h,sb,e1,e2];by_cases hk:cont v[i]=true
  ·rw [xn hk];unfold cont at hk;simp only [xK] at hk;rw [ud,ue];have e3:shlI .u32 (w:Int) 6=((w*64:Nat):Int):=by
    have:shlI .u32 (w:Int) 6=((w*64%4294967296:Nat):Int):=by simp [shlI,IntKind.bits,zAA]
    rw [this,pz (by omega)]
   rw [e3,zCN rfl (by simp [IntKind.bits];omega) (by simp [IntKind.bits];omega),Nat.or_comm,zzF _ w 6 (by omega)];have e4:v[i].toNat%64+w*2^6=64*w+v[i].toNat%64:=by omega
   rw [e4];rfl
  ·rw [xm hk];unfold cont at hk;simp only [xK] at hk;rw [uc]
 by_cases hk:cont v[i]=true
 ·rw [xn hk] at hb|-;exact zto hb
 ·rw [xm hk] at hb|-;exact zni hb
theorem zqO (h:v.length<=i):zcj v w i=some (.inl (w:Int)):=by
 refine zni ?_;unfold zfE;rw [ud]
theorem zJM {w:Nat} {b:UInt8} (hw:w<=100):zcj [b] w 0=if cont b then some (.inl ((64*w+b.toNat%64:Nat):Int)) else some (.inr ()):=by
 have h:=zjN (v:=[b]) (w:=w) (i:=0) (by simp) (by simp) (by omega);refine Eq.trans h ?_;simp only [pU];rw [zqO (by simp)]
theorem zJN {w:Nat} {b c:UInt8} (hw:w<=100):zcj [b,c] w 0=if cont b then (if cont c then some (.inl ((64*(64*w+b.toNat%64)+c.toNat%64:Nat):Int)) else some (.inr ())) else some (.inr ()):=by
 have h:=zjN (v:=[b,c]) (w:=w) (i:=0) (by simp) (by simp) (by omega);refine Eq.trans h ?_;rw [zjN (i:=0+1) (by simp) (by simp) (by omega)];simp only [pU,pR,xP];rw [zqO (by simp)]
theorem zJO {w:Nat} {b c d:UInt8} (hw:w<=100):zcj [b,c,d] w 0=if cont b then (if cont c then (if cont d then some (.inl ((64*(64*(64*w+b.toNat%64)+c.toNat%64)+d.toNat%64:Nat):Int)) else some (.inr ())) else some (.inr ())) else some (.inr ()):=by
 have h:=zjN (v:=[b,c,d]) (w:=w) (i:=0) (by simp) (by simp) (by omega);refine Eq.trans h ?_;rw [zjN (i:=0+1) (by simp) (by simp) (by omega),zjN (i:=0+1+1) (by simp) (by simp) (by omega)];simp only [pU,pR,xP];rw [zqO (by simp)]
theorem zFu (n:Nat) (h:∀m,m≠n->isN m l=false):nxt l=if isN n l then n else 0:=by
 by_cases hn:isN n l=true
 ·rw [xn hn,zIS hn]
 ·rw [xm hn];by_cases h0:nxt l=0
  ·exact h0
  ·have h1:=ztE h0;by_cases h2:nxt l=n
   ·rw [h2] at h1;exact absurd h1 hn
   ·rw [h _ h2] at h1;cases h1
theorem zlW (n:Nat) (h:n=1/\a.toNat<128\/n=2/\192<=a.toNat/\a.toNat<224\/n=3/\224<=a.toNat/\a.toNat<240\/n=4/\240<=a.toNat):nxt (a::t)=if isN n (a::t) then n else 0:=by
 refine zFu n fun m hm=>?_
 cases hh:isN m (a::t) with
 | false=>rfl
 | true=>
  obtain ⟨a',t',e,_,g⟩:=zkb hh;cases e;omega
theorem zCx (b:List UInt8):zmk b=some ((nxt b:Nat):Int):=by
 cases b with
 | nil=>rfl
 | cons a t=>
  have ha:=a.toNat_lt;unfold zmk;have e00:idx (a::t) (0:Int)=some a:=zS (n:=0) rfl (by simp);rw [ud,e00,sb];rw [zHl _ (by omega),sb];by_cases h1:a.toNat<128
  ·rw [zlW 1 (.inl ⟨rfl,h1⟩),xn h1];simp only;rw [ud,zgj (i:=1) (j:=1) (a:=1) (b:=1) rfl rfl (by omega) (by simp),sb];have e0:zcj (((a::t).drop 1).take (1 - 1)) (a.toNat:Int) 0=some (.inl (a.toNat:Int)):=zqO (i:=0) (by simp);rw [e0,sb];simp only;rw [ztB,sb,xn h1,p8];simp [isN,is1,h1]
  ·rw [xm h1];by_cases h2:a.toNat/32=6
   ·rw [zlW 2 (.inr (.inl ⟨rfl,by omega,by omega⟩)),xn h2];simp only
    match t with
    | []=>rw [itT (by simp)];rfl
    | b::t=>
     rw [ud,zgj (i:=1) (j:=2) (a:=1) (b:=2) rfl rfl (by omega) (by simp),sb];have e0:=zJM (w:=a.toNat%32) (b:=b) (by omega);have e0':zcj (((a::b::t).drop 1).take (2 - 1)) ((a.toNat%32:Nat):Int) 0=_:=e0;rw [e0'];have hb:=b.toNat_lt;by_cases c1:cont b=true
     ·rw [xn c1,sb];simp only;have hn:=ztB (64*(a.toNat%32)+b.toNat%64);simp only [isN,is2,c1,qO,xK];simp only [cont,xK] at c1;by_cases h:194<=a.toNat
      ·rw [xm (by omega),xn (by omega)] at hn;rw [hn,sb,p8,xn (by omega)];rfl
      ·rw [xn (by omega)] at hn;rw [hn,sb,p7,xm (by omega)];rfl
     ·rw [xm c1,sb];simp only;simp [isN,is2,c1]
   ·rw [xm h2];by_cases h3:a.toNat/16=14
    ·rw [zlW 3 (.inr (.inr (.inl ⟨rfl,by omega,by omega⟩))),xn h3];simp only
     match t with
     | []=>rw [itT (by simp)];rfl
     | [b]=>rw [itT (by simp)];rfl
     | b::c::t=>
      rw [ud,zgj (i:=1) (j:=3) (a:=1) (b:=3) rfl rfl (by omega) (by simp),sb];have e0:=zJN (w:=a.toNat%16) (b:=b) (c:=c) (by omega);have e0':zcj (((a::b::c::t).drop 1).take (3 - 1)) ((a.toNat%16:Nat):Int) 0=_:=e0;rw [e0'];have hb:=b.toNat_lt;have hc:=c.toNat_lt;by_cases c1:cont b=true
      ·rw [xn c1];by_cases c2:cont c=true
       ·rw [xn c2,sb];simp only;have hn:=ztB (64*(64*(a.toNat%16)+b.toNat%64)+c.toNat%64);simp only [isN,is3,c1,c2,qr,xK];simp only [cont,xK] at c1 c2;by_cases h:(a.toNat=224->160<=b.toNat)/\(a.toNat=237->b.toNat<160)
        ·rw [xm (by omega),xm (by omega),xm (by omega),xn (by omega)] at hn;rw [hn,sb,p8,xn (by omega)];rfl
        ·by_cases g:64*(64*(a.toNat%16)+b.toNat%64)+c.toNat%64<2048
         ·by_cases g':64*(64*(a.toNat%16)+b.toNat%64)+c.toNat%64<128
          ·rw [xn g'] at hn;rw [hn,sb,p7,xm (by omega)];rfl
          ·rw [xm g',xn g] at hn;rw [hn,sb,p7,xm (by omega)];rfl
         ·rw [xm (by omega),xm g,xn (by omega)] at hn;rw [hn,sb,p7,xm (by omega)];rfl
       ·rw [xm c2,sb];simp only;simp [isN,is3,c2]
      ·rw [xm c1,sb];simp only;simp [isN,is3,c1]
    ·rw [xm h3];by_cases h4:a.toNat/8=30
     ·rw [zlW 4 (.inr (.inr (.inr ⟨rfl,by omega⟩))),xn h4];simp only
      match t with
      | []=>rw [itT (by simp)];rfl
      | [b]=>rw [itT (by simp)];rfl
      | [b,c]=>rw [itT (by simp)];rfl
      | b::c::d::t=>
       rw [ud,zgj (i:=1) (j:=4) (a:=1) (b:=4) rfl rfl (by omega) (by simp),sb];have e0:=zJO (w:=a.toNat%8) (b:=b) (c:=c) (d:=d) (by omega);have e0':zcj (((a::b::c::d::t).drop 1).take (4 - 1)) ((a.toNat%8:Nat):Int) 0=_:=e0;rw [e0'];have hb:=b.toNat_lt;have hc:=c.toNat_lt;have hd:=d.toNat_lt;by_cases c1:cont b=true
       ·rw [xn c1];by_cases c2:cont c=true
        ·rw [xn c2];by_cases c3:cont d=true
         ·rw [xn c3,sb];simp only;have hn:=ztB (64*(64*(64*(a.toNat%8)+b.toNat%64)+c.toNat%64)+d.toNat%64);simp only [isN,is4,c1,c2,c3,qr,xK];simp only [cont,xK] at c1 c2 c3;by_cases h:a.toNat<245/\(a.toNat=240->144<=b.toNat)/\(a.toNat=244->b.toNat<144)
          ·rw [xm (by omega),xm (by omega),xm (by omega),xm (by omega),xn (by omega)] at hn;rw [hn,sb,p8,xn (by omega)];rfl
          ·have hw:¬(65536<=64*(64*(64*(a.toNat%8)+b.toNat%64)+c.toNat%64)+d.toNat%64/\64*(64*(64*(a.toNat%8)+b.toNat%64)+c.toNat%64)+d.toNat%64<=1114111):=by omega
           generalize 64*(64*(64*(a.toNat%8)+b.toNat%64)+c.toNat%64)+d.toNat%64=w at hn hw
           have hx:∃x:Int,zml w=some x/\x≠4:=⟨_,hn,by (repeat' split)<;>omega⟩;obtain ⟨x,hx,h4⟩:=hx;rw [hx,sb,uc,xm (by omega)];rfl
         ·rw [xm c3,sb];simp only;simp [isN,is4,c3]
        ·rw [xm c2,sb];simp only;simp [isN,is4,c2]
       ·rw [xm c1,sb];simp only;simp [isN,is4,c1]
     ·rw [xm h4,p7];by_cases h5:240<=a.toNat
      ·rw [zlW 4 (.inr (.inr (.inr ⟨rfl,h5⟩)))];cases hh:isN 4 (a::t) with
       | false=>rfl
       | true=>
        match t,hh with
        | b::c::d::t,hh=>simp only [isN,is4,xK] at hh;omega
      ·by_cases h0:nxt (a::t)=0
       ·rw [h0];rfl
       ·obtain ⟨a',t',e,_,g⟩:=zkb (ztE h0);cases e;omega
theorem zEm (hb:b.length<=1152921504606846976) (l:List UInt8):∀(a c:Nat),c<=a->a<=b.length->l=b.drop a->
  zgG b a c ((nxt l:Nat):Int)=some (((a+(pre4 l).1:Nat):Int),((c+(pre4 l).2:Nat):Int)):=by
 refine zFA (fun l=>∀(a c:Nat),c<=a->a<=b.length->l=b.drop a->zgG b a c ((nxt l:Nat):Int)=some (((a+(pre4 l).1:Nat):Int),((c+(pre4 l).2:Nat):Int))) ?_ ?_ l
 ·intro l h a c hc ha hl;rw [h,zDL h];refine ztq ?_;unfold zgF;rw [p8];rfl
 ·intro l h ih a c hc ha hl;subst hl;have h4:=zye (b.drop a);have hle:=zqa (b.drop a);simp only [xN] at hle;have e1:(b.drop a).drop (nxt (b.drop a))=b.drop (a+nxt (b.drop a)):=by rw [xU]
  refine (ztp (atv':=((a+nxt (b.drop a):Nat):Int)) (points':=((c+1:Nat):Int)) (size':=((nxt (b.drop (a+nxt (b.drop a))):Nat):Int)) ?_).trans ?_
  ·unfold zgF;rw [uc,ue,znM (a:=a+nxt (b.drop a)) (by push_cast;rfl) rfl (by omega),sb,zCx,sb,ue];rfl
  ·rw [<-e1,ih (a+nxt (b.drop a)) (c+1) (by omega) (by omega) e1,zHp h];simp only [qc,Nat.add_comm 1]
theorem zGk (hb:b.length<=1152921504606846976):zoG b=some (((pre4 b).1:Int),((pre4 b).2:Int)):=by
 unfold zoG;rw [zCx,sb];have h:=zEm hb b 0 0 (xt _) (xx _) rfl;simp only [xP] at h;have h':zgG b 0 0 ((nxt b:Nat):Int)=some (((pre4 b).1:Int),((pre4 b).2:Int)):=h;rw [h',sb]
theorem zEf (hb:b.length<=1152921504606846976):zmi b=some ((pre4 b).1:Int):=by
 unfold zmi;rw [zGk hb,sb]
theorem zEg (hb:b.length<=1152921504606846976):zmj b=some (ziF b):=by
 unfold zmj ziF;rw [zEf hb,sb,zqt]
def zIR:List Str:=[[],[105,110,116,51,50],[105,110,116,54,52],[117,105,110,116,51,50],[117,105,110,116,54,52],[115,105,110,116,51,50],[115,105,110,116,54,52],[98,111,111,108],[101,110,117,109],[102,105,120,101,100,51,50],[115,102,105,120,101,100,51,50],[102,108,111,97,116],[102,105,120,101,100,54,52],[115,102,105,120,101,100,54,52],[100,111,117,98,108,101],[115,116,114,105,110,103],[98,121,116,101,115],[109,101,115,115,97,103,101]]
def zEZ (k:Int):Str:=(zIR[k.toNat]?).getD []
def kT:List (Int×zq):=[(1,⟨[105,110,116,51,50],0⟩),(2,⟨[105,110,116,54,52],0⟩),(3,⟨[117,105,110,116,51,50],0⟩),(4,⟨[117,105,110,116,54,52],0⟩),(5,⟨[115,105,110,116,51,50],0⟩),(6,⟨[115,105,110,116,54,52],0⟩),(7,⟨[98,111,111,108],0⟩),(8,⟨[101,110,117,109],0⟩),(9,⟨[102,105,120,101,100,51,50],5⟩),(10,⟨[115,102,105,120,101,100,51,50],5⟩),(11,⟨[102,108,111,97,116],5⟩),(12,⟨[102,105,120,101,100,54,52],1⟩),(13,⟨[115,102,105,120,101,100,54,52],1⟩),(14,⟨[100,111,117,98,108,101],1⟩),(15,⟨[115,116,114,105,110,103],2⟩),(16,⟨[98,121,116,101,115],2⟩),(17,⟨[109,101,115,115,97,103,101],2⟩)]
theorem zzz:zke=some kT:=rfl
theorem zsU (h:zbY k=true):k=1\/k=2\/k=3\/k=4\/k=5\/k=6\/k=7\/k=8\/k=9\/k=10\/k=11\/k=12\/k=13\/k=14\/k=15\/k=16\/k=17:=by
 have:=yA h;omega
theorem zIB (h:zbY k=true):mget kT k=some ⟨zEZ k,zcv k⟩:=by
 rcases zsU h with rfl| rfl| rfl| rfl| rfl| rfl| rfl| rfl| rfl| rfl| rfl| rfl| rfl| rfl| rfl| rfl| rfl<;>rfl
theorem zGU (h:e∈kT):zbY e.1=true/\e.2=⟨zEZ e.1,zcv e.1⟩:=by
 have:kT.all (fun e=>zbY e.1&&decide (e.2=⟨zEZ e.1,zcv e.1⟩))=true:=by decide
 have h1:=xD.1 this e h;simp only [xq,xK] at h1;exact h1
theorem zGV (h:zbY k=false):mget kT k=none:=by
 cases hg:mget kT k with
 | none=>rfl
 | some x=>
  have mem:∀{m:List (Int×zq)} {x:zq},mget m k=some x->(k,x)∈m:=fun {m x} hg=>by
   induction m with
   | nil=>cases hg
   | cons p m ih=>
    rw [mget] at hg;split at hg
    ·rename_i e;cases hg;rw [e];exact xo
    ·exact xp _ (ih hg)
  have h1:=(zGU (mem hg)).1;simp only at h1;rw [h] at h1;cases h1
theorem zzB (k:Int):zjM k=some (if zbY k then (zcv k,0) else (0,2)):=by
 unfold zjM;rw [zzz,sb];cases h:zbY k with
 | true=>rw [zIB h];rfl
 | false=>rw [zGV h];rfl
theorem zux (k:Int):zhu k=some (kNum k):=by
 unfold zhu;rw [zzB,sb];cases h:zbY k with
 | true=>
  rcases zsU h with rfl| rfl| rfl| rfl| rfl| rfl| rfl| rfl| rfl| rfl| rfl| rfl| rfl| rfl| rfl| rfl| rfl<;>rfl
 | false=>
  have h1:=pV h;have:kNum k=false:=yn (by omega);rw [this];rfl
theorem zGX:kT.map Prod.fst=[1,2,3,4,5,6,7,8,9,10,11,12,13,14,15,16,17]:=rfl
theorem zGW:zod=some [1,2,3,4,5,6,7,8,9,10,11,12,13,14,15,16,17]:=by
 have e:zqI kT=some [1,2,3,4,5,6,7,8,9,10,11,12,13,14,15,16,17]:=by
  unfold zqI;rw [xn ⟨by decide,by decide⟩,zGX,List.mergeSort_of_pairwise (by decide)]
 unfold zod;rw [zzz,sb,e,sb]
theorem zwH (k:Int) (h:0<=w/\w<=18446744073709551615):ziz k w=some (if kNum k then (zeZ k w,0) else (0,2)):=by
 have hs:=zyv w;have hc:=zqv k h;unfold ziz;by_cases h1:k=1\/k=8
 ·have e:(if (k==1)=true then some (k==1) else some (k==8))=some true:=by rcases h1 with rfl| rfl<;>rfl
  have hn:kNum k=true:=xV (by omega);rw [e,sb,itT rfl,zDY,sb,zEn (by omega),sb,hn];unfold zeZ;rw [xn h1];rfl
 ·have e:(if (k==1)=true then some (k==1) else some (k==8))=some false:=by rw [ud];simp;omega
  rw [e,sb,itF rfl];by_cases h2:k=3\/k=5\/k=9\/k=10\/k=11
  ·have e2:(if (k==3)=true then some (k==3) else if (k==5)=true then some (k==5) else if (k==9)=true then some (k==9) else if (k==10)=true then some (k==10) else some (k==11))=some true:=by
    rcases h2 with rfl| rfl| rfl| rfl| rfl<;>rfl
   have hn:kNum k=true:=xV (by omega);have hw:u64.wrap (w%4294967296)=w%4294967296:=by rw [wrap_u64];omega
   rw [e2,sb,itT rfl,zzD,sb,hn,hw];unfold zeZ;rw [xm h1,xn h2];rfl
  ·have e2:(if (k==3)=true then some (k==3) else if (k==5)=true then some (k==5) else if (k==9)=true then some (k==9) else if (k==10)=true then some (k==10) else some (k==11))=some false:=by
    rw [ud,ud,ud,ud];simp;omega
   rw [e2,sb,itF rfl];by_cases h7:k=7
   ·have hn:kNum k=true:=xV (by omega);rw [itT (by simpa using h7),hn];unfold zmI zeZ;rw [sb,xm h1,xm h2,xn h7];by_cases h0:0<w
    ·rw [xn h0];by_cases h10:1<w
     ·rw [xn h10];rfl
     ·rw [xm h10,show w=1 by omega];rfl
    ·rw [xm h0,xm (by omega),show w=0 by omega];rfl
   ·rw [itF (by simpa using h7)];by_cases hn:kNum k=true
    ·have hk:=yA hn;have e3:(if (k==2)=true then some (k==2) else if (k==4)=true then some (k==4) else if (k==6)=true then some (k==6) else if (k==12)=true then some (k==12) else if (k==13)=true then some (k==13) else some (k==14))=some true:=by
      have:k=2\/k=4\/k=6\/k=12\/k=13\/k=14:=by omega
      rcases this with rfl| rfl| rfl| rfl| rfl| rfl<;>rfl
     rw [e3,sb,itT rfl,hn];unfold zeZ;rw [xm h1,xm h2,xm h7];rfl
    ·have hn:kNum k=false:=by simpa using hn
     have hk:=pV hn;have e3:(if (k==2)=true then some (k==2) else if (k==4)=true then some (k==4) else if (k==6)=true then some (k==6) else if (k==12)=true then some (k==12) else if (k==13)=true then some (k==13) else some (k==14))=some false:=by
      rw [ud,ud,ud,ud,ud];simp;omega
     rw [e3,sb,itF rfl,hn];rfl
def lt7 (c:UInt8):Bool:=decide (97<=c.toNat/\c.toNat<=122\/65<=c.toNat/\c.toNat<=90\/c.toNat=95)
def dg7 (c:UInt8):Bool:=decide (48<=c.toNat/\c.toNat<=57)
theorem zur (c:UInt8):zfw (c.toNat:Int)=some (dg7 c):=by
 unfold zfw dg7;congr 1;rw [yy];simp;omega
theorem zzp (c:UInt8):zfU (c.toNat:Int)=some (lt7 c):=by
 unfold zfU lt7;congr 1;by_cases h1:(c.toNat:Int)>=97<;>by_cases h2:(c.toNat:Int)>=65<;>simp only [h1,h2,pp,pq,yi,yc,qu]<;>rw [yy]<;>simp<;>omega
theorem zzq (s:List UInt8) (hs:s.length<=1152921504606846976):∀(l:List UInt8) (i:Nat),s.drop i=l->zei s i=some (if (l.all fun c=>lt7 c|| dg7 c)=true then .inl () else .inr ()):=by
 intro l
 induction l with
 | nil=>
  intro i hd;have:=zgK hd;refine zji ?_;unfold zdF;rw [ud];rfl
 | cons c l ih=>
  intro i hd;obtain ⟨hi,hc,hd'⟩:=zfI hd;have hb:zdF s i=if (lt7 c|| dg7 c)=true then some (.inl ((i+1:Nat):Int)) else some (.inr (.inr ())):=by
   unfold zdF;rw [uc,zS rfl hi,sb,hc,zzp,sb,sb,zur,ue];cases lt7 c<;>cases dg7 c<;>rfl
  rw [yR];cases hk:(lt7 c|| dg7 c) with
  | false=>
   rw [hk] at hb;rw [zji hb];rfl
  | true=>
   rw [hk] at hb;rw [zoz hb,ih _ hd',yV]
theorem zCK:∀(l:List UInt8) (i:Nat),0<i->nmA i l=l.all fun c=>lt7 c|| dg7 c
 | [],_,_=>rfl
 | c::l,i,h=>by
  rw [nmA,zCK l (i+1) (by omega),yR];congr 1;unfold nmc lt7 dg7;rw [yy];simp;omega
theorem zwD (hs:s.length<=1152921504606846976):zgf s=some (zeE s):=by
 unfold zgf zeE;have hl:=zzq s hs s 0 rfl;have hl':zei s 0=_:=hl;cases s with
 | nil=>rfl
 | cons c l=>
  rw [p9];by_cases h60:((c::l).length:Int)>60
  ·rw [itT (by simpa using h60),sb,itT rfl];have:decide (1<=(c::l).length/\(c::l).length<=60)=false:=by simp only [pP];omega
   rw [this,Bool.and_false]
  ·have hd:decide (1<=(c::l).length/\(c::l).length<=60)=true:=by simp only [xK];refine ⟨by simp,by omega⟩
   have hc:idx (c::l) 0=some c:=by simp [idx]
   rw [itF (by simpa using h60),hc,sb,zur,sb,sb,hd,Bool.and_true,hl',sb];have e:nmA 0 (c::l)=(lt7 c&&l.all fun c=>lt7 c|| dg7 c):=by
    rw [nmA,zCK l 1 (by omega)];congr 1;unfold nmc lt7;rw [yy];simp;omega
   have hx:lt7 c=true->dg7 c=false:=by
    unfold lt7 dg7;simp only [xK,pP];omega
   rw [e,yR];cases h1:lt7 c<;>cases h2:dg7 c<;>first| (rw [hx h1] at h2;cases h2;done)| skip
   ·rfl
   ·rfl
   ·cases l.all fun c=>lt7 c|| dg7 c<;>rfl
theorem zEQ (hl:l.length<=1152921504606846976) (v:Int):zcO l v=some (zjZ (fun x=>v==x) l):=by
 unfold zcO;have h:=zoP (fun x=>v==x) l (fun i=>zbf l v i) (zfx (by unfold zaA;rw [p9])) (fun i hi=>by
  by_cases hp:(v==l[i])=true
  ·rw [xn hp];exact zfx (by unfold zaA;rw [uc,zS rfl hi,sb,itT hp])
  ·rw [xm hp];exact ziH (by unfold zaA;rw [uc,zS rfl hi,sb,itF (by simpa using hp),ue];rfl)) l.length 0 (by omega) (fun j _ h=>by omega)
 have h':zbf l v 0=_:=h;rw [h',sb];unfold zjZ;cases l.findIdx? (fun x=>v==x)<;>rfl
theorem zvP {α:Type} (p:α->Bool) (l:List α):decide (zjZ p l>=0)=l.any p:=by
 cases h:l.findIdx? p with
 | none=>
  rw [zkS h];rw [qP] at h
  symm
  rw [List.any_eq_false.2 fun x hx=>by simpa using h x hx];rfl
 | some i=>
  rw [zkT h];rw [pj] at h;obtain ⟨hi,hp,_⟩:=h
  symm
  rw [q9.2 ⟨l[i],xy hi,hp⟩];simp
theorem zzc (hl:l.length<=1152921504606846976) (v:Int):zbR l v=some (l.any fun x=>v==x):=by
 unfold zbR;rw [zEQ hl,sb,zvP]
def K17:List Int:=[1,2,3,4,5,6,7,8,9,10,11,12,13,14,15,16,17]
theorem zDw (k:Int):(K17.any fun x=>k==x)=zbY k:=by
 unfold zbY K17;rw [yy];simp;omega
def hasN (m:List (zr×Bool)) (i:Int) (n:Str):Bool:=(mget m (⟨i,n⟩:zr)).getD false
def hasU (m:List (zt×Bool)) (i:Int) (n:Int):Bool:=(mget m (⟨i,n⟩:zt)).getD false
theorem zlT (m:List (zr×Bool)) (i j:Int) (n k:Str):hasN (mput m ⟨i,n⟩ true) j k=(decide (j=i/\k=n)|| hasN m j k):=by
 unfold hasN;rw [zhz];by_cases h:j=i/\k=n
 ·obtain ⟨rfl,rfl⟩:=h;simp
 ·rw [xm (fun e=>h (by injection e with e1 e2;exact ⟨e1,e2⟩))];simp [h]
theorem zzm (m:List (zt×Bool)) (i j:Int) (n k:Int):hasU (mput m ⟨i,n⟩ true) j k=(decide (j=i/\k=n)|| hasU m j k):=by
 unfold hasU;rw [zhz];by_cases h:j=i/\k=n
 ·obtain ⟨rfl,rfl⟩:=h;simp
 ·rw [xm (fun e=>h (by injection e with e1 e2;exact ⟨e1,e2⟩))];simp [h]
theorem zzr (n:Int):zfV n=some (decide ¬(n<1\/n>536870911\/(19000<=n/\n<20000))):=by
 unfold zfV;congr 1;rw [yy];simp;omega
theorem zBm (f:Fld):zgC f=some (f.Repeated&&kNum f.Kind):=by
 unfold zgC;rw [zux];cases f.Repeated<;>rfl
theorem zFh (n:Int) (K:List Int) (nm:List (zr×Bool)) (nu:List (zt×Bool)) (f:Fld):zev ⟨n,K,nm,nu⟩ f=some (decide ¬(f.Kind=17/\(f.Of<0\/f.Of>=n)\/f.Kind≠17/\f.Of≠0)):=by
 unfold zev;by_cases h:f.Kind=17
 ·rw [itT (by simpa using h)];congr 1;rw [yy];simp [h]
 ·rw [itF (by simpa using h)];congr 1;rw [yy];simp [h]
theorem zEF (hf:f.Name.length<=1152921504606846976) (hN:hasN nm i f.Name=prev.any fun g=>g.Name==f.Name) (hU:hasU nu i f.Number=prev.any fun g=>g.Number==f.Number):
  zeu ⟨n,K17,nm,nu⟩ i f=some (zco n prev f,if zco n prev f=0 then (mput nm ⟨i,f.Name⟩ true,mput nu ⟨i,f.Number⟩ true) else (nm,nu)):=by
 unfold zeu;rw [zwD hf,sb];have e1:(mget nm (⟨i,f.Name⟩:zr)).getD false=hasN nm i f.Name:=rfl;have e2:(mget nu (⟨i,f.Number⟩:zt)).getD false=hasU nu i f.Number:=rfl;simp only [e1,e2,hN,hU];have hz:∀(k:Int) (x y:List (zr×Bool)×List (zt×Bool)),k≠0->(if k=0 then x else y)=y:=fun k x y h=>xm h
 by_cases h1:zeE f.Name=false
 ·have hF:zco n prev f=5:=by unfold zco;rw [xn h1]
  rw [hF,hz 5 _ _ (by decide),itT (by rw [h1];rfl)]
 rw [itF (show (!zeE f.Name)=false by simpa using h1)];by_cases h2:(prev.any fun g=>g.Name==f.Name)=true
 ·have hF:zco n prev f=6:=by unfold zco;rw [xm h1,xn h2]
  rw [hF,hz 6 _ _ (by decide),itT h2]
 have h2':(prev.any fun g=>g.Name==f.Name)=false:=pt h2;rw [itF h2',zzr,sb];by_cases h3:f.Number<1\/f.Number>536870911\/(19000<=f.Number/\f.Number<20000)
 ·have hF:zco n prev f=7:=by unfold zco;rw [xm h1,xm h2,xn h3]
  rw [hF,hz 7 _ _ (by decide),itT (by rw [yn (fun h=>h h3)];rfl)]
 rw [itF (by rw [xV h3];rfl)];by_cases h4:(prev.any fun g=>g.Number==f.Number)=true
 ·have hF:zco n prev f=8:=by unfold zco;rw [xm h1,xm h2,xm h3,xn h4]
  rw [hF,hz 8 _ _ (by decide),itT h4]
 have h4':(prev.any fun g=>g.Number==f.Number)=false:=pt h4;rw [itF h4',zzc (by decide),sb,zDw];by_cases h5:zbY f.Kind=false
 ·have hF:zco n prev f=9:=by unfold zco;rw [xm h1,xm h2,xm h3,xm h4,xn h5]
  rw [hF,hz 9 _ _ (by decide),itT (by rw [h5];rfl)]
 rw [itF (show (!zbY f.Kind)=false by simpa using h5),zBm];have hg:(if f.Packed=true then (some (f.Repeated&&kNum f.Kind)>>=fun rv4=>some (!rv4)) else some false)=some (decide (f.Packed=true/\¬(f.Repeated=true/\kNum f.Kind=true))):=by
  cases f.Packed<;>cases f.Repeated<;>cases kNum f.Kind<;>rfl
 rw [hg,sb];by_cases h6:f.Packed=true/\¬(f.Repeated=true/\kNum f.Kind=true)
 ·have hF:zco n prev f=10:=by unfold zco;rw [xm h1,xm h2,xm h3,xm h4,xm h5,xn h6]
  rw [hF,hz 10 _ _ (by decide),itT (xV h6)]
 rw [itF (yn h6),zFh,sb];by_cases h7:f.Kind=17/\(f.Of<0\/f.Of>=n)\/f.Kind≠17/\f.Of≠0
 ·have hF:zco n prev f=11:=by unfold zco;rw [xm h1,xm h2,xm h3,xm h4,xm h5,xm h6,xn h7]
  rw [hF,hz 11 _ _ (by decide),itT (by rw [yn (fun h=>h h7)];rfl)]
 have hF:zco n prev f=0:=by unfold zco;rw [xm h1,xm h2,xm h3,xm h4,xm h5,xm h6,xm h7]
 rw [hF,xn rfl,itF (by rw [xV h7];rfl)]
theorem zBn {n:Int} {nm:List (zr×Bool)} {nu:List (zt×Bool)} {prev:List Mes} {m:Mes} (hm:m.Name.length<=1152921504606846976) (hN:hasN nm (-1) m.Name=prev.any fun g=>g.Name==m.Name):
  zdK ⟨n,K17,nm,nu⟩ m=some (if zeE m.Name=false then (2,nm,nu) else if (prev.any fun g=>g.Name==m.Name)=true then (3,nm,nu) else if 200<m.Fields.length then (4,nm,nu) else (0,mput nm ⟨-1,m.Name⟩ true,nu)):=by
 unfold zdK;rw [zwD hm,sb];have e1:(mget nm (⟨(-1),m.Name⟩:zr)).getD false=hasN nm (-1) m.Name:=rfl;simp only [e1,hN];by_cases h1:zeE m.Name=false
 ·rw [xn h1,itT (show (!zeE m.Name)=true by rw [h1];rfl)]
 rw [xm h1,itF (show (!zeE m.Name)=false by simpa using h1)];by_cases h2:(prev.any fun g=>g.Name==m.Name)=true
 ·rw [xn h2,itT h2]
 have h2':(prev.any fun g=>g.Name==m.Name)=false:=pt h2;rw [xm h2,itF h2'];by_cases h3:200<m.Fields.length
 ·rw [xn h3,itT (show decide ((m.Fields.length:Int)>200)=true by simp;omega)]
 rw [xm h3,itF (show decide ((m.Fields.length:Int)>200)=false by simp;omega)]
structure Met (nm:List (zr×Bool)) (nu:List (zt×Bool)) (i:Nat) (prev:List Mes) (p:List Fld):Prop where
 mes:∀n,hasN nm (-1) n=prev.any fun g=>g.Name==n
 nam:∀n,hasN nm i n=p.any fun g=>g.Name==n
 num:∀n,hasU nu i n=p.any fun g=>g.Number==n
 later:∀(j:Nat) n,i<j->hasN nm j n=false
 laterU:∀(j:Nat) n,i<j->hasU nu j n=false
theorem Met.step (h:Met nm nu i prev p) (f:Fld):Met (mput nm ⟨i,f.Name⟩ true) (mput nu ⟨i,f.Number⟩ true) i prev (p++[f]):=by
 refine ⟨fun n=>?_,fun n=>?_,fun n=>?_,fun j n hj=>?_,fun j n hj=>?_⟩
 ·rw [zlT,h.mes,yn (by omega),pN]
 ·rw [zlT,h.nam,qR,Bool.or_comm];congr 1;simp only [qD,List.any_nil,qt];rw [yy];simp;exact eq_comm
 ·rw [zzm,h.num,qR,Bool.or_comm];congr 1;simp only [qD,List.any_nil,qt];rw [yy];simp;exact eq_comm
 ·rw [zlT,h.later j n hj,yn (by omega)];rfl
 ·rw [zzm,h.laterU j n hj,yn (by omega)];rfl
theorem zEz (hb:m.Fields.length<=140737488351232) (hn:∀f∈m.Fields,f.Name.length<=140737488351232):
  ∀(l:List Fld) (k:Nat) (nm:List (zr×Bool)) (nu:List (zt×Bool)),m.Fields.drop k=l->k<=m.Fields.length->Met nm nu i prev (m.Fields.take k)->
   (∃j w,msgF s.length (m.Fields.take k) l=some (j,w)/\zdm K17 s i m k nm nu=some (.inr ((j:Int),w)))\/
   (msgF s.length (m.Fields.take k) l=none/\∃nm' nu',zdm K17 s i m k nm nu=some (.inl (nm',nu'))/\Met nm' nu' i prev m.Fields):=by
 intro l
 induction l with
 | nil=>
  intro k nm nu hd hk hM;have:=zgK hd;have hkl:k=m.Fields.length:=by omega
  subst hkl;refine .inr ⟨rfl,nm,nu,zjy ?_,by simpa using hM⟩;unfold zct;rw [p9]
 | cons f l ih=>
  intro k nm nu hd hk hM;obtain ⟨hi,hc,hd'⟩:=zfI hd;have hf:=hn f (by rw [<-hc];exact xy hi);have hfld:=zEF (n:=(s.length:Int)) (i:=(i:Int)) (nm:=nm) (nu:=nu) (prev:=m.Fields.take k) (f:=f) (by omega) (hM.nam _) (hM.num _);have htk:m.Fields.take (k+1)=m.Fields.take k++[f]:=by rw [pO hi,hc]
  have wz:(m.Fields.take k).length=k:=by simp;omega
  obtain ⟨bd,_⟩:=zue (s.length:Int) (m.Fields.take k) f;rw [msgF];by_cases h0:zco s.length (m.Fields.take k) f=0
  ·rw [xm (by omega)];rw [h0,xn rfl] at hfld;have hstep:zct K17 s i m k nm nu=some (.inl (((k+1:Nat):Int),mput nm ⟨i,f.Name⟩ true,mput nu ⟨i,f.Number⟩ true)):=by
    unfold zct;rw [uc,zS rfl hi,sb,hc,hfld,sb];dsimp only;rw [itF (show ((0:Int) !=0)=false from rfl),ue];rfl
   rw [zpv hstep,<-htk];exact ih (k+1) _ _ hd' (by omega) (by rw [htk];exact hM.step f)
  ·rw [xn (by omega)];rw [xm h0] at hfld;refine .inl ⟨k,_,by rw [wz],zjy ?_⟩;unfold zct;rw [uc,zS rfl hi,sb,hc,hfld,sb];dsimp only;rw [itT (show (zco (s.length:Int) (m.Fields.take k) f !=0)=true by simpa using h0)]
theorem zEy {s:List Mes} (hw:WS s):∀(l:List Mes) (i:Nat) (nm:List (zr×Bool)) (nu:List (zt×Bool)),s.drop i=l->i<=s.length->Met nm nu i (s.take i) []->
  zeI K17 s i nm nu=some (match chkF s.length (s.take i) l with| some (j,k,w)=> .inr ((j:Int),k,w)| none=> .inl ()):=by
 intro l
 induction l with
 | nil=>
  intro i nm nu hd hi hM;have:=zgK hd;refine zeb ?_;unfold zbb;rw [ud];rfl
 | cons m l ih=>
  intro i nm nu hd hi hM;obtain ⟨hil,hc,hd'⟩:=zfI hd;obtain ⟨w1,w2⟩:=hw;obtain ⟨m1,m2,m3⟩:=w2 m (by rw [<-hc];exact xy hil);have hmes:=zBn (n:=(s.length:Int)) (nm:=nm) (nu:=nu) (prev:=s.take i) (m:=m) (by omega) (hM.mes _);have htk:s.take (i+1)=s.take i++[m]:=by rw [pO hil,hc]
  have wz:(s.take i).length=i:=by simp;omega
  rw [chkF];by_cases h1:zeE m.Name=false
  ·rw [xn h1] at hmes|-;refine zeb ?_;unfold zbb;rw [uc,zS rfl hil,sb,hc,hmes,sb];dsimp only;rw [itT (show ((2:Int) !=0)=true from rfl),wz]
  rw [xm h1] at hmes|-;by_cases h2:((s.take i).any fun g=>g.Name==m.Name)=true
  ·rw [xn h2] at hmes|-;refine zeb ?_;unfold zbb;rw [uc,zS rfl hil,sb,hc,hmes,sb];dsimp only;rw [itT (show ((3:Int) !=0)=true from rfl),wz]
  rw [xm h2] at hmes|-;by_cases h3:200<m.Fields.length
  ·rw [xn h3] at hmes|-;refine zeb ?_;unfold zbb;rw [uc,zS rfl hil,sb,hc,hmes,sb];dsimp only;rw [itT (show ((4:Int) !=0)=true from rfl),wz]
  rw [xm h3] at hmes|-;have hM0:Met (mput nm ⟨-1,m.Name⟩ true) nu i (s.take i++[m]) (m.Fields.take 0):=by
   refine ⟨fun n=>?_,fun n=>?_,fun n=>?_,fun j n hj=>?_,fun j n hj=>hM.laterU j n hj⟩
   ·rw [zlT,hM.mes,qR,Bool.or_comm];congr 1;simp only [qD,List.any_nil,qt];rw [yy];simp;exact eq_comm
   ·rw [zlT,hM.nam,yn (by omega)];rfl
   ·rw [hM.num];rfl
   ·rw [zlT,hM.later j n hj,yn (by omega)];rfl
  have hl2:=zEz (s:=s) (i:=i) m2 m3 m.Fields 0 _ nu rfl (by omega) hM0;simp only [yC] at hl2;rcases hl2 with ⟨j,w,g1,g2⟩| ⟨g1,nm',nu',g2,g3⟩
  ·rw [g1];refine zeb ?_;unfold zbb;have g2':zdm K17 s i m 0 (mput nm ⟨-1,m.Name⟩ true) nu=_:=g2;rw [uc,zS rfl hil,sb,hc,hmes,sb];dsimp only;rw [itF (show ((0:Int) !=0)=false from rfl),g2',sb];simp only [wz]
  ·rw [g1];have hstep:zbb K17 s i nm nu=some (.inl (((i+1:Nat):Int),nm',nu')):=by
    unfold zbb;have g2':zdm K17 s i m 0 (mput nm ⟨-1,m.Name⟩ true) nu=_:=g2;rw [uc,zS rfl hil,sb,hc,hmes,sb];dsimp only;rw [itF (show ((0:Int) !=0)=false from rfl),g2',sb];dsimp only;rw [ue];rfl
   rw [zpu hstep];simp only [];rw [<-htk];refine ih (i+1) nm' nu' hd' (by omega) ⟨fun n=>?_,fun n=>?_,fun n=>?_,fun j n hj=>g3.later j n (by omega),fun j n hj=>g3.laterU j n (by omega)⟩
   ·rw [htk];exact g3.mes n
   ·rw [g3.later (i+1) n (by omega)];rfl
   ·rw [g3.laterU (i+1) n (by omega)];rfl
theorem zEx (hw:WS s):zhZ s=some (⟨(zis s).1,(zis s).2.1,(zis s).2.2⟩,if (zis s).2.2=0 then 0 else 9):=by
 unfold zhZ zis;by_cases h:s.length=0\/100<s.length
 ·rw [uc,xn h];rfl
 ·rw [ud,xm h,zGW,sb];have hl:=zEy hw s 0 [] [] rfl (by omega) ⟨fun n=>rfl,fun n=>rfl,fun n=>rfl,fun j n _=>rfl,fun j n _=>rfl⟩;simp only [yC] at hl;have hl':zeI [1,2,3,4,5,6,7,8,9,10,11,12,13,14,15,16,17] s 0 [] []=_:=hl;rw [hl',sb];cases hc:chkF s.length [] s with
  | none=>rfl
  | some q=>
   obtain ⟨i,k,w⟩:=q;have:=zBY _ _ _ _ _ _ hc;simp only;rw [xm (by omega)]
theorem zFH (hw:WS s):zia s=some (zqj s):=by
 unfold zia zqj;rw [zEx hw,sb];by_cases h:(zis s).2.2=0<;>simp [h]
theorem ztd (h:(zaG k b).2=0):kNum k=true/\(pcs k b).2=0/\(zaG k b).1=(pcs k b).1.map (zie k):=by
 unfold zaG at h|-;cases hn:kNum k with
 | false=>rw [hn,xn rfl] at h;simp at h
 | true=>
  rw [hn,xm (by simp)] at h;rw [xm (by simp)];by_cases h0:(pcs k b).2=0
  ·rw [xn h0];exact ⟨rfl,h0,rfl⟩
  ·rw [xm h0] at h;exact absurd h h0
theorem zvG (h:(zaG k b).2≠0):(zaG k b).1=[]/\((zaG k b).2=2\/(zaG k b).2=3\/(zaG k b).2=4):=by
 unfold zaG at h|-;by_cases hn:kNum k=false
 ·rw [xn hn];simp
 ·rw [xm hn] at h|-;by_cases h0:(pcs k b).2=0
  ·rw [xn h0] at h;exact absurd rfl h
  ·rw [xm h0];rcases zzI k b with h1| h1| h1
   ·exact absurd h1 h0
   ·rw [h1];simp
   ·rw [h1];simp
theorem zET {α:Type} (x y:α):(if (true:Bool)=false then x else y)=y:=rfl
def wid (k:Int):Nat:=if 12<=k then 8 else if 9<=k then 4 else 0
theorem zxg (k:Int):zgP k=some (if kNum k then ((wid k:Int),0) else (0,2)):=by
 cases hn:kNum k with
 | true=>
  have h:=zkd.1 hn;have hk:k=1\/k=2\/k=3\/k=4\/k=5\/k=6\/k=7\/k=8\/k=9\/k=10\/k=11\/k=12\/k=13\/k=14:=by omega
  rcases hk with rfl| rfl| rfl| rfl| rfl| rfl| rfl| rfl| rfl| rfl| rfl| rfl| rfl| rfl<;>rfl
 | false=>
  have h:=pV hn;unfold zgP;have hne:∀c:Int,1<=c->c<=14->(k==c)=false:=fun c h1 h2=>by simp;omega
  simp only [hne 1 (by omega) (by omega),hne 2 (by omega) (by omega),hne 3 (by omega) (by omega),hne 4 (by omega) (by omega),hne 5 (by omega) (by omega),hne 6 (by omega) (by omega),hne 7 (by omega) (by omega),hne 8 (by omega) (by omega),hne 9 (by omega) (by omega),hne 10 (by omega) (by omega),hne 11 (by omega) (by omega),hne 12 (by omega) (by omega),hne 13 (by omega) (by omega),hne 14 (by omega) (by omega)];rfl
theorem zDv (hk:kNum k=true):(zcv k=0↔wid k=0)/\(wid k≠0->∀b:List UInt8,zfr (zcv k) b=decide (wid k=b.length))/\(wid k=0\/wid k=4\/wid k=8):=by
 have:=zkd.1 hk;unfold zcv wid zfr;by_cases h1:12<=k
 ·rw [xm (by omega),xn h1,xn h1];refine ⟨by simp,fun _ b=>?_,by simp⟩;rw [xm (by omega)];simp only [show ((1:Int)=2)=False from by simp,show ((1:Int)=5)=False from by simp,false_or,false_and,xI,qr];simp [eq_comm]
 ·rw [xm (by omega),xm h1,xm h1];by_cases h2:9<=k
  ·rw [xn h2,xn h2];refine ⟨by simp,fun _ b=>?_,by simp⟩;rw [xm (by omega)];simp [eq_comm]
  ·rw [xm h2,xm h2];exact ⟨by simp,fun h=>absurd rfl h,by simp⟩
theorem zEb (b:List UInt8):zhY b=some (if zfr 0 b then ((rd b).1,0) else (0,12)):=by
 unfold zhY zfr;rw [ztI,sb,xn rfl];by_cases h:(rd b).2.2=0/\(rd b).2.1=(b.length:Int)
 ·rw [itF (by simp [h.1,h.2]),xn (by simpa using h)]
 ·rw [uc,xm (by simpa using h)]
theorem zDZ (k:Int) (b:List UInt8):zhX k b=some (if kNum k=false then (0,2) else if zfr (zcv k) b=false then (0,12) else (rawW k b,0)):=by
 unfold zhX;rw [zxg,sb];cases hn:kNum k with
 | false=>rw [xn rfl];rfl
 | true=>
  obtain ⟨e0,ef,_⟩:=zDv hn;simp only [yi];rw [p9,xm (show ¬(true=false) by simp)];by_cases h0:wid k=0
  ·have hw:=e0.2 h0;rw [itT (by simp [h0]),zEb,sb,hw];unfold rawW;cases hf:zfr 0 b with
   | true=>simp [hw]
   | false=>simp
  ·rw [itF (by simpa using h0),ef h0];by_cases hl:wid k=b.length
   ·rw [ud,zHJ,sb,xm (by simpa using hl)];unfold rawW;rw [xm (fun h=>h0 (e0.1 h))]
   ·rw [uc,xn (by simpa using hl)]
theorem zFU (k:Int) (b:List UInt8):zjg k b=some (znf k b):=by
 unfold zjg znf;rw [zDZ,sb];cases hn:kNum k with
 | false=>rfl
 | true=>
  simp only [zET];cases hf:zfr (zcv k) b with
  | false=>rfl
  | true=>
   simp only [zET];rw [p8,zwH k (zpb k),sb,hn,xn rfl]
theorem zFV (h:0<=w/\w<=18446744073709551615):zjh k w=some (if kNum k then ((sPut k w).length:Int) else 0):=by
 have hc:=zqv k h;obtain ⟨c,hcc⟩:∃c:Nat,zeZ k w=c:=⟨(zeZ k w).toNat,by omega⟩;unfold zjh;rw [zxg,sb];cases hn:kNum k with
 | false=>rfl
 | true=>
  simp only [yi];unfold sPut zBH;rw [hcc,xB];unfold wid;by_cases h1:12<=k
  ·rw [xn h1,xn h1,p7,zhg]
  ·rw [xm h1,xm h1];by_cases h2:9<=k
   ·rw [xn h2,xn h2,p7,zhg]
   ·rw [xm h2,xm h2,p8,zwH k h,sb,hn];simp only [yi];rw [hcc,zIK (by omega),sb,zxN]
theorem zwr {α:Type} {l t:List α} {x:α} {k:Nat} (h:l.drop k=x::t):∃hk:k<l.length,l[k]=x/\l.drop (k+1)=t:=by
 have hk:k<l.length:=by
  rcases yN k l.length with h'| h'
  ·exact h'
  ·rw [yu h'] at h;cases h
 rw [yd hk] at h;injection h with h1 h2;exact ⟨hk,h1,h2⟩
theorem zxG (l:List (List UInt8)) (hl:l.length<=1099511627776):∀(t:List (List UInt8)) (k s:Nat),l.drop k=t->s+t.flatten.length<=1099511627776->
  zaE l s k=some ((s+t.flatten.length:Nat):Int):=by
 intro t
 induction t with
 | nil=>
  intro k s hd _;have hk:l.length<=k:=by have:=congrArg List.length hd;simp at this;omega
  refine zhK ?_;unfold zat;rw [ud];simp
 | cons x t ih=>
  intro k s hd hs;obtain ⟨hk,hx,hd'⟩:=zwr hd;simp only [yM,xz] at hs;refine (zhJ (size':=((s+x.length:Nat):Int)) (v':=((k+1:Nat):Int)) ?_).trans ?_
  ·unfold zat;rw [uc,zS rfl hk,sb,hx,ue,ud,ue];push_cast;rfl
  ·rw [ih _ _ hd' (by omega)];simp only [yM,xz];congr 2;omega
theorem zxH (l:List (List UInt8)) (hl:l.length<=1099511627776):∀(t:List (List UInt8)) (k:Nat) (ws:List UInt8),l.drop k=t->ws.length+t.flatten.length<=1099511627776->
  zaF l ws k=some (ws++t.flatten):=by
 intro t
 induction t with
 | nil=>
  intro k ws hd _;have hk:l.length<=k:=by have:=congrArg List.length hd;simp at this;omega
  refine zhM ?_;unfold zau;rw [ud];simp
 | cons x t ih=>
  intro k ws hd hs;obtain ⟨hk,hx,hd'⟩:=zwr hd;simp only [yM,xz] at hs;refine (zhL (newslice':=ws++x) (v2':=((k+1:Nat):Int)) ?_).trans ?_
  ·unfold zau;rw [uc,zS rfl hk,sb,hx,zbn (by omega),sb,ue];push_cast;rfl
  ·rw [ih _ _ hd' (by rw [xz];omega)];simp
theorem zGQ {n:Nat} (h:n<=1099511627776):zcq (n:Int)=some []:=by
 unfold zcq;have e:i64.wrap ((n:Int) - i64.wrap (0 - 0))=n:=by rw [zo (x:=0 - 0) (by omega),ue];omega
 rw [p9,e];by_cases h0:(n:Int)>0
 ·rw [itT (by simpa using h0),zrX (a:=n) rfl (qq _) (by omega),sb];have e0:cut (List.replicate n (0:UInt8)) 0 0=some []:=zqy (b:=0) rfl (xx _);rw [e0,sb]
 ·rw [itF (by simpa using h0)]
theorem zwp (hl:l.length<=1099511627776) (h:l.flatten.length<=1099511627776):zbe l=some l.flatten:=by
 unfold zbe;have h1:=zxG l hl l 0 0 rfl (by omega);have h1':zaE l 0 0=_:=h1;have h2:=zxH l hl l 0 [] rfl (by simpa using h);have h2':zaF l [] 0=_:=h2;rw [h1',sb,zGQ (by omega),sb,h2',sb];simp
def wid9 (k:Int):Int:=if kNum k then (if 12<=k then 8 else if 9<=k then 4 else 1) else 0
theorem zvX (hk:kNum k=true):(((sPut k 0).length:Nat):Int)=(if 12<=k then 8 else if 9<=k then 4 else 1):=by
 have hk':=zkd.1 hk;have hc:(zeZ k 0).toNat=0:=by
  have:k=1\/k=2\/k=3\/k=4\/k=5\/k=6\/k=7\/k=8\/k=9\/k=10\/k=11\/k=12\/k=13\/k=14:=by omega
  rcases this with h| h| h| h| h| h| h| h| h| h| h| h| h| h<;>subst h<;>decide
 unfold sPut;rw [hc];unfold zBH;by_cases h1:12<=k
 ·rw [xn h1,xn h1,zhg];rfl
 ·rw [xm h1,xm h1];by_cases h2:9<=k
  ·rw [xn h2,xn h2,zhg];rfl
  ·rw [xm h2,xm h2,zxN];simp [lenN]
theorem zDV (k:Int):zmd k=some (wid9 k):=by
 unfold zmd wid9;rw [zFV (by omega),sb];cases hk:kNum k with
 | false=>rfl
 | true=>simp only [yi];rw [zvX hk]
theorem zDh (hk:kNum k=true):(k<9->wid9 k=1)/\(¬k<9->k<12->wid9 k=4)/\(¬k<12->wid9 k=8):=by
 unfold wid9;rw [hk,xn rfl];refine ⟨fun h=>?_,fun h1 h2=>?_,fun h=>?_⟩
 ·rw [xm (show ¬12<=k by omega),xm (show ¬9<=k by omega)]
 ·rw [xm (show ¬12<=k by omega),xn (show 9<=k by omega)]
 ·rw [xn (show 12<=k by omega)]
theorem zGr (hk:kNum k=false):wid9 k=0:=by unfold wid9;rw [hk];rfl
theorem zHG (hk:kNum k=true):(wid9 k==0)=false:=by
 obtain ⟨h1,h2,h3⟩:=zDh hk;by_cases h9:k<9
 ·rw [h1 h9];rfl
 ·by_cases h12:k<12
  ·rw [h2 h9 h12];rfl
  ·rw [h3 h12];rfl
theorem zwY (hk:kNum k=true) (b:List UInt8):zmc (wid9 k) b=some (match zle k b with| .inl c=>(0,c)| .inr n=>((n:Int),0)):=by
 obtain ⟨w1,w2,w3⟩:=zDh hk;unfold zmc zle;by_cases h9:k<9
 ·rw [w1 h9,p7,zCU,sb,xn h9];rcases zkl b with h| ⟨h,_⟩| ⟨x,c,y,e,hx,hc,hl,hv,h⟩
  ·rw [h];rfl
  ·rw [h];rfl
  ·rw [h,xm (by simp)];simp
 ·rw [xm h9];by_cases h12:k<12
  ·rw [w2 h9 h12,p8,xn h12];by_cases hl:b.length<4
   ·rw [uc,xn hl]
   ·rw [ud,xm hl];rfl
  ·rw [w3 h12,p8,xm h12];by_cases hl:b.length<8
   ·rw [uc,xn hl]
   ·rw [ud,xm hl];rfl
def zil (k:Int) (b:List UInt8):List (List UInt8)×Int:=if kNum k=false then ([],2) else pcs k b
def go9 {σ ρ:Type} (kb:σ->(List UInt8×Int)->Option (σ⊕ρ)):List (List UInt8)->Int->σ->Option (σ⊕ρ)
 | [],c,s=>if c=0 then some (.inl s) else kb s ([],c)
 | p::ps,c,s=>match kb s (p,0) with
  | some (.inl s')=>go9 kb ps c s'
  | some (.inr r)=>some (.inr r)
  | none=>none
theorem zBC {σ ρ χ:Type} {kb:σ->χ->Option (σ⊕ρ)} {s:σ} {x:χ} {o:σ⊕ρ} (h:kb s x=some o):∃c,rnd kb (.inl s) x=some (c,o)/\(c=true/\(∃s',o= .inl s')\/c=false/\∃r,o= .inr r):=by
 cases o with
 | inl s'=>exact ⟨true,by simp only [rnd,h],.inl ⟨rfl,s',rfl⟩⟩
 | inr r=>exact ⟨false,by simp only [rnd,h],.inr ⟨rfl,r,rfl⟩⟩
theorem zJX {σ ρ:Type} (kb:σ->(List UInt8×Int)->Option (σ⊕ρ)) {k:Int} (hk:kNum k=true) (b:List UInt8):∀(s:σ) (o:σ⊕ρ),go9 kb (pcs k b).1 (pcs k b).2 s=some o->
  ∃q,zeG (rnd kb) (wid9 k) b (.inl s)=some q/\(q= .inl o\/q= .inr o):=by
 refine zpa k (fun b=>∀(s:σ) (o:σ⊕ρ),go9 kb (pcs k b).1 (pcs k b).2 s=some o->
  ∃q,zeG (rnd kb) (wid9 k) b (.inl s)=some q/\(q= .inl o\/q= .inr o)) ?_ ?_ ?_ b
 ·intro s o h;rw [zmM] at h;have h':some (.inl s)=some o:=h;refine ⟨.inl o,zgZ ?_,.inl rfl⟩;unfold zbT;rw [p8,<-yJ h']
 ·intro l c hl hu hc s o h;rw [zoZ hl hu] at h;have h':kb s ([],c)=some o:=by
   have h2:(if c=0 then some (.inl s) else kb s ([],c))=some o:=h
   rwa [xm (by omega)] at h2
  obtain ⟨t,ht,_⟩:=zBC h';refine ⟨.inr o,zgZ ?_,.inr rfl⟩;have hp:=yK.2 hl;unfold zbT;rw [uc,zwY hk,sb,hu];simp only;rw [zgj (i:=0) (j:=0) (a:=0) (b:=0) rfl rfl (xt _) (xx _),sb];simp only [yb,Nat.sub_self,yC];rw [ht,sb,uc]
 ·intro l n hl hu g1 g2 g3 ih s o h;rw [zkk hl hu] at h;have hp:=yK.2 hl;have wL:∀{t:Bool} {y:σ⊕ρ},rnd kb (.inl s) (l.take n,0)=some (t,y)->zbT (rnd kb) (wid9 k) l (.inl s)=(if t then some (.inl (l.drop n,y)) else some (.inr (.inr y))):=by
   intro t y ht;unfold zbT;rw [uc,zwY hk,sb,hu];simp only;rw [zgj (i:=0) (j:=(n:Int)) (a:=0) (b:=n) rfl rfl (xx _) g2,sb];simp only [yb,qA];rw [ht,sb];cases t with
   | false=>rw [p7];rfl
   | true=>rw [p8,znM (a:=n) rfl rfl g2,sb];rfl
  simp only [go9] at h;cases hb:kb s (l.take n,0) with
  | none=>rw [hb] at h;cases h
  | some z=>
   rw [hb] at h;obtain ⟨t,ht,hcase⟩:=zBC hb;have hB:=wL ht;rcases hcase with ⟨rfl,s',rfl⟩| ⟨rfl,r,rfl⟩
   ·obtain ⟨q,hq,hq'⟩:=ih s' o h;exact ⟨q,by rw [zpt hB];exact hq,hq'⟩
   ·have h':some (.inr r)=some o:=h;exact ⟨.inr (.inr r),zgZ hB,.inr (by rw [yJ h'])⟩
theorem zDf {σ ρ:Type} (kb:σ->(List UInt8×Int)->Option (σ⊕ρ)) (k:Int) (b:List UInt8) {s:σ} {o:σ⊕ρ} (h:go9 kb (zil k b).1 (zil k b).2 s=some o):zed k b (rnd kb) (.inl s)=some o:=by
 unfold zed;rw [zDV,sb];unfold zil at h;cases hk:kNum k with
 | false=>
  rw [hk,xn rfl] at h;have h':kb s ([],2)=some o:=h;obtain ⟨t,ht,_⟩:=zBC h';rw [zGr hk,p7,ht,sb]
 | true=>
  rw [hk,xm (by simp)] at h;have hw:=zHG hk;obtain ⟨q,hq,hq'⟩:=zJX kb hk b s o h;rw [itF hw,hq,sb];rcases hq' with rfl| rfl<;>rfl
theorem zvA (k:Int) (b:List UInt8):(zil k b).2=(zaG k b).2/\((zaG k b).2=0->(zil k b).1=(pcs k b).1)/\(∀p∈(zil k b).1,zfr (zcv k) p=true/\1<=p.length/\p.length<=10)/\(zil k b).1.length<=b.length/\((zil k b).1=[]\/kNum k=true):=by
 unfold zil zaG;by_cases hn:kNum k=false
 ·rw [xn hn,xn hn];exact ⟨rfl,fun h=>by simp at h,(fun p hp=>by cases hp),xx _,.inl rfl⟩
 ·have hk:kNum k=true:=by simpa using hn
  rw [xm hn,xm hn];refine ⟨?_,fun _=>rfl,zzJ hk b,zyh k b,.inr hk⟩;by_cases h0:(pcs k b).2=0
  ·rw [xn h0];exact h0
  ·rw [xm h0]
theorem zAy (hk:kNum k=true) (c:Int):∀(ps:List (List UInt8)) (ws:List Int),(∀p∈ps,zfr (zcv k) p=true/\1<=p.length/\p.length<=10)->ws.length+ps.length<=1048576->
  go9 (fun (s:List Int) (x:List UInt8×Int)=>zdH k s x.1 x.2) ps c ws=some (if c=0 then .inl (ws++ps.map (zie k)) else .inr (c,ws++ps.map (zie k)))
 | [],ws,_,hl=>by
  simp only [go9,yO,yl];by_cases h0:c=0
  ·rw [xn h0,xn h0]
  ·rw [xm h0,xm h0];unfold zdH;rw [itT (by simpa using h0)]
 | p::ps,ws,hf,hl=>by
  simp only [xL] at hl;have h1:zdH k ws p 0=some (.inl (ws++[zie k p])):=by
   unfold zdH;rw [p8,zFU,sb,zlb hk (hf p xo).1,zbn (by simp;omega),sb]
  simp only [go9,h1];rw [zAy hk c ps _ (fun q hq=>hf q (xp _ hq)) (by simp;omega)];simp
theorem zDW (k:Int) {b:List UInt8} (hb:b.length<=1048576):zmb k b=some (zaG k b):=by
 obtain ⟨h1,h2,h3,h4,h5⟩:=zvA k b;unfold zmb ziG;rw [sb];simp only;have hgo:go9 (fun (s:List Int) (x:List UInt8×Int)=>zdH k s x.1 x.2) (zil k b).1 (zil k b).2 []=some (if (zil k b).2=0 then .inl ([]++(zil k b).1.map (zie k)) else .inr ((zil k b).2,[]++(zil k b).1.map (zie k))):=by
  rcases h5 with h5| h5
  ·rw [h5];simp only [go9,yO,yl];by_cases h0:(zil k b).2=0
   ·rw [xn h0,xn h0]
   ·rw [xm h0,xm h0];unfold zdH;rw [itT (by simpa using h0)]
  ·exact zAy h5 _ _ _ h3 (by simp;omega)
 rw [zDf _ k b hgo,sb,h1];by_cases h0:(zaG k b).2=0
 ·rw [xn h0,h2 h0];simp only [xR];rw [<-(ztd h0).2.2,<-h0]
 ·rw [xm h0];simp only;rw [<-(zvG h0).1]
theorem zzd (c:Int):∀(ps:List (List UInt8)) (n:Nat),n+ps.length<=1048576->
  go9 (fun (s:Int) (x:List UInt8×Int)=>zeV s x.1 x.2) ps c (n:Int)=some (if c=0 then .inl ((n+ps.length:Nat):Int) else .inr (c,((n+ps.length:Nat):Int)))
 | [],n,hl=>by
  simp only [go9,yZ,yw];by_cases h0:c=0
  ·rw [xn h0,xn h0]
  ·rw [xm h0,xm h0];unfold zeV;rw [itT (by simpa using h0)]
 | p::ps,n,hl=>by
  simp only [xL] at hl;have h1:zeV (n:Int) p 0=some (.inl ((n+1:Nat):Int)):=by
   unfold zeV;rw [p8,ue];rfl
  simp only [go9,h1];rw [zzd c ps (n+1) (by omega)];simp only [xL];rw [Nat.add_right_comm,qc]
theorem zDM (k:Int) {b:List UInt8} (hb:b.length<=1048576):zma k b=some (((zaG k b).1.length:Int),(zaG k b).2):=by
 obtain ⟨h1,h2,h3,h4,h5⟩:=zvA k b;unfold zma ziG;rw [sb];simp only;have hgo:=zzd (zil k b).2 (zil k b).1 0 (by omega);rw [zDf (s:=(0:Int)) _ k b hgo,sb,h1];by_cases h0:(zaG k b).2=0
 ·rw [xn h0,h2 h0];simp only;rw [(ztd h0).2.2,h0];simp
 ·rw [xm h0];simp only;rw [(zvG h0).1];rfl
abbrev PVw:=zc
def prV (v:Vw):PVw:=⟨v.R,v.Field,v.Run⟩
theorem zvE (m:Mes) (he:∀p c,e=some (p,c)->3<=c/\c<=5):∀(l:List Rec) (p c:Int),(vws m e l).2=some (p,c)->3<=c/\c<=6
 | [],p,c,h=>by
  cases e with
  | none=>cases h
  | some q=>
   simp only [vws,ql,xT,ym] at h;have:=he q.1 q.2 rfl;omega
 | r::l,p,c,h=>by
  rw [vws] at h;rcases zeX m r.Number r.Wire with hv| ⟨hv,_⟩| ⟨i,run,hv,_⟩
  ·simp only [hv,xT,ym] at h;omega
  ·simp only [hv] at h;exact zvE m he l p c h
  ·simp only [hv] at h;exact zvE m he l p c h
theorem zIZ (b:List UInt8):∀p c,(spl 0 b).2=some (p,c)->3<=c/\c<=5:=fun p c h=>by
 have:=(zFT 0 b p c h).1;omega
theorem zsD (m:Mes) (b:List UInt8):(zaJ m b).2.2=0/\(vws m (spl 0 b).2 (spl 0 b).1).2=none/\(zaJ m b).1=(vws m (spl 0 b).2 (spl 0 b).1).1/\(zaJ m b).2.1=0\/(3<=(zaJ m b).2.2/\(zaJ m b).2.2<=6)/\(zaJ m b).1=[]:=by
 unfold zaJ vwR;cases h:(vws m (spl 0 b).2 (spl 0 b).1).2 with
 | none=>exact .inl ⟨rfl,rfl,rfl,rfl⟩
 | some q=>exact .inr ⟨zvE m (zIZ b) _ q.1 q.2 h,rfl⟩
theorem zvF :∀{l:List Rec},(vws m e l).2=none->e=none/\(vws m e l).1.map (·.R)=l
 | [],h=>by
  cases e with
  | none=>exact ⟨rfl,rfl⟩
  | some q=>simp [vws] at h
 | r::l,h=>by
  rw [vws] at h|-;rcases zeX m r.Number r.Wire with hv| ⟨hv,_⟩| ⟨i,run,hv,_⟩
  ·simp only [hv] at h;cases h
  ·simp only [hv] at h|-;have:=zvF h;exact ⟨this.1,by simp [this.2]⟩
  ·simp only [hv] at h|-;have:=zvF h;exact ⟨this.1,by simp [this.2]⟩
theorem zAs :∀{l:List Rec},∀v∈(vws m e l).1,v.R∈l/\vw m v.R.Number v.R.Wire= .inr (v.Field,v.Run)
 | [],v,h=>by cases h
 | r::l,v,h=>by
  rw [vws] at h;rcases zeX m r.Number r.Wire with hv| ⟨hv,_⟩| ⟨i,run,hv,_⟩
  ·simp only [hv] at h;cases h
  all_goals
   simp only [hv] at h;rcases xr.1 h with rfl| h
   ·exact ⟨xo,hv⟩
   ·have:=zAs v h;exact ⟨xp _ this.1,this.2⟩
theorem zDb (h:v∈(zaJ m b).1):v.R∈(spl 0 b).1/\vw m v.R.Number v.R.Wire= .inr (v.Field,v.Run):=by
 rcases zsD m b with ⟨_,_,e,_⟩| ⟨_,e⟩
 ·rw [e] at h;exact zAs v h
 ·rw [e] at h;cases h
theorem zxk (t:zaH):zmg t=some (zgm t.Number t.Wire):=by
 have e:zhh t.Wire=some (decide (t.Wire=0\/t.Wire=1\/t.Wire=2\/t.Wire=5)):=by
  unfold zhh;by_cases h0:t.Wire=0
  ·simp [h0]
  by_cases h1:t.Wire=1
  ·simp [h1]
  by_cases h2:t.Wire=2
  ·simp [h2]
  by_cases h5:t.Wire=5
  ·simp [h5]
  simp [h0,h1,h2,h5]
 unfold zmg zgm;rw [e];by_cases h1:1<=t.Number
 ·by_cases h2:t.Number<=536870911
  ·rw [itT (by simpa using h1),itT (by simpa using h2),sb,sb];simp [h1,h2]
  ·rw [itT (by simpa using h1),itF (by simpa using h2),sb];simp [h2]
 ·rw [itF (by simpa using h1),sb];simp [h1]
theorem zJx (w:Nat) (h:w<18446744073709551616):andI .u64 (w:Int) 7=((w%8:Nat):Int):=by
 have e:=zyR (k:= .u64) rfl (a:=w) (b:=7) (by simpa [IntKind.bits] using h) (by simp [IntKind.bits]);have e2:w&&&7=w%8:=p5 w 3;rw [e2] at e;exact e
theorem zJS (w:Nat):shrI .u64 (w:Int) 3=((w/8:Nat):Int):=zvj (k:= .u64) (a:=w) (b:=3) (by simp [IntKind.bits])
theorem zGh (b:List UInt8):zoC b=some ((⟨(tg b).1,(tg b).2.1⟩:zaH),(tg b).2.2.1,(tg b).2.2.2):=by
 obtain ⟨h1,h2,h3,h4,h5,h6,h7⟩:=zgN b;unfold zoC tg;rw [ztI,sb];by_cases h:(rd b).2.2=0
 ·rw [itF (by simpa using h)];obtain ⟨w,hw⟩:∃w:Nat,(rd b).1=w:=⟨(rd b).1.toNat,by omega⟩;rw [hw] at h2|-;rw [zJS,zJx w (by omega)];have e0:i64.wrap ((w%8:Nat):Int)=(w:Int)%8:=by rw [ue];omega
  by_cases hg:4294967295<w
  ·have e1:i64.wrap (if (536870912:Int)<((w/8:Nat):Int) then 536870912 else ((w/8:Nat):Int))=536870912:=by
    split
    ·rfl
    ·rw [ue];omega
   rw [e0,e1,zxk,sb];have e2:zgm 536870912 ((w:Int)%8)=false:=by simp [zgm]
   simp only [e2];rw [p7,zoD h (.inl (by rw [hw];omega))]
  ·have e1:i64.wrap (if (536870912:Int)<((w/8:Nat):Int) then 536870912 else ((w/8:Nat):Int))=(w:Int)/8:=by
    rw [xm (by omega),ue];omega
   rw [e0,e1,zxk,sb];simp only;cases ht:zgm ((w:Int)/8) ((w:Int)%8)
   ·rw [p7,zoD h (.inr (by rw [hw];exact ht))]
   ·rw [p8,zBL h (by rw [hw,ht];simp;omega),hw]
 ·rw [itT (by simpa using h),zyG h]
theorem zHw (hw:w=0\/w=1\/w=2\/w=5) (hb:b.length<=1048576):
  zjf w b=some (match zdW w 0 b with| .inl c=>(0,(if w=0 then (rd b).2.1 else 0),c)| .inr (a,t)=>((a:Int),(t:Int),0)):=by
 obtain ⟨h1,h2,h3,h4,h5,h6,h7⟩:=zgN b;unfold zjf zdW;rcases hw with rfl| rfl| rfl| rfl
 ·rw [p7,zCU,sb,xn rfl];by_cases h:(rd b).2.2=0
  ·rw [xm (by simpa using h)];simp only [h,xP];congr 3;simp;omega
  ·rw [xn h];rfl
 ·rw [p8,p7,sb,p8,xm (show ¬((1:Int)=0) by omega),xm (show ¬((1:Int)=2) by omega)];simp only;have e:u64.wrap (i64.wrap ((b.length:Int) - 0))=(b.length:Int):=by rw [ue,wrap_u64];omega
  rw [e];by_cases g:b.length<8
  ·rw [uc,xn (by simpa using g)];rfl
  ·rw [ud,xm (by simpa using g)];rfl
 ·rw [p8,p8,p8,p7,ztI,sb,sb,xm (show ¬((2:Int)=0) by omega),xn (show (2:Int)=2 from rfl)];by_cases h:(rd b).2.2=0
  ·have hk:=h7 h;rw [itF (by simpa using h),xm (show ¬((rd b).2.2≠0) from fun g=>g h)];simp only;have e:u64.wrap (i64.wrap ((b.length:Int) - (rd b).2.1))=(b.length:Int) - (rd b).2.1:=by rw [ue,wrap_u64];omega
   rw [e];by_cases g:(b.length:Int) - (rd b).2.1<(rd b).1
   ·rw [itT (by simpa using g),xn g];rfl
   ·rw [itF (by simpa using g),xm g,zo (x:=(rd b).1) (by omega),ue];simp;omega
  ·rw [itT (by simpa using h),xn h];rfl
 ·rw [p8,p8,p7,sb,p8,xm (show ¬((5:Int)=0) by omega),xm (show ¬((5:Int)=2) by omega)];simp only;have e:u64.wrap (i64.wrap ((b.length:Int) - 0))=(b.length:Int):=by rw [ue,wrap_u64];omega
  rw [e];by_cases g:b.length<4
  ·rw [uc,xn (by simpa using g)];rfl
  ·rw [ud,xm (by simpa using g)];rfl
theorem zyV (w:Int) (k:Nat) (m:List UInt8):zdW w k m=match zdW w 0 m with| .inl c=> .inl c| .inr (a,t)=> .inr (k+a,k+t):=by
 unfold zdW
 repeat' split
 all_goals first
  | rfl
  | (rename_i h1 h2;injection h2 with h3;injection h3 with h4 h5;subst h4 h5;simp<;>omega)
  | simp_all<;>omega
theorem zCH (hb:b.length<=1048576) (at5:Int):zhC b at5=some (zcS b at5):=by
 unfold zhC zcS;by_cases h:at5<0\/at5>=b.length
 ·rw [itT (by simpa using h),xn h];rfl
 ·rw [itF (by simpa using h),xm h];obtain ⟨p,rfl⟩:∃p:Nat,at5=p:=⟨at5.toNat,by omega⟩;rw [znM rfl rfl (by omega),sb,zGh,sb,xB];have hdl:(b.drop p).length=b.length - p:=by simp
  rcases zvr (b.drop p) with ⟨c,ht,hc⟩| ⟨n,w,k,ht,hr,k1,k2,k3,hrd⟩
  ·have e:rec5 (b.drop p)= .inl c:=by unfold rec5;rw [ht,xn (by simp only;omega)]
   rw [e,ht,uc];rfl
  ·obtain ⟨k,rfl⟩:∃j:Nat,k=j:=⟨k.toNat,by omega⟩
   have e:rec5 (b.drop p)=match zdW w k ((b.drop p).drop k) with
    | .inl c=> .inl c
    | .inr p=> .inr (n,w,p.1,p.2):=by unfold rec5;rw [ht];simp<;>rfl
   have hdd:(b.drop p).drop k=b.drop (p+k):=by rw [xU]
   have hml:(b.drop (p+k)).length=b.length - (p+k):=by simp
   have ew:i64.wrap ((p:Int)+k)=((p+k:Nat):Int):=by rw [ue];push_cast;rfl
   rw [e,ht,p9,hdd];simp only [ew];rw [znM rfl rfl (by omega),sb,zHw (zqo.1 hr).2.2 (by omega),sb,zyV w k];rcases ziS w 0 (b.drop (p+k)) with ⟨c,hc,hc2⟩| ⟨a,t,hc,_,_,hle,_⟩
   ·rw [hc];simp only;rw [uc];rfl
   ·rw [hc];simp only;rw [p8,ue,ue];simp only [xT,ym,zj.mk.injEq,qr,qO];push_cast;omega
abbrev Head:=zM
abbrev Role:=zP
def rol (m:Mes) (h:Head):Role:=match vw m h.number h.wire with
 | .inl c=>⟨0,false,c⟩
 | .inr (i,run)=>⟨i,run,0⟩
theorem zEk (hm:m.Fields.length<=1152921504606846976) (n:Int):zkz m n=some (fldI m n):=by
 unfold zkz zah;have h:=zoP (fun f:Fld=>f.Number==n) m.Fields (fun i=>zO m.Fields n i) (zaW (by unfold zH;rw [p9])) (fun i hi=>by
  by_cases hp:(m.Fields[i].Number==n)=true
  ·rw [xn hp];exact zaW (by unfold zH zid;rw [uc,zS rfl hi,sb,sb,itT hp])
  ·rw [xm hp];exact zdp (by unfold zH zid;rw [uc,zS rfl hi,sb,sb,itF (pt hp),ue];rfl)) m.Fields.length 0 (by omega) (fun j _ h=>by omega)
 have h':zO m.Fields n 0=_:=h;rw [h',sb];unfold fldI zjZ;cases m.Fields.findIdx? (fun f:Fld=>f.Number==n) with
 | none=>rfl
 | some i=>rfl
theorem zEl (f:Fld) (w:Int):zkA f w=some (decide (f.Repeated=true/\kNum f.Kind=true/\w=2)):=by
 unfold zkA;cases f.Repeated
 ·simp [sb]
 ·by_cases hw:w=2
  ·subst hw;rw [itT rfl,itT (c:=(2:Int)==2) rfl,zux,sb,sb];cases kNum f.Kind<;>rfl
  ·rw [itT rfl,itF (by simpa using hw),sb];simp [hw]
theorem zGo (k w:Int):zmo k w=some (decide (¬(zbY k=false\/zcv k≠w))):=by
 unfold zmo;rw [zzB,sb];cases zbY k with
 | false=>rfl
 | true=>
  by_cases h:zcv k=w<;>simp [h]
theorem zBQ (hm:m.Fields.length<=1152921504606846976) (h:Head):zhH m h=some (rol m h):=by
 unfold zhH rol;rw [zEk hm,sb];unfold vw;rcases zfJ m h.number with ⟨hf,_⟩| ⟨i,hi,hf,_⟩
 ·rw [hf,p7,xn (by decide)]
 ·rw [hf,p9,xm (by omega),zS rfl hi,sb,zcp hi,zEl,sb];by_cases h1:(m.Fields[i]).Repeated=true/\kNum (m.Fields[i]).Kind=true/\h.wire=2
  ·rw [xn h1,xV h1];rfl
  ·rw [xm h1,yn h1,p7,zGo,sb,sb];by_cases h2:zbY (m.Fields[i]).Kind=false\/zcv (m.Fields[i]).Kind≠h.wire
   ·rw [xn h2,itT (by rw [yn (fun g=>g h2)];rfl)]
   ·rw [xm h2,itF (by rw [xV h2];rfl)]
def zmY (m:Mes) (met:List (Head×Role)):Prop:=∀h x,mget met h=some x->x=rol m h
theorem zmY.nil (m:Mes):zmY m []:=fun h x g=>by cases g
theorem zmY.put (g:zmY m met) (h:Head):zmY m (mput met h (rol m h)):=fun j x hx=>by
 rw [zhz] at hx;by_cases e:j=h
 ·rw [xn e] at hx;rw [e];exact (yJ hx).symm
 ·rw [xm e] at hx;exact g j x hx
theorem zuC (hm:m.Fields.length<=1152921504606846976) (hb:b.length<=1048576) (p:Int) (g:zmY m met):
  ∃wD,zjR m b p met=some (prV (zbz m b p).1,(zbz m b p).2,wD)/\zmY m wD:=by
 unfold zjR zbz;rw [zCH hb,sb];by_cases h:(zcS b p).2=0
 ·rw [itF (by simpa using h),xm (show ¬((zcS b p).2≠0) from fun q=>q h)]
  generalize (zcS b p).1=r
  have key:∃wD,(if (!(mget met (⟨r.Number,r.Wire⟩:Head)).isSome) then (zhH m (⟨r.Number,r.Wire⟩:Head)>>=fun wo=>some ((mput met (⟨r.Number,r.Wire⟩:Head) wo),wo.field,wo.run,wo.e))
    else some (met,((mget met (⟨r.Number,r.Wire⟩:Head)).getD (⟨0,false,0⟩:Role)).field,((mget met (⟨r.Number,r.Wire⟩:Head)).getD (⟨0,false,0⟩:Role)).run,((mget met (⟨r.Number,r.Wire⟩:Head)).getD (⟨0,false,0⟩:Role)).e))=some (wD,(rol m ⟨r.Number,r.Wire⟩).field,(rol m ⟨r.Number,r.Wire⟩).run,(rol m ⟨r.Number,r.Wire⟩).e)/\zmY m wD:=by
   cases hg:mget met (⟨r.Number,r.Wire⟩:Head) with
   | none=>
    rw [p7,zBQ hm,sb];exact ⟨_,rfl,g.put _⟩
   | some x=>
    rw [p8];refine ⟨met,?_,g⟩;rw [<-g _ x hg];rfl
  obtain ⟨wD,hk,hM⟩:=key;refine ⟨wD,?_,hM⟩;rw [hk,sb];unfold rol;rcases zeX m r.Number r.Wire with hv| ⟨hv,_⟩| ⟨i,run,hv,_⟩
  ·simp only [hv];rfl
  ·simp only [hv];rfl
  ·simp only [hv];rfl
 ·rw [itT (by simpa using h),xn h];exact ⟨met,rfl,g⟩
theorem zGp (hm:m.Fields.length<=1152921504606846976) (hb:b.length<=1048576) (p:Int):zmn m b p=some (prV (zbz m b p).1,(zbz m b p).2):=by
 obtain ⟨wD,h,_⟩:=zuC hm hb p (zmY.nil m);unfold zmn;rw [h,sb]
theorem zEi (hm:m.Fields.length<=1152921504606846976) (hb:b.length<=1048576) (base:Nat) (l:List UInt8):∀(out:List Vw) (met:List (Head×Role)),base<=b.length->l=b.drop base->out.length<=base->zmY m met->
  zgI b m (out.map prV) met base=some (match (vws m (spl base l).2 (spl base l).1).2 with| none=> .inl ((out++(vws m (spl base l).2 (spl base l).1).1).map prV)| some (p,c)=> .inr (p,c)):=by
 refine zgQ (fun base l=>∀(out:List Vw) (met:List (Head×Role)),base<=b.length->l=b.drop base->out.length<=base->zmY m met->
  zgI b m (out.map prV) met base=some (match (vws m (spl base l).2 (spl base l).1).2 with| none=> .inl ((out++(vws m (spl base l).2 (spl base l).1).1).map prV)| some (p,c)=> .inr (p,c))) ?_ ?_ ?_ base l
 ·intro base out met hbase hl ho hM;have:b.length<=base:=by have:=congrArg List.length hl;simp at this;omega
  rw [zey];simp only [vws,pf,yl];refine zjr ?_;unfold zeh;rw [ud]
 ·intro base l c hl h hc out met hbase hld ho hM;subst hld;have hlt:base<b.length:=by have:=yK.2 hl;simp at this;omega
  rw [zgr hl h];simp only [vws,ql];refine zjr ?_;unfold zeh;have e:zcS b base=(zrec,c):=by unfold zcS;rw [xm (by omega),xB,h]
  have e2:zbz m b base=(zvw,c):=by unfold zbz;rw [e,xn (by simp only;omega)]
  obtain ⟨wD,hk,_⟩:=zuC hm hb base hM;rw [uc,hk,sb,e2,uc]
 ·intro base l n w a t hl h _ g1 g2 g3 ih out met hbase hld ho hM;subst hld;simp only [xN] at g3;have hlt:base<b.length:=by omega
  rw [zdv hl h];have e:zcS b base=(⟨n,w,base,(base+a:Nat),(base+t:Nat)⟩,0):=by
   unfold zcS;rw [xm (by omega),xB,h];push_cast;rfl
  rw [vws];obtain ⟨wD,hk,hM'⟩:=zuC hm hb base hM;rcases zeX m n w with hv| ⟨hv,_⟩| ⟨i,run,hv,_,hi⟩
  ·have e2:zbz m b base=(zvw,6):=by unfold zbz;rw [e];simp only [yx,yE,yc,hv]
   simp only [hv];refine zjr ?_;unfold zeh;rw [uc,hk,sb,e2,p7]
  ·have e2:zbz m b base=(⟨⟨n,w,base,(base+a:Nat),(base+t:Nat)⟩, -1,false⟩,0):=by unfold zbz;rw [e];simp only [yx,yE,yc,hv]
   simp only [hv];refine (znj (l':=(out++([⟨⟨n,w,base,(base+a:Nat),(base+t:Nat)⟩, -1,false⟩]:List Vw)).map prV) (wD:=wD) (fromv':=((base+t:Nat):Int)) ?_).trans ?_
   ·unfold zeh;rw [uc,hk,sb,e2,p8,zbn (by simp;omega),sb,yv];rfl
   ·rw [ih _ wD (by omega) (by rw [xU]) (by simp;omega) hM'];simp only [yr,qG]
  ·have e2:zbz m b base=(⟨⟨n,w,base,(base+a:Nat),(base+t:Nat)⟩,i,run⟩,0):=by unfold zbz;rw [e];simp only [yx,yE,yc,hv]
   simp only [hv];refine (znj (l':=(out++([⟨⟨n,w,base,(base+a:Nat),(base+t:Nat)⟩,i,run⟩]:List Vw)).map prV) (wD:=wD) (fromv':=((base+t:Nat):Int)) ?_).trans ?_
   ·unfold zeh;rw [uc,hk,sb,e2,p8,zbn (by simp;omega),sb,yv];rfl
   ·rw [ih _ wD (by omega) (by rw [xU]) (by simp;omega) hM'];simp only [yr,qG]
theorem zyM (hm:m.Fields.length<=1152921504606846976) (hb:b.length<=1048576):zmm m b=some ((zaJ m b).1.map prV,(zaJ m b).2.1,(zaJ m b).2.2):=by
 unfold zmm;have h:=zEi hm hb 0 b [] [] (xx _) rfl (xt _) (zmY.nil m);have h':zgI b m [] [] 0=_:=h;rw [h',sb];unfold zaJ vwR;cases (vws m (spl 0 b).2 (spl 0 b).1).2 with
 | none=>rfl
 | some p=>rfl
theorem zIi {α:Type} {xs wC post:List α} {v:α} (e:xs=wC++v::post):idx xs (wC.length:Nat)=some v:=by
 subst e;rw [zS rfl (by simp)];simp
theorem zyL (m:Mes) (b:List UInt8):(zaJ m b).1.length<=b.length:=by
 rcases zsD m b with ⟨_,hn,e,_⟩| ⟨_,e⟩
 ·have h:=congrArg List.length (zvF hn).2;rw [yP] at h;rw [e,h];exact zHx 0 b
 ·rw [e];simp
def znh (m:Mes) (g:Int->List UInt8->Nat) (b:List UInt8) (r:Rec):Nat:=match vw m r.Number r.Wire with
 | .inl _=>0
 | .inr (i,run)=>if i<0\/run=true then 0 else if (zy m i).Kind=17 then g (zy m i).Of (valB b r)+1 else 0
def zkV (m:Mes) (g:Int->List UInt8->Nat) (b:List UInt8):List Rec->Nat
 | []=>0
 | r::l=>max (znh m g b r) (zkV m g b l)
def ziv (s:List Mes):Nat->Int->List UInt8->Nat
 | 0,k,b=>zkV (zA s k) (fun _ _=>0) b (spl 0 b).1
 | d+1,k,b=>zkV (zA s k) (ziv s d) b (spl 0 b).1
theorem zqF :∀{l:List Rec},zkV m g b l<=e↔∀r∈l,znh m g b r<=e
 | []=>by simp [zkV]
 | r::l=>by
  have ih:=zqF (m:=m) (g:=g) (b:=b) (e:=e) (l:=l);unfold zkV;rw [List.forall_mem_cons,<-ih];omega
theorem zpi (h:zcR m a b r=none) (hc0:c=none↔e=0)
  (hc:∀q,a=some q->∀q',c=some q'->∀k v,q k v=none->(q' k v=none↔g k v+1<=e)):zcR m c b r=none↔znh m g b r<=e:=by
 unfold zcR at h|-;unfold znh;cases hv:vw m r.Number r.Wire with
 | inl x=>rw [hv] at h;cases h
 | inr p=>
  obtain ⟨i,run⟩:=p;rw [hv] at h;simp only at h|-;by_cases hi:i<0
  ·grind
  ·rw [xm hi] at h|-;unfold zkf at h|-;by_cases hr:run=true
   ·grind
   ·rw [xm hr] at h|-;rw [xm (show ¬(i<0\/run=true) from fun q=>q.elim hi hr)];by_cases h15:(zy m i).Kind=15/\ziF (valB b r)=false
    ·grind
    ·rw [xm h15] at h|-;by_cases ww:(zy m i).Kind=17
     ·rw [xn ww] at h|-;rw [xn ww];cases a with
      | none=>cases h
      | some q=>
       simp only at h;cases hq:q (zy m i).Of (valB b r) with
       | some z=>rw [hq] at h;cases h
       | none=>
        cases c with
        | none=>
         grind
        | some q'=>
         grind
     grind
theorem zze (s:List Mes):∀(d e:Nat) (k:Int) (b:List UInt8),e<=d->zU s d k b=none->(zU s e k b=none↔ziv s d k b<=e)
 | 0,e,k,b,he,h=>by
  have:e=0:=by omega
  subst this;refine ⟨fun _=>zqF.2 (fun r hr=>?_),fun _=>h⟩;have h':=(zft.1 h).1 r hr;exact (zpi (a:=none) (c:=none) h' (by simp) (fun q hq q' hq'=>nomatch hq')).1 h'
 | d+1,0,k,b,he,h=>by
  have h':zbQ (zA s k) (some (zU s d)) b (spl 0 b)=none:=h;rw [zft] at h';show zbQ (zA s k) none b (spl 0 b)=none↔zkV _ _ _ _<=0;rw [zft,zqF];constructor
  ·intro hh r hr;exact (zpi (a:=some (zU s d)) (c:=none) (h'.1 r hr) (by simp) (fun q hq q' hq'=>nomatch hq')).1 (hh.1 r hr)
  ·intro hh;exact ⟨fun r hr=>(zpi (a:=some (zU s d)) (c:=none) (h'.1 r hr) (by simp) (fun q hq q' hq'=>nomatch hq')).2 (hh r hr),h'.2⟩
 | d+1,e+1,k,b,he,h=>by
  have h':zbQ (zA s k) (some (zU s d)) b (spl 0 b)=none:=h;rw [zft] at h';show zbQ (zA s k) (some (zU s e)) b (spl 0 b)=none↔zkV _ _ _ _<=e+1;rw [zft,zqF];have key:∀r∈(spl 0 b).1,zcR (zA s k) (some (zU s e)) b r=none↔znh (zA s k) (ziv s d) b r<=e+1:=fun r hr=>
   zpi (a:=some (zU s d)) (h'.1 r hr) (by simp) (fun q hq q' hq' k v hk=>by
    cases hq;cases hq';have:=zze s d e k v (by omega) hk;rw [this];omega)
  exact ⟨fun hh r hr=>(key r hr).1 (hh.1 r hr),fun hh=>⟨fun r hr=>(key r hr).2 (hh r hr),h'.2⟩⟩
abbrev zio:=zk
def zgn (s:List Mes) (met:List (zio×PVw)):Prop:=∀h x,mget met h=some x->vw (zA s h.message) h.number h.wire= .inr (x.Field,x.Run)
theorem zgn.nil (s:List Mes):zgn s []:=fun h x g=>by cases g
theorem zgn.put (g:zgn s met) (hv:vw (zA s h.message) h.number h.wire= .inr (v.Field,v.Run)):zgn s (mput met h v):=fun j x hx=>by
 rw [zhz] at hx;by_cases e:j=h
 ·grind
 ·rw [xm e] at hx;exact g j x hx
theorem zAx {s:List Mes} {k:Nat} (hk:k<s.length) (hm:(zA s k).Fields.length<=1152921504606846976) {b:List UInt8} (hb:b.length<=1048576) (p:Int) {t:Nat} (ht:t<=b.length) {met:List (zio×PVw)} (g:zgn s met):
  ∃wD,zfY ⟨s,b,met⟩ k p t=some (prV (zbz (zA s k) (b.take t) p).1,(zbz (zA s k) (b.take t) p).2,wD)/\zgn s wD:=by
 have hbt:(b.take t).length<=1048576:=by rw [xO];omega
 have hcut:cut b 0 (t:Int)=some (b.take t):=by
  rw [zgj (i:=0) (j:=t) rfl rfl (xx _) ht];simp
 have hidx:idx s (k:Int)=some (zA s k):=by rw [zS rfl hk,zdJ hk]
 have hvl:=zGp hm hbt p;unfold zfY;simp only;rw [hcut,sb,zCH hbt,sb];unfold zbz at hvl|-;by_cases h:(zcS (b.take t) p).2=0
 ·rw [itF (by simpa using h),xm (show ¬((zcS (b.take t) p).2≠0) from fun q=>q h)];rw [xm (show ¬((zcS (b.take t) p).2≠0) from fun q=>q h)] at hvl
  generalize (zcS (b.take t) p).1=r at hvl|-
  cases hg:mget met (⟨(k:Int),r.Number,r.Wire⟩:zio) with
  | none=>
   rw [p7,hidx,sb,hvl,sb];cases hv:vw (zA s k) r.Number r.Wire with
   | inl c=>
    have hc:c=6:=by
     grind [zeX]
    subst hc;exact ⟨met,by rw [p7];rfl,g⟩
   | inr q=>
    obtain ⟨i,run⟩:=q;refine ⟨_,?_,g.put (h:=⟨(k:Int),r.Number,r.Wire⟩) (v:=prV ⟨r,i,run⟩) hv⟩;rfl
  | some x=>
   have hv:=g _ _ hg;simp only at hv;rw [p8,hv];exact ⟨met,rfl,g⟩
 ·rw [itT (by simpa using h),xn h];exact ⟨met,rfl,g⟩
def znW (f:Fld) (run:Bool) (v:List UInt8):Int:=if run=true then (zlQ f.Kind v).2 else if f.Kind=15/\ziF v=false then 7 else if f.Kind=17 then 8 else 0
theorem zEj (f:Fld) (run:Bool) (hv:v.length<=1048576):zjl f run v=some (znW f run v):=by
 unfold zjl znW
 grind [zaG,zlQ,zEg,sb,zDM]
abbrev Find:=zu
def okR (o:Option (Int×Int)) (a dp:Nat) (r:Find):Prop:=match o with
 | none=>r=⟨(dp:Int),0,0⟩
 | some (p,c)=>r.place=(a:Int)+p/\r.e=c
def zvq (s:List Mes):Nat->zkQ
 | 0=>none
 | d+1=>some (zU s d)
def zrJ (s:List Mes):Nat->Int->List UInt8->Nat
 | 0=>fun _ _=>0
 | d+1=>ziv s d
theorem zDp (s:List Mes) (d:Nat) (k:Int) (b:List UInt8):zU s d k b=zbQ (zA s k) (zvq s d) b (spl 0 b):=by cases d<;>rfl
theorem zGL (s:List Mes) (d:Nat) (k:Int) (b:List UInt8):ziv s d k b=zkV (zA s k) (zrJ s d) b (spl 0 b).1:=by cases d<;>rfl
theorem zGd (s:List Mes) (d:Nat):∀g,zvq s d=some g->zrE g:=fun g h=>by
 cases d with
 | zero=>cases h
 | succ d=>cases h;exact ziw s d
theorem zHn (b:List UInt8) (t a x y:Nat) (h:a+y<=t):(((b.take t).drop a).drop x).take (y - x)=(b.take (a+y)).drop (a+x):=by
 rw [xU,qN,qN,ph];congr 1;omega
theorem zEo {s:List Mes} {k:Nat} (hk:k<s.length) (hm:(zA s k).Fields.length<=1152921504606846976) {b:List UInt8} (hb:b.length<=1048576) {d:Int} {a t:Nat} (hat:a<=t) (ht:t<=b.length) {sub:zkQ} {gd:Int->List UInt8->Nat}
  (hg:∀g,sub=some g->zrE g) {recv:zae->Int->zc->Int->Option (zu×(List (zk×zc)))} {met0:List (zio×PVw)}
  (hval:∀met,zgn s met->∀(n w i:Int) (run:Bool) (base x y:Nat),vw (zA s k) n w= .inr (i,run)->1<=x->x<=y->a+base+y<=t->
   ∃R wD,recv ⟨s,b,met⟩ k ⟨⟨n,w,((a+base:Nat):Int),((a+(base+x):Nat):Int),((a+(base+y):Nat):Int)⟩,i,run⟩ d=some (R,wD)/\zgn s wD/\
    okR (zcR (zA s k) sub ((b.take t).drop a) ⟨n,w,base,(base+x:Nat),(base+y:Nat)⟩) a (znh (zA s k) gd ((b.take t).drop a) ⟨n,w,base,(base+x:Nat),(base+y:Nat)⟩) R)
  (base:Nat) (l:List UInt8):∀(met:List (zio×PVw)) (dp:Nat),zgn s met->l=((b.take t).drop a).drop base->base<=t - a->
  ∃wD D,zgn s wD/\zbB d k recv t ⟨s,b,met0⟩ met ((a+base:Nat):Int) dp=some (match zbQ (zA s k) sub ((b.take t).drop a) (spl base l) with
   | none=> .inl (wD,((max dp (zkV (zA s k) gd ((b.take t).drop a) (spl base l).1):Nat):Int))
   | some (p,c)=> .inr (wD,D,(a:Int)+p,c)):=by
 have hvl:((b.take t).drop a).length=t - a:=by simp;omega
 generalize hvv:(b.take t).drop a=v at hval hvl|-
 refine zgQ (fun base l=>∀(met:List (zio×PVw)) (dp:Nat),zgn s met->l=v.drop base->base<=t - a->
  ∃wD D,zgn s wD/\zbB d k recv t ⟨s,b,met0⟩ met ((a+base:Nat):Int) dp=some (match zbQ (zA s k) sub v (spl base l) with
   | none=> .inl (wD,((max dp (zkV (zA s k) gd v (spl base l).1):Nat):Int))
   | some (p,c)=> .inr (wD,D,(a:Int)+p,c))) ?_ ?_ ?_ base l
 ·intro base met dp g hl hbase;have:v.length<=base:=by have:=congrArg List.length hl;simp at this;omega
  refine ⟨met,0,g,?_⟩;rw [zey];refine zdq ?_;unfold zaw;rw [ud];simp [zbQ,zkV]
 ·intro base l c hl h hc met dp g hld hbase;have hlt:a+base<t:=by have:=yK.2 hl;rw [hld] at this;simp at this;omega
  have hdr:(b.take t).drop (a+base)=l:=by rw [hld,<-hvv,xU]
  have e:zcS (b.take t) ((a+base:Nat):Int)=(zrec,c):=by unfold zcS;rw [xm (by simp;omega),xB,hdr,h]
  have e2:zbz (zA s k) (b.take t) ((a+base:Nat):Int)=(zvw,c):=by unfold zbz;rw [e,xn (by simp only;omega)]
  obtain ⟨wD,hlk,g'⟩:=zAx hk hm hb ((a+base:Nat):Int) ht g;refine ⟨wD,0,g',?_⟩;rw [zgr hl h];refine zdq ?_;unfold zaw;simp only;rw [uc,hlk,sb,e2,uc];simp [zbQ]
 ·intro base l n w x y hl h _ g1 g2 g3 ih met dp g hld hbase;have hly:base+y<=t - a:=by rw [hld] at g3;simp at g3;omega
  have hdr:(b.take t).drop (a+base)=l:=by rw [hld,<-hvv,xU]
  have e:zcS (b.take t) ((a+base:Nat):Int)=(⟨n,w,((a+base:Nat):Int),((a+(base+x):Nat):Int),((a+(base+y):Nat):Int)⟩,0):=by
   unfold zcS;rw [xm (by simp;omega),xB,hdr,h]
   grind
  obtain ⟨wD,hlk,g'⟩:=zAx hk hm hb ((a+base:Nat):Int) ht g
  have hfr:zbQ (zA s k) sub v (spl base l)=match zcR (zA s k) sub v ⟨n,w,base,(base+x:Nat),(base+y:Nat)⟩ with
    | some p=>some p
    | none=>zbQ (zA s k) sub v (spl (base+y) (l.drop y)):=by
   unfold zbQ;rw [zdv hl h];simp only [pS];cases zcR (zA s k) sub v ⟨n,w,base,(base+x:Nat),(base+y:Nat)⟩<;>rfl
  have hfd:zkV (zA s k) gd v (spl base l).1=max (znh (zA s k) gd v ⟨n,w,base,(base+x:Nat),(base+y:Nat)⟩) (zkV (zA s k) gd v (spl (base+y) (l.drop y)).1):=by
   rw [zdv hl h];rfl
  cases hv:vw (zA s k) n w with
  | inl c=>
   have hc:c=6:=by
    grind [zeX]
   subst hc;have e2:zbz (zA s k) (b.take t) ((a+base:Nat):Int)=(zvw,6):=by unfold zbz;rw [e];simp only [yx,yE,yc,hv]
   have hst:zcR (zA s k) sub v ⟨n,w,base,(base+x:Nat),(base+y:Nat)⟩=some ((base:Int),6):=by unfold zcR;simp only [hv]
   refine ⟨wD,0,g',?_⟩;rw [hfr,hst];refine zdq ?_;unfold zaw
   grind
  | inr q=>
   obtain ⟨i,run⟩:=q;have e2:zbz (zA s k) (b.take t) ((a+base:Nat):Int)=(⟨⟨n,w,((a+base:Nat):Int),((a+(base+x):Nat):Int),((a+(base+y):Nat):Int)⟩,i,run⟩,0):=by unfold zbz;rw [e];simp only [yx,yE,yc,hv]
   obtain ⟨R,met2,hrv,g2',hok⟩:=hval wD g' n w i run base x y hv g1 g2 (by omega);have hpr:prV (⟨⟨n,w,((a+base:Nat):Int),((a+(base+x):Nat):Int),((a+(base+y):Nat):Int)⟩,i,run⟩:Vw)=⟨⟨n,w,((a+base:Nat):Int),((a+(base+x):Nat):Int),((a+(base+y):Nat):Int)⟩,i,run⟩:=rfl;cases hst:zcR (zA s k) sub v ⟨n,w,base,(base+x:Nat),(base+y:Nat)⟩ with
   | some pc=>
    obtain ⟨p,c⟩:=pc;have hgd:=zxf hg g1 g2 (b:=v) (base:=base) (by omega) hst;rw [hst] at hok;obtain ⟨o1,o2⟩:=hok;refine ⟨met2,R.depth,g2',?_⟩;rw [hfr,hst];refine zdq ?_;unfold zaw
    grind
   | none=>
    rw [hst] at hok;have hok':R=⟨((znh (zA s k) gd v ⟨n,w,base,(base+x:Nat),(base+y:Nat)⟩:Nat):Int),0,0⟩:=hok;obtain ⟨met3,D,g3',h3⟩:=ih met2 (max dp (znh (zA s k) gd v ⟨n,w,base,(base+x:Nat),(base+y:Nat)⟩)) g2' (by rw [hld,xU]) hly;refine ⟨met3,D,g3',?_⟩;rw [hfr,hst,hfd,<-Nat.max_assoc,<-h3];refine zkN ?_;unfold zaw
    grind
theorem zHN {s:List Mes} (hr:zgh s) {k:Nat} (hk:k<s.length) {b:List UInt8} (hb:b.length<=1048576) {d fuel:Nat} (hd:d<=64) {a t:Nat} (ht:t<=b.length)
  (ih:∀e,d=e+1->∀(q A T:Nat) (met:List (zio×PVw)),q<s.length->A<=T->T<=b.length->zgn s met->
   ∃R wD,zaB fuel ⟨s,b,met⟩ q A T e=some (R,wD)/\zgn s wD/\okR (zU s e q ((b.take T).drop A)) A (ziv s e q ((b.take T).drop A)) R)
  (met:List (zio×PVw)) (g:zgn s met) (n w i:Int) (run:Bool) (base x y:Nat) (hv:vw (zA s k) n w= .inr (i,run)) (h1:1<=x) (h2:x<=y) (hy:a+base+y<=t):
  ∃R wD,zdG (fuel+1) ⟨s,b,met⟩ k ⟨⟨n,w,((a+base:Nat):Int),((a+(base+x):Nat):Int),((a+(base+y):Nat):Int)⟩,i,run⟩ d=some (R,wD)/\zgn s wD/\
    okR (zcR (zA s k) (zvq s d) ((b.take t).drop a) ⟨n,w,base,(base+x:Nat),(base+y:Nat)⟩) a (znh (zA s k) (zrJ s d) ((b.take t).drop a) ⟨n,w,base,(base+x:Nat),(base+y:Nat)⟩) R:=by
 have hidx:idx s (k:Int)=some (zA s k):=by rw [zS rfl hk,zdJ hk]
 have hun:∀w' v',zdG (fuel+1) w' k v' d=zew (zaB fuel) (zdG fuel) w' k v' d:=fun _ _=>rfl
 have hvb:valB ((b.take t).drop a) ⟨n,w,base,(base+x:Nat),(base+y:Nat)⟩=(b.take (a+(base+y))).drop (a+(base+x)):=by
  unfold valB
  grind [zHn]
 rcases zeX (zA s k) n w with h'| ⟨h',_⟩| ⟨j,run',h',_,hi⟩
 ·grind
 ·rw [hv] at h';obtain ⟨rfl,rfl⟩:i= -1/\run=false:=by simpa using h'
  refine ⟨⟨0,0,0⟩,met,?_,g,?_⟩
  ·rfl
  ·unfold zcR znh;simp only [hv];rfl
 ·rw [hv] at h';obtain ⟨rfl,rfl⟩:i=j/\run=run':=by simpa using h'
  have hfm:zy (zA s k) (j:Int)∈(zA s k).Fields:=by rw [zcp hi];exact xy hi
  have hmem:zA s k∈s:=by rw [zdJ hk];exact xy hk
  have wE:run=true->(zy (zA s k) (j:Int)).Kind≠17:=fun hh ww=>by
   subst hh;have:=(zBS hv).1;rw [ww] at this;cases this
  have hcut:cut b ((a+(base+x):Nat):Int) ((a+(base+y):Nat):Int)=some ((b.take (a+(base+y))).drop (a+(base+x))):=by
   rw [zgj rfl rfl (by omega) (by omega),qN]
  have wz:((b.take (a+(base+y))).drop (a+(base+x))).length<=1048576:=by simp;omega
  unfold zcR znh;simp only [hv];rw [xm (show ¬((j:Int)<0) by omega),hvb];have hif:(if ((j:Int)<0\/run=true) then 0 else if (zy (zA s k) (j:Int)).Kind=17 then zrJ s d (zy (zA s k) (j:Int)).Of ((b.take (a+(base+y))).drop (a+(base+x)))+1 else 0)=(if (zy (zA s k) (j:Int)).Kind=17 then zrJ s d (zy (zA s k) (j:Int)).Of ((b.take (a+(base+y))).drop (a+(base+x)))+1 else 0):=by
   cases run with
   | false=>rw [xm (by simp)]
   | true=>rw [xn (.inr rfl),xm (wE rfl)]
  rw [hif];simp only [hun];unfold zew;simp only;rw [itF (show ((j:Int)== -1)=false by simp),hidx,sb,zS (i:=j) rfl hi,sb,<-zcp hi]
  generalize hvv:(b.take (a+(base+y))).drop (a+(base+x))=v at wz hcut|-
  have hof:=(hr.fld _ hmem _ hfm).sub
  generalize zy (zA s k) (j:Int)=f at hfm wE hof|-
  by_cases hs:f.Kind=17/\0<d
  ·obtain ⟨e,rfl⟩:∃e,d=e+1:=⟨d - 1,by omega⟩;have hrf:run=false:=by
    cases run with
    | false=>rfl
    | true=>exact absurd hs.1 (wE rfl)
   subst hrf;have hof':=hof hs.1;obtain ⟨q,hq⟩:∃q:Nat,f.Of=q:=⟨f.Of.toNat,by omega⟩;obtain ⟨R,wD,hR,g',hok⟩:=ih e rfl q (a+(base+x)) (a+(base+y)) met (by omega) (by omega) (by omega) g;rw [hvv] at hok;have hw1:i64.wrap (((e+1:Nat):Int) - 1)=(e:Int):=by rw [ue];omega
   refine ⟨⟨i64.wrap (R.depth+1),R.place,R.e⟩,wD,?_,g',?_⟩
   ·grind
   ·rw [xn hs.1];unfold zkf;rw [xm (by simp),xm (by rw [hs.1];simp),xn hs.1];simp only [zvq,zrJ,hq];cases hf:zU s e q v with
    | none=>
     rw [hf] at hok;have hok':R=⟨((ziv s e q v:Nat):Int),0,0⟩:=hok;have hdl:=(zze s e e q v (xt _) hf).1 hf;subst hok';show (⟨i64.wrap (((ziv s e q v:Nat):Int)+1),0,0⟩:Find)=_;rw [ue];rfl
    | some pc=>
     obtain ⟨p,c⟩:=pc;rw [hf] at hok;obtain ⟨o1,o2⟩:=hok;refine ⟨?_,o2⟩
     grind
  ·have hno:((f.Kind==17)&&decide (((d:Nat):Int)>0))=false:=by
    grind
   have hlf:zkf f run (zvq s d) ⟨n,w,base,(base+x:Nat),(base+y:Nat)⟩ v=if znW f run v≠0 then some ((base:Int),znW f run v) else none:=by
    unfold zkf znW;by_cases hrt:run=true
    ·grind
    ·rw [xm hrt,xm hrt];by_cases h15:f.Kind=15/\ziF v=false
     ·grind
     ·rw [xm h15,xm h15];by_cases ww:f.Kind=17
      ·have:d=0:=by have:=fun h=>hs ⟨ww,h⟩;omega
       subst this;rw [xn ww,xn ww,xn (by omega)];rfl
      grind
   rw [itF hno,hcut,sb,zEj f run wz,sb,hlf];by_cases h0:znW f run v=0
   ·refine ⟨⟨0,0,0⟩,met,by rw [itF (by simpa using h0)],g,?_⟩;rw [xm (by simpa using h0)];have:f.Kind≠17:=fun ww=>by
     grind [znW]
    rw [xm this];rfl
   ·refine ⟨⟨0,((a+base:Nat):Int),znW f run v⟩,met,by rw [itT (by simpa using h0)],g,?_⟩;rw [xn h0];exact ⟨by simp,rfl⟩
theorem zHI (hr:zgh s) (hb:b.length<=1048576):∀(d fuel:Nat),d<=64->2*d+2<=fuel->∀(q A T:Nat) (met:List (zio×PVw)),q<s.length->A<=T->T<=b.length->zgn s met->
   ∃R wD,zaB fuel ⟨s,b,met⟩ q A T d=some (R,wD)/\zgn s wD/\okR (zU s d q ((b.take T).drop A)) A (ziv s d q ((b.take T).drop A)) R:=by
 have step:∀(d fuel:Nat),d<=64->(∀e,d=e+1->∀(q A T:Nat) (met:List (zio×PVw)),q<s.length->A<=T->T<=b.length->zgn s met->
   ∃R wD,zaB fuel ⟨s,b,met⟩ q A T e=some (R,wD)/\zgn s wD/\okR (zU s e q ((b.take T).drop A)) A (ziv s e q ((b.take T).drop A)) R)->
   ∀(q A T:Nat) (met:List (zio×PVw)),q<s.length->A<=T->T<=b.length->zgn s met->
   ∃R wD,zaB (fuel+2) ⟨s,b,met⟩ q A T d=some (R,wD)/\zgn s wD/\okR (zU s d q ((b.take T).drop A)) A (ziv s d q ((b.take T).drop A)) R:=by
  intro d fuel hd ih q A T met hq hAT hT g;have hun:∀w' k' p' t' d',zaB (fuel+2) w' k' p' t' d'=zdM (zaB (fuel+1)) (zdG (fuel+1)) w' k' p' t' d':=fun _ _ _ _ _=>rfl
  have hm:(zA s q).Fields.length<=1152921504606846976:=by
   rw [zdJ hq];have:=hr.few _ (xy hq);omega
  obtain ⟨wD,D,g',hl⟩:=zEo (s:=s) hq hm hb (d:=(d:Int)) hAT hT (sub:=zvq s d) (gd:=zrJ s d) (zGd s d) (recv:=zdG (fuel+1)) (met0:=met)
   (fun met1 g1 n w i run base x y hv h1 h2 hy=>zHN hr hq hb hd hT ih met1 g1 n w i run base x y hv h1 h2 hy) 0 _ met 0 g rfl (xx _)
  have hl':zbB d q (zdG (fuel+1)) T ⟨s,b,met⟩ met (A:Int) 0=_:=hl;rw [hun,zDp,zGL];unfold zdM;simp only;rw [yb,Nat.zero_max] at hl';rw [hl',sb];cases hf:zbQ (zA s q) (zvq s d) ((b.take T).drop A) (spl 0 ((b.take T).drop A)) with
  | none=>exact ⟨_,_,rfl,g',rfl⟩
  | some pc=>exact ⟨_,_,rfl,g',rfl,rfl⟩
 intro d
 induction d with
 | zero=>
  intro fuel hd hf;obtain ⟨fuel,rfl⟩:∃z,fuel=z+2:=⟨fuel - 2,by omega⟩;exact step 0 fuel hd (fun e he=>by omega)
 | succ d ih=>
  intro fuel hd hf;obtain ⟨fuel,rfl⟩:∃z,fuel=z+2:=⟨fuel - 2,by omega⟩;refine step (d+1) fuel hd (fun e he=>?_)
  grind
theorem zGn (hw:WS s) (root d:Int):zkw s root d=some (argS s root d):=by
 unfold zkw argS
 grind [zFH,sb]
theorem zGO (hw:WS s) (root:Int) (hb:b.length<=1048576) (d:Int) (hf:130<=fuel):
  ∃R,zky fuel s root b d=some R/\R.place=(zaV s root b d).1/\R.e=(zaV s root b d).2/\((zaV s root b d).2=0->R.depth=((ziv s d.toNat root b:Nat):Int)):=by
 unfold zky zaV;rw [zGn hw,sb];by_cases h:argS s root d=0
 ·obtain ⟨hr,h1,h2,h3,h4⟩:=zlH h;obtain ⟨k,rfl⟩:∃k:Nat,root=k:=⟨root.toNat,by omega⟩;obtain ⟨e,rfl⟩:∃k:Nat,d=k:=⟨d.toNat,by omega⟩;obtain ⟨R,wD,hR,_,hok⟩:=zHI hr hb e fuel (by omega) (by omega) k 0 b.length [] (by omega) (xx _) (xt _) (zgn.nil s);have hR':zaB fuel ⟨s,b,[]⟩ k 0 (b.length:Int) e=some (R,wD):=hR;rw [List.take_length,yb] at hok;rw [itF (by simpa using h),xm (by simpa using h),hR',sb,xB];refine ⟨R,rfl,?_⟩;cases hfi:zU s e k b with
  | none=>
   rw [hfi] at hok;have hok':R=⟨((ziv s e k b:Nat):Int),0,0⟩:=hok
   grind
  | some pc=>
   obtain ⟨p,c⟩:=pc;rw [hfi] at hok;obtain ⟨o1,o2⟩:=hok;have:=ziw s e k b p c hfi
   grind
 ·simp_all
theorem zsv (hw:WS s) (root:Int) (hb:b.length<=1048576) (d:Int) (hf:130<=fuel):zgH fuel s root b d=some (zaV s root b d):=by
 obtain ⟨R,hR,h1,h2,_⟩:=zGO hw root hb d hf;unfold zgH
 grind
theorem zxj (hb:v.Words.length<=140737488351232/\v.Texts.length<=140737488351232/\v.Subs.length<=140737488351232):zeW v=some ((zay v:Nat):Int):=by
 unfold zeW zay;rw [zo (x:=(v.Words.length:Int)+(v.Texts.length:Int)) (by omega),ue];push_cast;rfl
theorem zHo (hk:kNum k=true) (hf:zfr (zcv k) v=true):pcs k v=([v],0):=by
 have hk':=zkd.1 hk;have hu:zle k v= .inr v.length/\v≠[]:=by
  unfold zle;unfold zfr zcv at hf;by_cases h9:k<9
  ·rw [xm (show ¬15<=k by omega),xm (show ¬12<=k by omega),xm (show ¬9<=k by omega),xn rfl] at hf;obtain ⟨h1,h2⟩:=yA hf;obtain ⟨b1,b2,b3,b4,b5,b6,b7⟩:=zgN v;have hp:=b7 h1;rw [xn h9,xm (by simpa using h1),h2];refine ⟨by simp,fun e=>?_⟩;subst e;simp at h2;omega
  ·rw [xm h9];by_cases h12:k<12
   ·rw [xm (show ¬15<=k by omega),xm (show ¬12<=k by omega),xn (show 9<=k by omega),xm (by omega)] at hf;have hf':=yA hf;have hl:v.length=4:=by omega
    rw [xn h12,xm (by omega),hl];exact ⟨rfl,fun e=>by rw [e] at hl;simp at hl⟩
   ·rw [xm (show ¬15<=k by omega),xn (show 12<=k by omega),xm (by omega)] at hf;have hf':=yA hf;have hl:v.length=8:=by omega
    rw [xm h12,xm (by omega),hl];exact ⟨rfl,fun e=>by rw [e] at hl;simp at hl⟩
 rw [zkk hu.2 hu.1,List.take_length,List.drop_length,zmM]
theorem zxo (hk:kNum k=true) (hf:zfr (zcv k) v=true):zaG k v=([(znf k v).1],0):=by
 unfold zaG;rw [xm (by rw [hk];simp),zHo hk hf,xn rfl,zlb hk hf];rfl
def zff (f:Fld) (T:List Th):List Th:=if f.Repeated=true then T else T.drop (T.length - 1)
def valT (g:Int->List UInt8->Msg) (f:Fld) (T:List Th):Vlu:=
 if f.Kind=17 then ⟨f.Number,[],[],if f.Repeated=true then T.map fun t=>g f.Of t.val else [g f.Of (T.flatMap (·.val))]⟩
 else if f.Kind=15\/f.Kind=16 then ⟨f.Number,[],(zff f T).map (·.val),[]⟩
 else ⟨f.Number,(zff f T).flatMap (fun t=>(zaG f.Kind t.val).1),[],[]⟩
theorem zmv (g:Int->List UInt8->Msg) (f:Fld) (i:Int):∀(l:List Th) (a:zcu),accF g f i a l=(l.filter fun t=>t.fi==i).foldl (stp g f) a
 | [],a=>rfl
 | t::l,a=>by
  rw [accF,yL];by_cases h:t.fi=i
  ·rw [xn h,xn (by simpa using h),yf];exact zmv g f i l _
  ·rw [xm h,xm (by simpa using h)];exact zmv g f i l _
def OkF (f:Fld) (t:Th):Prop:=(t.run=true->kNum f.Kind=true/\f.Repeated=true)/\(t.run=false->zbY f.Kind=true/\zfr (zcv f.Kind) t.val=true)
theorem zwU :zff f (t::u::T)=if f.Repeated=true then t::u::T else zff f (u::T):=by
 unfold zff;simp_all
theorem zzk (g:Int->List UInt8->Msg) (hk:kNum f.Kind=true):∀(T:List Th) (a:zcu),T≠[]->(∀t∈T,OkF f t)->
  T.foldl (stp g f) a=(a.1,true,(if f.Repeated=true then a.2.2.1 else [])++(zff f T).flatMap (fun t=>(zaG f.Kind t.val).1),(if f.Repeated=true then a.2.2.2.1 else []),a.2.2.2.2)
 | [],a,h,_=>absurd rfl h
 | [t],a,_,ht=>by
  obtain ⟨h1,h2⟩:=ht t xo;have hp:zff f [t]=[t]:=by unfold zff;simp
  rw [hp,yf,qS]
  grind [stp,sb,zo,zxo]
 | t::u::T,a,_,ht=>by
  obtain ⟨h1,h2⟩:=ht t xo;have hst:stp g f a t=(a.1,true,(if f.Repeated=true then a.2.2.1 else [])++(zaG f.Kind t.val).1,(if f.Repeated=true then a.2.2.2.1 else []),a.2.2.2.2):=by
   grind [stp,sb,zo,zxo]
  rw [yf,hst,zzk g hk (u::T) _ (by simp) fun x hx=>ht x (xp _ hx),zwU];cases hr:f.Repeated
  ·simp
  ·have hp:zff f (u::T)=u::T:=by unfold zff;rw [xn hr]
   rw [hp];simp
theorem zwz (g:Int->List UInt8->Msg) (hk:kNum f.Kind=false) (ww:f.Kind≠17):∀(T:List Th) (a:zcu),T≠[]->(∀t∈T,OkF f t)->
  T.foldl (stp g f) a=(a.1,true,(if f.Repeated=true then a.2.2.1 else []),(if f.Repeated=true then a.2.2.2.1 else [])++(zff f T).map (·.val),a.2.2.2.2)
 | [],a,h,_=>absurd rfl h
 | [t],a,_,ht=>by
  obtain ⟨h1,h2⟩:=ht t xo;have hp:zff f [t]=[t]:=by unfold zff;simp
  have hr:t.run=false:=by
   grind
  rw [hp,yf,qS];unfold stp
  grind
 | t::u::T,a,_,ht=>by
  obtain ⟨h1,h2⟩:=ht t xo;have hr:t.run=false:=by
   grind
  have hst:stp g f a t=(a.1,true,(if f.Repeated=true then a.2.2.1 else []),(if f.Repeated=true then a.2.2.2.1 else [])++[t.val],a.2.2.2.2):=by
   unfold stp
   grind
  rw [yf,hst,zwz g hk ww (u::T) _ (by simp) fun x hx=>ht x (xp _ hx),zwU];cases hr:f.Repeated
  ·simp
  ·have hp:zff f (u::T)=u::T:=by unfold zff;rw [xn hr]
   rw [hp];simp
theorem zwy (g:Int->List UInt8->Msg) (ww:f.Kind=17) (hr:f.Repeated=true):∀(T:List Th) (a:zcu),(∀t∈T,OkF f t)->(T≠[]\/a.2.1=true)->
  T.foldl (stp g f) a=(a.1,true,a.2.2.1,a.2.2.2.1,a.2.2.2.2++T.map fun t=>g f.Of t.val)
 | [],a,_,h=>by
  grind
 | t::T,a,ht,_=>by
  obtain ⟨h1,h2⟩:=ht t xo;have hrn:t.run=false:=by
   cases hr:t.run
   ·rfl
   ·have:=(h1 hr).1;rw [ww] at this;cases this
  have hst:stp g f a t=(a.1,true,a.2.2.1,a.2.2.2.1,a.2.2.2.2++[g f.Of t.val]):=by
   unfold stp;rw [hrn,xm (by simp),xm (by rw [ww];decide),xn ⟨ww,hr⟩,xn hr,xn hr]
  rw [yf,hst,zwy g ww hr T _ (fun x hx=>ht x (xp _ hx)) (.inr rfl)];simp
theorem zzl (g:Int->List UInt8->Msg) (ww:f.Kind=17) (hr:f.Repeated=false):∀(T:List Th) (a:zcu),(∀t∈T,OkF f t)->T≠[]->
  T.foldl (stp g f) a=(a.1++T.flatMap (·.val),true,[],[],a.2.2.2.2)
 | [],a,_,h=>absurd rfl h
 | [t],a,ht,_=>by
  obtain ⟨h1,h2⟩:=ht t xo;have hrn:t.run=false:=by
   grind
  rw [yf,qS];unfold stp;rw [hrn,xm (by simp),xm (by rw [ww];decide),xm (by rw [hr];simp),xn ww,hr];simp
 | t::u::T,a,ht,_=>by
  obtain ⟨h1,h2⟩:=ht t xo;have hrn:t.run=false:=by
   grind
  have hst:stp g f a t=(a.1++t.val,true,[],[],a.2.2.2.2):=by
   unfold stp;rw [hrn,xm (by simp),xm (by rw [ww];decide),xm (by rw [hr];simp),xn ww,hr];simp
  rw [yf,hst,zzl g ww hr (u::T) _ (fun x hx=>ht x (xp _ hx)) (by simp)];simp
theorem zJn (g:Int->List UInt8->Msg) (hkr:zbY f.Kind=true) (hT:T≠[]) (ht:∀t∈T,OkF f t):valO g f (T.foldl (stp g f) acc0)=valT g f T:=by
 unfold valT;by_cases ww:f.Kind=17
 ·rw [xn ww];cases hr:f.Repeated
  ·rw [zzl g ww hr T acc0 ht hT];unfold valO;rw [xn ⟨rfl,ww,hr⟩];simp [acc0]
  ·rw [zwy g ww hr T acc0 ht (.inl hT)];unfold valO;rw [xm (by rw [hr];simp)];simp [acc0]
 ·rw [xm ww];by_cases hx:f.Kind=15\/f.Kind=16
  ·rw [xn hx,zwz g (by unfold kNum;simp;omega) ww T acc0 hT ht];unfold valO;simp only;rw [xm (show ¬(True/\f.Kind=17/\f.Repeated=false) from fun h=>ww h.2.1)];cases f.Repeated<;>simp [acc0]
  ·have hk:kNum f.Kind=true:=by unfold zbY at hkr;unfold kNum;simp at hkr|-;omega
   rw [xm hx,zzk g hk T acc0 hT ht];unfold valO;simp only;rw [xm (show ¬(True/\f.Kind=17/\f.Repeated=false) from fun h=>ww h.2.1)];cases f.Repeated<;>simp [acc0]
theorem zDX {α:Type} (l:List α) (m:Nat) (d x:α):(l++List.replicate (m+1) d).set l.length x=(l++[x])++List.replicate m d:=by
 grind
theorem zxO {α:Type} (l:List α) (d:α) (F:List α->Int->Option (List α)) (h0:F l (l.length:Int)=some l)
  (hs:∀(i:Nat) (h:i<l.length),F (l.take i++List.replicate (l.length - i) d) (i:Int)=F (l.take (i+1)++List.replicate (l.length - (i+1)) d) ((i+1:Nat):Int)):
  ∀(c i:Nat),i+c=l.length->F (l.take i++List.replicate (l.length - i) d) (i:Int)=some l
 | 0,i,h=>by
  simp_all
 | c+1,i,h=>by rw [hs i (by omega)];exact zxO l d F h0 hs c (i+1) (by omega)
theorem zuh {α:Type} (l:List α) (d:α) (i:Nat) (h:i<l.length):(l.take i++List.replicate (l.length - i) d).set i l[i]=l.take (i+1)++List.replicate (l.length - (i+1)) d:=by
 have hl:(l.take i).length=i:=by rw [xO];omega
 have e:=zDX (l.take i) (l.length - (i+1)) d l[i];rw [hl,show l.length - (i+1)+1=l.length - i by omega] at e;simp_all
def At14 (b:List UInt8) (L:List Vw):Prop:=∀t∈L,0<=t.R.From/\t.R.From<t.R.At/\t.R.At<=t.R.To/\t.R.To<=b.length
theorem zxK (h:At14 b L) (ht:t∈L):cut b t.R.At t.R.To=some (valB b t.R):=by
 obtain ⟨r1,r2,r3,r4⟩:=h t ht;obtain ⟨x,hx1⟩:∃x:Nat,t.R.At=x:=⟨t.R.At.toNat,by omega⟩;obtain ⟨y,hy1⟩:∃x:Nat,t.R.To=x:=⟨t.R.To.toNat,by omega⟩;rw [zgj hx1 hy1 (by omega) (by omega)];unfold valB;rw [hx1,hy1];simp only [xB]
theorem zGJ (h:At14 b L) (ht:t∈L):cut b t.R.From t.R.To=some (rawB b t.R):=by
 obtain ⟨r1,r2,r3,r4⟩:=h t ht;obtain ⟨x,hx1⟩:∃x:Nat,t.R.From=x:=⟨t.R.From.toNat,by omega⟩;obtain ⟨y,hy1⟩:∃x:Nat,t.R.To=x:=⟨t.R.To.toNat,by omega⟩;rw [zgj hx1 hy1 (by omega) (by omega)];unfold rawB;rw [hx1,hy1];simp only [xB]
theorem ztz {L:List Vw} {i:Nat} (h:i<L.length):idx (L.map prV) (i:Int)=some (prV L[i]):=by
 rw [zS rfl (show i<(L.map prV).length by simpa using h)];simp
theorem zGe {b:List UInt8} {L:List Vw} (hL:L.length<=1048576) (hat:At14 b L):zku b (L.map prV)=some (L.map fun t=>valB b t.R):=by
 unfold zku;rw [zrX (a:=L.length) (by simp) (qq _) (by simp;omega),sb];have wz:(L.map fun t=>valB b t.R).length=L.length:=by simp
 have h:=zxO (L.map fun t=>valB b t.R) ([]:Str) (fun a i=>zhj b (L.map prV) a i) (by
   refine zru ?_;unfold zfg;rw [p9])
  (fun i hi=>by
   have hil:i<L.length:=by simpa using hi
   refine zrt ?_;unfold zfg;have hc:=zxK hat (xy hil);rw [uc,ztz hil,sb];have e1:(prV L[i]).Record.At=L[i].R.At:=rfl;have e2:(prV L[i]).Record.To=L[i].R.To:=rfl;have e3:=zuh (L.map fun t=>valB b t.R) ([]:Str) i hi;rw [pW] at e3;rw [e1,e2,hc,sb,zS rfl (show i<_ by rw [xz,xO,qj];omega),sb,xB,e3,ue];push_cast;rfl) L.length 0 (by simp)
 grind
theorem zEe {k:Int} {b:List UInt8} (hb:b.length<=1048576) {L:List Vw} (hL:L.length<=1048576) (hat:At14 b L) (hw:(L.flatMap fun t=>(zaG k (valB b t.R)).1).length<=1048576):
  zkv k b (L.map prV)=some (L.flatMap fun t=>(zaG k (valB b t.R)).1):=by
 unfold zkv;have key:∀(post wC:List Vw),L=wC++post->zgg b k (L.map prV) (wC.flatMap fun t=>(zaG k (valB b t.R)).1) wC.length=some (L.flatMap fun t=>(zaG k (valB b t.R)).1):=by
  intro post
  induction post with
  | nil=>
   intro wC e;rw [yl] at e;subst e;refine zrw ?_;unfold zfh
   grind
  | cons t post ih=>
   intro wC e;have hlt:wC.length<L.length:=by rw [e];simp
   have hti:L[wC.length]=t:=by
    subst e;simp
   have ht:t∈L:=by rw [e];simp
   obtain ⟨r1,r2,r3,r4⟩:=hat t ht;have hvl:=zDc b t.R r3 r1 r2 r4;have e2:(L.flatMap fun t=>(zaG k (valB b t.R)).1)=(wC.flatMap fun t=>(zaG k (valB b t.R)).1)++((zaG k (valB b t.R)).1++post.flatMap fun t=>(zaG k (valB b t.R)).1):=by rw [e];simp
   have hsum:=congrArg List.length e2;rw [xz,xz] at hsum;refine (zrv (all':=(wC++[t]).flatMap fun t=>(zaG k (valB b t.R)).1) (v':=(((wC++[t]).length:Nat):Int)) ?_).trans (ih (wC++[t]) (by rw [e];simp));unfold zfh;have hc:=zxK hat ht;rw [uc,ztz hlt,sb,hti];have e1:(prV t).Record.At=t.R.At:=rfl;have e2:(prV t).Record.To=t.R.To:=rfl;rw [e1,e2,hc,sb,zDW k (by omega),sb,zbn (by omega),sb,ue,qy,List.flatMap_singleton,xz,yh];push_cast;rfl
 have h:=key L [] rfl;have h':zgg b k (L.map prV) [] 0=_:=h;rw [h',sb]
theorem zAj {b:List UInt8} {L:List Vw} (hL:L.length<=1048576) (hat:At14 b L):zgR b (L.map prV) (List.replicate L.length []) 0=some (L.map fun t=>valB b t.R):=by
 have wz:(L.map fun t=>valB b t.R).length=L.length:=by simp
 have h:=zxO (L.map fun t=>valB b t.R) ([]:List UInt8) (fun a i=>zgR b (L.map prV) a i) (by
   refine zss ?_;unfold zfO;rw [p9])
  (fun i hi=>by
   have hil:i<L.length:=by simpa using hi
   refine zsr ?_;unfold zfO;have hc:=zxK hat (xy hil);rw [uc,ztz hil,sb];have e1:(prV L[i]).Record.At=L[i].R.At:=rfl;have e2:(prV L[i]).Record.To=L[i].R.To:=rfl;have e3:=zuh (L.map fun t=>valB b t.R) ([]:List UInt8) i hi;rw [pW] at e3;rw [e1,e2,hc,sb,zS rfl (show i<_ by rw [xz,xO,qj];omega),sb,xB,e3,ue];push_cast;rfl) L.length 0 (by simp)
 grind
theorem zso {rec:List ze->Int->List UInt8->Option zb} {g:Int->List UInt8->Msg} {s:List Mes} {f:Fld} {p:List (List UInt8)} (hp:p.length<=1048576) (hg:∀v∈p,rec s f.Of v=some (g f.Of v)):
  zgS f p rec s (List.replicate p.length ⟨[],[]⟩) 0=some (p.map (g f.Of)):=by
 have wz:(p.map (g f.Of)).length=p.length:=by simp
 have h:=zxO (p.map (g f.Of)) (⟨[],[]⟩:Msg) (fun a i=>zgS f p rec s a i) (by
   refine zsu ?_;unfold zfP;rw [p9])
  (fun i hi=>by
   have hil:i<p.length:=by simpa using hi
   refine zst ?_;unfold zfP;have e3:=zuh (p.map (g f.Of)) (⟨[],[]⟩:Msg) i hi;rw [pW] at e3;rw [uc,zS rfl hil,sb,hg _ (xy hil),sb,zS rfl (show i<_ by rw [xz,xO,qj];omega),sb,xB,e3,ue];push_cast;rfl) p.length 0 (by simp)
 rw [wz,yC,xR,qA] at h;exact h
def kn14 (ws:List (Int×List PVw)) (v:Vw):List (Int×List PVw):=if v.Field= -1 then ws else mput ws v.R.Number ((mget ws v.R.Number).getD []++[prV v])
def zfi (L:List Vw) (n:Int):List Vw:=L.filter fun v=>decide (v.Field≠ -1/\v.R.Number=n)
theorem zBb (n:Int):∀(L:List Vw) (ws:List (Int×List PVw)),(mget (L.foldl kn14 ws) n).getD []=(mget ws n).getD []++(zfi L n).map prV
 | [],ws=>by simp [zfi]
 | v::L,ws=>by
  rw [yf,zBb n L]
  grind [zfi,kn14,sb,zo,zhz]
theorem zyc {κ ν:Type} [DecidableEq κ] (m:List (κ×ν)) (k j:κ) (x:ν):j∈(mput m k x).map Prod.fst↔j∈m.map Prod.fst\/j=k:=by
 rw [zlU];cases h:mget m k with
 | none=>simp
 | some y=>
  simp only;exact ⟨.inl,fun h'=>h'.elim id fun e=>e▸zFp h⟩
theorem zCu (n:Int):∀(L:List Vw) (ws:List (Int×List PVw)),n∈(L.foldl kn14 ws).map Prod.fst↔n∈ws.map Prod.fst\/∃v∈L,v.Field≠ -1/\v.R.Number=n
 | [],ws=>by simp
 | v::L,ws=>by
  rw [yf,zCu n L]
  grind [kn14,sb,zo,zyc]
theorem zzA:∀(L:List Vw) (ws:List (Int×List PVw)),(ws.map Prod.fst).Nodup->((L.foldl kn14 ws).map Prod.fst).Nodup
 | [],ws,h=>h
 | v::L,ws,h=>by
  rw [yf];refine zzA L _ ?_
  grind [kn14,sb,zo,zpZ]
theorem zFs {κ ν:Type} [DecidableEq κ] (m:List (κ×ν)) (k:κ) (x:ν):(mput m k x).length<=m.length+1:=by
 have h:=congrArg List.length (zlU m k x)
 grind
theorem zBc:∀(L:List Vw) (ws:List (Int×List PVw)),(L.foldl kn14 ws).length<=ws.length+L.length
 | [],ws=>by simp
 | v::L,ws=>by
  rw [yf];have h:=zBc L (kn14 ws v);have h2:(kn14 ws v).length<=ws.length+1:=by
   grind [kn14,sb,zo,zFs]
  grind
theorem zxP {b:List UInt8} {L:List Vw} (hL:L.length<=1048576) (hat:At14 b L) (hneg:∀v∈L,v.Field= -1\/0<=v.Field) (x:Int×Int):∀(post wC:List Vw),L=wC++post->
  zeJ b (L.map prV,x) (wC.foldl kn14 []) wC.length (unkO (wC.map (thOf b)))=some (L.foldl kn14 [],unkO (L.map (thOf b))):=by
 intro post
 induction post with
 | nil=>
  intro wC e;rw [yl] at e;subst e;refine zpw ?_;unfold zdn
  grind
 | cons v post ih=>
  intro wC e;have hlt:wC.length<L.length:=by rw [e];simp
  have hti:L[wC.length]=v:=by subst e;simp
  have hv:v∈L:=by rw [e];simp
  have hx:idx (L.map prV) (wC.length:Nat)=some (prV v):=by rw [ztz hlt,hti]
  have hfi:(prV v).Field=v.Field:=rfl;have hun:(unkO (wC.map (thOf b))).length<=wC.length:=by
   unfold unkO
   grind
  have hw:i64.wrap (((wC.length:Nat):Int)+1)=(((wC++[v]).length:Nat):Int):=by rw [ue,xz,yh];push_cast;rfl
  have hF:=(hat v hv);by_cases hf:v.Field= -1
  ·refine (zjz (known':=(wC++[v]).foldl kn14 []) (v':=(((wC++[v]).length:Nat):Int)) (f':=unkO ((wC++[v]).map (thOf b))) ?_).trans (ih (wC++[v]) (by rw [e];simp));unfold zdn;have e1:(prV v).Record.From=v.R.From:=rfl;have e2:(prV v).Record.To=v.R.To:=rfl;have hu:unkO ((wC++[v]).map (thOf b))=unkO (wC.map (thOf b))++[rawB b v.R]:=by
    unfold unkO;rw [yv,pr,yv];congr 1;rw [pT,yL,xn (by show decide (v.Field<0)=true;rw [hf];rfl)];rfl
   have hk:(wC++[v]).foldl kn14 []=wC.foldl kn14 []:=by rw [List.foldl_append,yf,qS];unfold kn14;rw [xn hf]
   rw [uc,hx,sb,itT (by rw [hfi,hf];rfl),e1,e2,zGJ hat hv,sb,zbn (by simp;omega),sb,hw,hu,hk]
  ·refine (zjz (known':=(wC++[v]).foldl kn14 []) (v':=(((wC++[v]).length:Nat):Int)) (f':=unkO ((wC++[v]).map (thOf b))) ?_).trans (ih (wC++[v]) (by rw [e];simp));unfold zdn;have e1:(prV v).Record.Number=v.R.Number:=rfl;have hg:=zBb v.R.Number wC [];have wz:((mget (wC.foldl kn14 []) v.R.Number).getD []).length<=wC.length:=by
    rw [hg];have:(zfi wC v.R.Number).length<=wC.length:=po _ _;simpa [mget] using this
   have hk:(wC++[v]).foldl kn14 []=mput (wC.foldl kn14 []) v.R.Number ((mget (wC.foldl kn14 []) v.R.Number).getD []++[prV v]):=by rw [List.foldl_append,yf,qS];show kn14 (wC.foldl kn14 []) v=_;unfold kn14;rw [xm hf]
   rw [uc,hx,sb,itF (by rw [hfi];simpa using hf),e1,zbn (by simp only [yh];omega),sb,hw,hk];have hu:unkO ((wC++[v]).map (thOf b))=unkO (wC.map (thOf b)):=by
    unfold unkO;rw [yv,pr,yv,pT,yL,xm (by show ¬decide (v.Field<0)=true;have:=(hneg v hv).resolve_left hf;simp;omega)];simp
   rw [hu]
theorem zzx {L:List Vw} (hwf:∀v∈L,v.Field≠ -1->(Lit.int .i64 v.R.Number).wf=true) (hL:L.length<=1048576):
  ∃ks,zqI (L.foldl kn14 [])=some ks/\ks.Pairwise (·<·)/\∀n,n∈ks↔∃v∈L,v.Field≠ -1/\v.R.Number=n:=by
 have wz:=zBc L [];have hnd:=zzA L [] (by simp);have hk:=fun n=>zCu n L []
 generalize L.foldl kn14 []=K at wz hnd hk
 refine ⟨(K.map Prod.fst).mergeSort fun x y=>decide (x<=y),?_,?_,fun n=>?_⟩
 ·have hall:(K.all fun p=>(Lit.int .i64 p.1).wf)=true:=by
   rw [xD];intro p hp;obtain h| ⟨v,hv,hf,hn⟩:=(hk p.1).1 (yU hp)
   ·simp at h
   grind
  have hl:K.length*8<=140737488355328:=by rw [yZ] at wz;omega
  unfold zqI
  grind
 ·have hp:=List.mergeSort_perm (K.map Prod.fst) fun x y=>decide (x<=y)
  have hs:=List.pairwise_mergeSort (le:=fun x y:Int=>decide (x<=y)) (fun a b c h k=>by simp at*;omega) (fun a b=>by simp;omega) (K.map Prod.fst);have hnd':=hp.nodup_iff.2 hnd
  generalize (K.map Prod.fst).mergeSort (fun x y=>decide (x<=y))=ks at hs hnd'
  refine (List.Pairwise.and hs hnd').imp fun {a b} h=>?_
  grind
 ·simp_all
theorem zsV:∀(l k:List Int),l.Pairwise (·<·)->k.Pairwise (·<·)->(∀w,w∈l↔w∈k)->l=k
 | [],[],_,_,_=>rfl
 | [],y::k,_,_,h=>absurd ((h y).2 xo) (by simp)
 | x::l,[],_,_,h=>absurd ((h x).1 xo) (by simp)
 | x::l,y::k,hl,hk,h=>by
  have hl':=xZ.1 hl;have hk':=xZ.1 hk;have hxy:x=y:=by
   rcases xr.1 ((h x).1 xo) with h1| h1
   ·exact h1
   ·rcases xr.1 ((h y).2 xo) with h2| h2
    ·exact h2.symm
    grind
  subst hxy;congr 1;refine zsV l k hl'.2 hk'.2 fun w=>?_
  grind
theorem zui {α:Type} (vo:Int->α) (p:α->Bool) (met:Int->Bool):∀(o:List Int),(∀i∈o,met i=false->p (vo i)=false)->(o.map vo).filter p=((o.filter met).map vo).filter p
 | [],_=>rfl
 | i::o,h=>by
  have ih:=zui vo p met o fun j hj=>h j (xp _ hj)
  grind
def znb (f:Fld) (L:List Vw):List Vw:=if f.Repeated=true then L else L.drop (L.length - 1)
theorem zsd (b:List UInt8) (f:Fld) (L:List Vw):(znb f L).map (thOf b)=zff f (L.map (thOf b)):=by
 unfold znb zff;split
 ·rfl
 simp_all
theorem zDK :∀v∈znb f L,v∈L:=fun v hv=>by
 unfold znb at hv
 grind
theorem zDJ (f:Fld) (L:List Vw):(znb f L).length<=L.length:=by
 unfold znb
 grind
theorem zrO:∀(T:List Th),(T.flatMap (·.val)).length+T.length<=wt T
 | []=>by simp [wt]
 | t::T=>by have:=zrO T;rw [xQ,xz,xL,wt];omega
theorem zvH (k:Int):∀(T:List Th),(T.flatMap fun t=>(zaG k t.val).1).length<=wt T
 | []=>by simp [wt]
 | t::T=>by have:=zvH k T;have:=zpl k t.val;rw [xQ,xz,wt];omega
theorem zCQ (f:Fld) (T:List Th):wt (zff f T)<=wt T:=by
 unfold zff;split
 ·grind
 ·have:∀(T:List Th) (k:Nat),wt (T.drop k)<=wt T:=fun T=>by
   induction T with
   | nil=>intro k;simp
   | cons t T ih=>
    intro k;cases k with
    | zero=>simp
    | succ k=>have:=ih k;rw [pu,wt];omega
  exact this T _
theorem zGi {rec1:List ze->Int->List UInt8->Option zb} {rec2:List ze->Fld->List UInt8->List PVw->Option (List zb)} {rec3:List ze->Fld->List UInt8->List PVw->Option za}
  {g:Int->List UInt8->Msg} {s:List Mes} {f:Fld} {b:List UInt8} {L:List Vw} (hat:At14 b L) (hne:L≠[]) (hw:wt (L.map (thOf b))<=1048576)
  (hg1:f.Repeated=true->∀t∈L,rec1 s f.Of (valB b t.R)=some (g f.Of (valB b t.R))) (hg2:f.Repeated=false->rec1 s f.Of ((L.map (thOf b)).flatMap (·.val))=some (g f.Of ((L.map (thOf b)).flatMap (·.val)))):
  zhF rec1 rec2 rec3 s f b (L.map prV)=some (if f.Repeated=true then (L.map (thOf b)).map fun t=>g f.Of t.val else [g f.Of ((L.map (thOf b)).flatMap (·.val))]):=by
 have hL:L.length<=1048576:=by have:=zoL (L.map (thOf b));rw [yP] at this;omega
 have hfl:((L.map fun t=>valB b t.R).flatten)=(L.map (thOf b)).flatMap (·.val):=by
  rw [List.flatMap_map,pA];rfl
 have hflen:=zrO (L.map (thOf b));unfold zhF;rw [zrX (a:=L.length) (by simp) (qq _) (by simp;omega),sb,zAj hL hat,sb];cases hr:f.Repeated
 ·by_cases h1:1<L.length
  ·rw [uc,zwp (by simp;omega) (by rw [hfl];omega),sb,sb,zrX (bytes:=48) (a:=1) (by simp) (qq _) (by simp),sb];have h:=zso (rec:=rec1) (g:=g) (s:=s) (f:=f) (p:=[(L.map fun t=>valB b t.R).flatten]) (by simp) (fun v hv=>by
    simp only [xr,xH,xI] at hv;rw [hv,hfl];exact hg2 hr)
   grind
  ·have hl1:L.length=1:=by
    have:L.length≠0:=fun e=>hne (yq e)
    omega
   obtain ⟨t,rfl⟩:=List.length_eq_one_iff.1 hl1;rw [p9,sb,zrX (bytes:=48) (a:=1) (by simp) (qq _) (by simp),sb];have hv1:([t].map (thOf b)).flatMap (·.val)=valB b t.R:=by simp [thOf]
   have h:=zso (rec:=rec1) (g:=g) (s:=s) (f:=f) (p:=[valB b t.R]) (by simp) (fun v hv=>by
    simp only [xr,xH,xI] at hv;rw [hv];have:=hg2 hr;rw [hv1] at this;exact this)
   grind
 ·rw [p8,sb,zrX (a:=L.length) (by simp) (qq _) (by simp;omega),sb];have h:=zso (rec:=rec1) (g:=g) (s:=s) (f:=f) (p:=L.map fun t=>valB b t.R) (by simpa using hL) (fun v hv=>by
   obtain ⟨t,ht,rfl⟩:=xA.1 hv;exact hg1 hr t ht)
  rw [yP] at h;rw [h,sb,xn rfl,yX,yX];rfl
theorem zEd 
  (hb:b.length<=1048576) (hat:At14 b L) (hne:L≠[]) (hw:wt (L.map (thOf b))<=1048576)
  (h2:f.Kind=17->rec2 s f b (L.map prV)=some (if f.Repeated=true then (L.map (thOf b)).map fun t=>g f.Of t.val else [g f.Of ((L.map (thOf b)).flatMap (·.val))])):
  zgT rec1 rec2 rec3 s f b (L.map prV)=some (valT g f (L.map (thOf b))):=by
 have hL:L.length<=1048576:=by have:=zoL (L.map (thOf b));rw [yP] at this;omega
 have hl0:L.length≠0:=fun e=>hne (yq e)
 unfold zgT valT;by_cases ww:f.Kind=17
 ·grind
 ·have hp:(if ((!f.Repeated)&&(f.Kind !=17))=true then (cut (L.map prV) (i64.wrap (((L.map prV).length:Int) - 1)) ((L.map prV).length:Int)>>=fun v2=>some v2) else some (L.map prV))=some ((znb f L).map prV):=by
   unfold znb;cases hr:f.Repeated
   ·rw [itT (by simp [ww]),xm (by simp)];have hc:cut (L.map prV) (i64.wrap (((L.map prV).length:Int) - 1)) ((L.map prV).length:Int)=some ((L.drop (L.length - 1)).map prV):=by
     rw [zgj (a:=L.length - 1) (b:=L.length) (by rw [yP,ue];omega) (by simp) (by omega) (by simp)];rw [List.map_drop,yI (by simp)]
    rw [hc,sb]
   rfl
  rw [hp,sb,itF (by simp [ww]),xm ww];have hpw:=zCQ f (L.map (thOf b));rw [<-zsd] at hpw;have hpl:=zDJ f L;have hpa:At14 b (znb f L):=fun v hv=>hat v (zDK v hv)
  by_cases hx:f.Kind=15\/f.Kind=16
  ·have hk:(if (f.Kind==15)=true then some (f.Kind==15) else some (f.Kind==16))=some true:=by
    grind
   rw [hk,sb,itT rfl,zGe (by omega) hpa,sb,xn hx,<-zsd,yX];rfl
  ·have hk:(if (f.Kind==15)=true then some (f.Kind==15) else some (f.Kind==16))=some false:=by
    grind
   have hfm:((znb f L).flatMap fun t=>(zaG f.Kind (valB b t.R)).1)=((znb f L).map (thOf b)).flatMap fun t=>(zaG f.Kind t.val).1:=by rw [List.flatMap_map];rfl
   have hwl:=zvH f.Kind ((znb f L).map (thOf b));rw [hk,sb,itF rfl,zEe hb (by omega) hpa (by rw [hfm];omega),sb,xm hx,<-zsd,hfm]
theorem zqD {s:List Mes} {e:Nat} {k:Int}:∀(l:List (List UInt8)),(∀v∈l,zU s e k v=none)->zU s e k l.flatten=none
 | [],_=>by rw [List.flatten_nil];exact znX s e k
 | v::l,h=>by
  rw [yM];exact (zgL s e k l.flatten (h v xo)).2 (zqD l fun u hu=>h u (xp _ hu))
theorem zxp (p:Th->Bool):∀(T:List Th),wt (T.filter p)<=wt T
 | []=>by simp
 | t::T=>by
  have:=zxp p T;rw [yL];split
  ·rw [wt,wt];omega
  ·rw [wt];omega
theorem zlF (hks:ks.length<=1048576)
  (hrow:∀n∈ks,∃(x:PVw) (f:Fld),idx ((mget q.1 n).getD []) 0=some x/\idx m.Fields x.Field=some f/\rec3 s f b ((mget q.1 n).getD [])=some (V n)/\(V n).Words.length<=1048576/\(V n).Texts.length<=1048576/\(V n).Subs.length<=1048577):
  ∀(c i:Nat) (out:List Vlu),i+c=ks.length->out.length<=i->zeK b q rec3 s ks m i out=some (out++((ks.drop i).map V).filter fun v=>decide (0<zay v))
 | 0,i,out,hi,_=>by
  have e:ks.drop i=[]:=yu (by omega);rw [e];refine zpx ?_;unfold zdo
  grind
 | c+1,i,out,hi,ho=>by
  have hil:i<ks.length:=by omega
  obtain ⟨x,f,h1,h2,h3,h4,h5,h6⟩:=hrow _ (xy hil);rw [yd hil,xC,yL];have hx:idx ks (i:Int)=some ks[i]:=zS rfl hil;have hw:i64.wrap ((i:Int)+1)=((i+1:Nat):Int):=by rw [ue];push_cast;rfl
  by_cases hp:0<zay (V ks[i])
  ·rw [xn (by simpa using hp)];refine (zjA (v6':=((i+1:Nat):Int)) (f3':=out++[V ks[i]]) ?_).trans ?_
   ·unfold zdo;rw [uc,hx,sb,h1,sb,h2,sb,h3,sb,zxj ⟨by omega,by omega,by omega⟩,sb,itT (by simpa using hp),zbn (by simp only [yh];omega),sb,hw]
   ·rw [zlF hks hrow c (i+1) _ (by omega) (by simp;omega),yr];rfl
  ·rw [xm (by simpa using hp)];refine (zjA (v6':=((i+1:Nat):Int)) (f3':=out) ?_).trans (zlF hks hrow c (i+1) out (by omega) (by omega))
   grind [zdo,sb,zo,zxj]
theorem zGl (g:Int->List UInt8->Msg) (f:Fld) (h:wt T<=1048576):(valT g f T).Words.length<=1048576/\(valT g f T).Texts.length<=1048576/\(valT g f T).Subs.length<=1048577:=by
 have h1:=zCQ f T;have h2:=zoL (zff f T);have h3:=zvH f.Kind (zff f T);have h4:=zoL T;unfold valT
 grind
theorem zvu {s:List Mes} (hs:zgh s) {d n k:Nat} {b:List UInt8} (hk:k<s.length) (hb:b.length<=1048576) (hfi:zU s d k b=none)
  (hrec:∀e,d=e+1->∀(k':Nat) (v:List UInt8),k'<s.length->v.length<=1048576->zU s e k' v=none->zee n s k' v=some (ofM s k' v)):zee (n+3) s k b=some (ofM s k b):=by
 have hm:idx s (k:Int)=some (zA s k):=by rw [zS rfl hk,zdJ hk]
 have hmm:zA s (k:Int)∈s:=by rw [zdJ hk];exact xy hk
 have hfew:=hs.few _ hmm;have hfld:=hs.fld _ hmm;have hok:=zCY hfi;have hwt:=zmU (zA s k) b;have hris:=zrq hs hmm;have hat9:=fun {i:Int} (h0:0<=i) (h1:i<(zA s (k:Int)).Fields.length)=>zqE hs hmm h0 h1
 rw [zki]
 -- views
 have hvk:∀v∈(zaJ (zA s (k:Int)) b).1,v.Field= -1\/0<=v.Field/\v.Field<(zA s (k:Int)).Fields.length/\fldI (zA s (k:Int)) v.R.Number=v.Field/\(zy (zA s (k:Int)) v.Field).Number=v.R.Number:=by
  intro v hv;have h:=(zDb hv).2;rcases zeX (zA s (k:Int)) v.R.Number v.R.Wire with h1| ⟨h1,_⟩| ⟨i,run,h1,h2,h3⟩
  ·grind
  ·grind
  ·rw [h] at h1;simp only [pX,ym] at h1;refine .inr ⟨by omega,by omega,by rw [h2,h1.1],?_⟩;rcases zfJ (zA s (k:Int)) v.R.Number with ⟨g1,_⟩| ⟨j,hj,g1,g2,_⟩
   ·omega
   ·rw [h1.1,<-h2,g1,zcp hj,g2]
 have hat:At14 b (zaJ (zA s (k:Int)) b).1:=fun t ht=>ztR ht
 have hL:(zaJ (zA s (k:Int)) b).1.length<=1048576:=yo (zyL _ _) hb;have hths:ths (zA s (k:Int)) b=(zaJ (zA s (k:Int)) b).1.map (thOf b):=rfl;have hall:=zyM (m:=zA s (k:Int)) (by omega) hb;rw [hths] at hok hwt|-
 generalize zA s (k:Int)=m at hm hmm hfew hfld hok hwt hris hat9 hvk hat hL hall|-
 show zgE (zee (n+2)) (zpk (n+2)) (ziJ (n+2)) s k b=_;unfold zgE;rw [hm,sb,hall,sb]
 generalize (zaJ m b).2.1=c1
 generalize (zaJ m b).2.2=c2
 generalize (zaJ m b).1=L at hok hwt hvk hat hL|-
 have hl1:=zxP hL hat (fun v hv=>(hvk v hv).imp id fun h=>h.1) (c1,c2) L [] rfl;have hl1':zeJ b (L.map prV,c1,c2) [] 0 []=_:=hl1;obtain ⟨ks,hks,hkp,hkm⟩:=zzx (L:=L) (fun v hv hf=>by
  obtain ⟨h0,h1,_,h3⟩:=(hvk v hv).resolve_left hf;obtain ⟨i,hi⟩:∃i:Nat,v.Field=i:=⟨v.Field.toNat,by omega⟩;have hil:i<m.Fields.length:=by omega
  rw [hi,zcp hil] at h3;have hfo:=hfld _ (xy hil);have:=hfo.lo;have:=hfo.hi;exact zEP (by omega)) hL
 rw [hl1',sb,hks,sb];have hrowis:∀n,(mget (L.foldl kn14 []) n).getD []=(zfi L n).map prV:=fun n=>by rw [zBb n L []];rfl
 let vo:Int->Vlu:=fun i=>valO (ofM s) (zy m i) (accF (ofM s) (zy m i) i acc0 (L.map (thOf b)))
 -- a field's views
 have hby:∀{i:Int},0<=i->i<m.Fields.length->(zfi L (zy m i).Number).map (thOf b)=(L.map (thOf b)).filter fun t=>t.fi==i:=fun {i} h0 h1=>by
  unfold zfi;rw [List.filter_map];congr 1;refine List.filter_congr fun v hv=>?_
  show decide (v.Field≠ -1/\v.R.Number=(zy m i).Number)=(v.Field==i)
  grind
 have hvoT:∀{i:Int},0<=i->i<m.Fields.length->zfi L (zy m i).Number≠[]->vo i=valT (ofM s) (zy m i) ((zfi L (zy m i).Number).map (thOf b))/\∀t∈(zfi L (zy m i).Number).map (thOf b),OkF (zy m i) t/\OkT s d m t/\t.fi=i:=fun {i} h0 h1 hne=>by
  have hT:=hby h0 h1;have hmem:∀t∈(zfi L (zy m i).Number).map (thOf b),OkF (zy m i) t/\OkT s d m t/\t.fi=i:=fun t ht=>by
   rw [hT,xW] at ht;have hfi':t.fi=i:=by simpa using ht.2
   have ho:=hok t ht.1;refine ⟨⟨fun hr=>?_,fun hr=>?_⟩,ho,hfi'⟩
   ·have:=ho.run (by omega) hr
    grind
   ·have:=ho.one (by omega) hr
    grind
  refine ⟨?_,hmem⟩;obtain ⟨j,rfl⟩:∃j:Nat,i=j:=⟨i.toNat,by omega⟩;have hjl:j<m.Fields.length:=by omega
  have hkr:zbY (zy m (j:Int)).Kind=true:=by rw [zcp hjl];exact (hfld _ (xy hjl)).kind
  show valO _ _ (accF _ _ _ _ _)=_;rw [zmv,<-hT,zJn _ hkr (by simpa using hne) fun t ht=>(hmem t ht).1]
 have hkn:∀n∈ks,∃i:Int,0<=i/\i<m.Fields.length/\(zy m i).Number=n/\fldI m n=i/\zfi L n≠[]/\∀v∈zfi L n,v.Field=i:=fun n hn=>by
  obtain ⟨v,hv,hf,hnn⟩:=(hkm n).1 hn;obtain ⟨g0,g1,g2,g3⟩:=(hvk v hv).resolve_left hf;refine ⟨v.Field,g0,g1,by rw [g3,hnn],by rw [<-hnn,g2],fun e=>?_,fun u hu=>?_⟩
  ·have:v∈zfi L n:=xW.2 ⟨hv,by simp [hf,hnn]⟩
   grind
  ·obtain ⟨hu1,hu2⟩:=xW.1 hu
   grind
 have hkl:ks.length<=1048576:=by
  have wz:ks.length=(L.foldl kn14 []).length:=by
   unfold zqI at hks;split at hks
   ·cases hks;simp
   ·cases hks
  have:=zBc L []
  grind
 have hl2:=zlF (rec3:=ziJ (n+2)) (s:=s) (m:=m) (b:=b) (q:=(L.foldl kn14 [],unkO (L.map (thOf b)))) (V:=fun w=>vo (fldI m w)) hkl (fun w hn=>by
  obtain ⟨i,h0,h1,h2,h3,h4,h5⟩:=hkn w hn;have hwf:=zxp (fun t=>t.fi==i) (L.map (thOf b));rw [<-hby h0 h1,h2] at hwf;have hw':wt ((zfi L w).map (thOf b))<=1048576:=by omega
  obtain ⟨v0,r0,hv0⟩:=p6 h4;obtain ⟨j,hj⟩:∃j:Nat,i=j:=⟨i.toNat,by omega⟩;have hjl:j<m.Fields.length:=by omega
  have hfj:idx m.Fields i=some (zy m i):=by rw [hj,zS rfl hjl,zcp hjl]
  have hfm:zy m i∈m.Fields:=by rw [hj,zcp hjl];exact xy hjl
  have hv0m:v0∈zfi L w:=by rw [hv0];exact xo
  have hv0f:v0.Field=i:=h5 v0 hv0m;have hvT:=hvoT h0 h1 (by rw [h2];exact h4);rw [h2] at hvT;have hbat:At14 b (zfi L w):=fun v hv=>hat v (xW.1 hv).1
  have wz:=zGl (ofM s) (zy m i) hw';rw [<-hvT.1] at wz;refine ⟨prV v0,zy m i,?_,?_,?_,by rw [h3];exact wz⟩
  ·rw [hrowis,hv0];rfl
  ·have:(prV v0).Field=v0.Field:=rfl
   grind
  ·rw [hrowis,h3,hvT.1];show zgT (zee (n+1)) (zpk (n+1)) (ziJ (n+1)) s (zy m i) b _=_;refine zEd hb hbat h4 hw' fun ww=>?_
   show zhF (zee n) (zpk n) (ziJ n) s (zy m i) b _=_;have hof:=(hfld _ hfm).sub ww;obtain ⟨k',hk'⟩:∃k':Nat,(zy m i).Of=k':=⟨(zy m i).Of.toNat,by omega⟩;have hone:∀t∈zfi L w,∃e,d=e+1/\zU s e (zy m i).Of (valB b t.R)=none:=fun t ht=>by
    obtain ⟨o1,o2,o3⟩:=hvT.2 _ (yU (f:=thOf b) ht);have hr:(thOf b t).run=false:=by
     cases hr:(thOf b t).run
     ·rfl
     ·have:=(o1.1 hr).1;rw [ww] at this;cases this
    have:=(o2.one (by omega) hr).2.2.2;rw [o3] at this;exact this ww
   refine zGi hbat h4 hw' (fun hr t ht=>?_) (fun hr=>?_)
   ·obtain ⟨e,he,hfe⟩:=hone t ht;have hvl:=zoM (yU (f:=thOf b) ht);have hvl':(valB b t.R).length+1<=wt ((zfi L w).map (thOf b)):=hvl
    grind
   ·obtain ⟨e,he,_⟩:=hone v0 hv0m;have hfl:=zrO ((zfi L w).map (thOf b));have hff:zU s e (zy m i).Of (((zfi L w).map (thOf b)).flatMap (·.val))=none:=by
     rw [pA];refine zqD _ fun v hv=>?_
     obtain ⟨t',ht',rfl⟩:=xA.1 hv;obtain ⟨t,ht,rfl⟩:=xA.1 ht';obtain ⟨e',he',hfe⟩:=hone t ht;have:e'=e:=by omega
     rw [<-this];exact hfe
    rw [hk'] at hff|-;exact hrec e he k' _ (by omega) (by omega) hff) ks.length 0 [] (xP _) (xt _)
 have hl2':zeK b (L.foldl kn14 [],unkO (L.map (thOf b))) (ziJ (n+2)) s ks m 0 []=_:=hl2;rw [hl2',sb,yb,xR];have hfin:((ks.map fun w=>vo (fldI m w)).filter fun v=>decide (0<zay v))=zlg (ofM s) m (L.map (thOf b)) (zbU (zaK m) m.Fields.length):=by
  show _=(((zbU (zaK m) m.Fields.length).map vo).filter fun v=>decide (0<zay v));rw [zui vo (fun v=>decide (0<zay v)) (fun i=> !(zfi L (zy m i).Number).isEmpty) _ fun i hi hme=>?_]
  ·have hsub:∀i∈(zbU (zaK m) m.Fields.length).filter (fun i=> !(zfi L (zy m i).Number).isEmpty),0<=i/\i<m.Fields.length:=fun i hi=>zdV.1 (xW.1 hi).1
   have hks2:((zbU (zaK m) m.Fields.length).filter (fun i=> !(zfi L (zy m i).Number).isEmpty)).map (zaK m)=ks:=by
    refine zsV _ _ ?_ hkp fun w=>?_
    ·grind
    ·rw [xA];constructor
     ·rintro ⟨i,hi,rfl⟩;obtain ⟨hi1,hi2⟩:=xW.1 hi;have hne:zfi L (zy m i).Number≠[]:=by
       grind
      obtain ⟨v0,r0,hv0⟩:=p6 hne;have hv0m:v0∈zfi L (zy m i).Number:=by rw [hv0];exact xo
      obtain ⟨q1,q2⟩:=xW.1 hv0m;obtain ⟨q3,q4⟩:=yA q2;exact (hkm _).2 ⟨v0,q1,q3,q4⟩
     ·intro hw;obtain ⟨i,h0,h1,h2,h3,h4,_⟩:=hkn w hw;exact ⟨i,xW.2 ⟨zdV.2 ⟨h0,h1⟩,by rw [h2];simpa using h4⟩,h2⟩
   have e1:(ks.map fun w=>vo (fldI m w))=((zbU (zaK m) m.Fields.length).filter (fun i=> !(zfi L (zy m i).Number).isEmpty)).map vo:=by
    rw [<-hks2,yX];refine qC fun i hi=>?_
    show vo (fldI m (zaK m i))=vo i;rw [zoc,hat9 (hsub i hi).1 (hsub i hi).2]
   rw [e1]
  ·obtain ⟨h0,h1⟩:=zdV.1 hi;have hbe:zfi L (zy m i).Number=[]:=by simpa using hme
   have hT:=hby h0 h1;rw [hbe] at hT;have hvo:vo i=valO (ofM s) (zy m i) acc0:=by
    show valO _ _ (accF _ _ _ _ _)=_;rw [zmv,<-hT];rfl
   rw [hvo];rfl
 rw [hfin];rfl
theorem zGf (hs:zgh s):∀(d fuel k:Nat) (b:List UInt8),k<s.length->b.length<=1048576->3*d+3<=fuel->zU s d k b=none->zee fuel s k b=some (ofM s k b):=by
 intro d
 induction d with
 | zero=>
  intro fuel k b hk hb hf hfi;obtain ⟨n,rfl⟩:∃n,fuel=n+3:=⟨fuel - 3,by omega⟩;exact zvu hs hk hb hfi fun e he=>by omega
 | succ d ih=>
  intro fuel k b hk hb hf hfi;obtain ⟨n,rfl⟩:∃n,fuel=n+3:=⟨fuel - 3,by omega⟩;exact zvu hs hk hb hfi fun e he k' v h1 h2 h3=>by
   grind
theorem zJl (root:Int) (d:Int) (hf:300<=fuel) (hw:WS s) (hb:b.length<=1048576):zrs fuel s root b d=some (zyI s root b d):=by
 unfold zrs zyI;rw [zsv hw root hb d (by omega),sb];by_cases h0:(zaV s root b d).2=0
 ·have h0':¬(zaV s root b d).2≠0:=fun h=>h h0
  obtain ⟨hr,g1,g2,g3,g4⟩:=zlH (zxF h0);obtain ⟨k,rfl⟩:∃k:Nat,root=k:=⟨root.toNat,by omega⟩;have hfi:zU s d.toNat k b=none:=(zqH.1 (by unfold is11;simpa using h0)).2;rw [itF (by simpa using h0),xm h0',zGf hr d.toNat fuel k b (by omega) hb (by omega) hfi,sb]
 grind
theorem zwM {fuel:Nat} {s:List Mes} (root:Int) {a b:List UInt8} (d:Int) (hf:130<=fuel) (hw:WS s) (ha:a.length<=1048576) (hb:b.length<=1048576):zhx fuel s root a b d=some (zpz s root [a,b] d).2.2:=by
 unfold zhx;rw [zsv hw root ha d hf,sb,zsv hw root hb d hf,zDa]
 grind [sb]
theorem zCG {fuel:Nat} {s:List Mes} (root:Int) {a b:List UInt8} (d:Int) (hf:130<=fuel) (hw:WS s) (ha:a.length<=1048576) (hb:b.length<=1048576):zjO fuel s root a b d=some ((zpz s root [a,b] d).1,(zpz s root [a,b] d).2.2):=by
 unfold zjO;rw [zwM root d hf hw ha hb,sb,zwp (by simp) (by simp;omega),zDa]
 grind [sb]
theorem ztK {m:Mes} {b:List UInt8} {v:Vw} (h:v∈(zaJ m b).1):v.Field= -1/\fldI m v.R.Number= -1\/∃(i:Nat) (g:i<m.Fields.length),v.Field=i/\fldI m v.R.Number=i/\m.Fields[i].Number=v.R.Number:=by
 have hv:=(zDb h).2;rcases zeX m v.R.Number v.R.Wire with h1| ⟨h1,h2⟩| ⟨i,run,h1,h2,h3⟩
 ·rw [h1] at hv;cases hv
 ·rw [h1] at hv;simp only [pX,ym] at hv;exact .inl ⟨hv.1.symm,h2⟩
 ·rw [h1] at hv;simp only [pX,ym] at hv;rcases zfJ m v.R.Number with ⟨g,_⟩| ⟨j,hj,g,gn,_⟩
  ·rw [g] at h2;omega
  ·rw [g] at h2;have:j=i:=by omega
   subst this;exact .inr ⟨j,hj,hv.1.symm,g,gn⟩
def zmK (m:Mes) (i:Int):Bool:=i != -1&& !(zy m i).Repeated&&(zy m i).Kind !=17
theorem zHs {m:Mes} (hm:m.Fields.length<=1152921504606846976) {b:List UInt8} (hb:b.length<=1048576):∃F,zgA m b=some F/\∀i,(mget F i).getD false=(((zaJ m b).1.any fun v=>v.Field==i)&&zmK m i):=by
 unfold zgA zhy;rw [zyM hm hb,sb,sb];have wz:=zyL m b;have key:∀(post wC:List Vw) (F:List (Int×Bool)),(zaJ m b).1=wC++post->(∀i,(mget F i).getD false=((wC.any fun v=>v.Field==i)&&zmK m i))->∃G,zdf m ((zaJ m b).1.map prV) F (wC.length:Nat)=some G/\∀i,(mget G i).getD false=(((zaJ m b).1.any fun v=>v.Field==i)&&zmK m i):=by
  intro post
  induction post with
  | nil=>
   intro wC F he hF;refine ⟨F,znx ?_,by rw [he,yl];exact hF⟩;unfold zch;rw [itF (by rw [he];simp)]
  | cons v post ih=>
   intro wC F he hF;have hpl:wC.length<(zaJ m b).1.length:=by rw [he];simp
   have hidx:idx ((zaJ m b).1.map prV) (wC.length:Nat)=some (prV v):=by
    have:=zIi (xs:=(zaJ m b).1.map prV) (v:=prV v) (wC:=wC.map prV) (post:=post.map prV) (by rw [he];simp);simpa using this
   have hg:(if ((prV v).Field !=(-1))=true then (idx m.Fields (prV v).Field>>=fun x2=>if (!x2.Repeated)=true then (idx m.Fields (prV v).Field>>=fun x3=>some (x3.Kind !=17)) else some false) else some false)=some (zmK m v.Field):=by
    unfold zmK;show (if (v.Field !=(-1))=true then (idx m.Fields v.Field>>=fun x2=>if (!x2.Repeated)=true then (idx m.Fields v.Field>>=fun x3=>some (x3.Kind !=17)) else some false) else some false)=_;rcases ztK (show v∈(zaJ m b).1 by rw [he];simp) with ⟨h1,_⟩| ⟨i,hi,h1,_⟩
    ·rw [h1];rfl
    ·have:(v.Field !=(-1))=true:=by simp;omega
     rw [itT this,this,h1,zS rfl hi,sb,sb,zcp hi];cases (m.Fields[i]).Repeated<;>rfl
   have e:∀F',(∀i,(mget F' i).getD false=(((wC++[v]).any fun v=>v.Field==i)&&zmK m i))->∃G,zdf m ((zaJ m b).1.map prV) F' ((wC.length+1:Nat):Int)=some G/\∀i,(mget G i).getD false=(((zaJ m b).1.any fun v=>v.Field==i)&&zmK m i):=fun F' h=>by
    have:=ih (wC++[v]) F' (by rw [he];simp) h;simpa using this
   cases hlo:zmK m v.Field with
   | true=>
    obtain ⟨G,g1,g2⟩:=e (mput F v.Field true) fun i=>by
     rw [zhz,qR];by_cases hi:i=v.Field
     ·rw [xn hi,hi,hlo];simp
     ·rw [xm hi,hF];have:(v.Field==i)=false:=by simpa using fun h=>hi h.symm
      simp [this]
    refine ⟨G,(zij (fields':=mput F v.Field true) (v':=((wC.length+1:Nat):Int)) ?_).trans g1,g2⟩;unfold zch;rw [uc,hidx,sb,hg,sb,itT hlo,ue];rfl
   | false=>
    obtain ⟨G,g1,g2⟩:=e F fun i=>by
     rw [hF,qR];by_cases hi:v.Field=i
     ·rw [<-hi,hlo];simp
     ·have:(v.Field==i)=false:=by simpa using hi
      simp [this]
    refine ⟨G,(zij (fields':=F) (v':=((wC.length+1:Nat):Int)) ?_).trans g1,g2⟩;unfold zch;rw [uc,hidx,sb,hg,sb,itF hlo,ue];rfl
 obtain ⟨G,g1,g2⟩:=key _ [] [] rfl (fun i=>by simp [mget]);have g1':zdf m ((zaJ m b).1.map prV) [] 0=some G:=g1;exact ⟨G,by rw [g1',sb],g2⟩
theorem zFr {fuel:Nat} {s:List Mes} (root:Int) {a b:List UInt8} (d:Int) (hf:130<=fuel) (hw:WS s) (ha:a.length<=1048576) (hb:b.length<=1048576):ziA fuel s root a b d=some (if (zpz s root [a,b] d).2.2≠0 then (0,(zpz s root [a,b] d).2.2) else (((zyg (zA s root) a b:Nat):Int),0)):=by
 unfold ziA;rw [zwM root d hf hw ha hb,sb];by_cases h:(zpz s root [a,b] d).2.2=0
 ·have harg:argS s root d=0:=by
   by_cases g:argS s root d=0
   ·exact g
   ·unfold zpz at h;rw [xn g] at h;exact absurd h g
  obtain ⟨hr,h1,h2,h3,h4⟩:=zlH harg;obtain ⟨k,rfl⟩:∃k:Nat,root=k:=⟨root.toNat,by omega⟩;have hk:k<s.length:=by omega
  have hm:idx s (k:Int)=some (zA s k):=by rw [zS rfl hk,zdJ hk]
  have hmf:(zA s k).Fields.length<=200:=by rw [zdJ hk];exact hr.few _ (xy hk)
  rw [itF (by simpa using h),xm (fun hc=>hc h),hm,sb]
  generalize zA s (k:Int)=m at hmf|-
  obtain ⟨F,hF,hFi⟩:=zHs (m:=m) (by omega) hb;rw [hF,sb];unfold zhy;rw [zyM (by omega) ha,sb,sb];have wz:=zyL m a;have hp:∀v∈(zaJ m a).1,(mget F v.Field).getD false=(decide (0<=v.Field)&&(zaJ m b).1.any (fun u=>u.R.Number==v.R.Number)&& !(zy m v.Field).Repeated&&(zy m v.Field).Kind !=17):=fun v hv=>by
   rw [hFi];unfold zmK;rcases ztK hv with ⟨e1,e2⟩| ⟨i,hi,e1,e2,e3⟩
   ·rw [e1];simp
   ·have hany:((zaJ m b).1.any fun u=>u.Field==v.Field)=(zaJ m b).1.any (fun u=>u.R.Number==v.R.Number):=by
     rw [yy,q9,q9];constructor
     ·rintro ⟨u,hu,he⟩;refine ⟨u,hu,?_⟩;have he':u.Field=v.Field:=by simpa using he
      rcases ztK hu with ⟨f1,f2⟩| ⟨j,hj,f1,f2,f3⟩
      ·omega
      ·have:j=i:=by omega
       subst this;simp [<-f3,e3]
     ·rintro ⟨u,hu,he⟩;refine ⟨u,hu,?_⟩;have he':u.R.Number=v.R.Number:=by simpa using he
      rw [<-he'] at e2;rcases ztK hu with ⟨f1,f2⟩| ⟨j,hj,f1,f2,f3⟩
      ·omega
      ·simp;omega
    have e4:(v.Field != -1)=true:=by simp;omega
    have e5:decide (0<=v.Field)=true:=by simp;omega
    rw [hany,e4,e5,yV,yV,Bool.and_assoc]
  have key:∀(post wC:List Vw),(zaJ m a).1=wC++post->zgd F ((zaJ m a).1.map prV) ((wC.filter fun v=>(mget F v.Field).getD false).length:Nat) (wC.length:Nat)=some ((((zaJ m a).1.filter fun v=>(mget F v.Field).getD false).length:Nat):Int):=by
   intro post
   induction post with
   | nil=>
    intro wC he;refine zqS ?_;unfold zeg;rw [itF (by rw [he];simp),he,yl]
   | cons v post ih=>
    intro wC he;have hpl:wC.length<(zaJ m a).1.length:=by rw [he];simp
    have hfl:=po (fun v=>(mget F v.Field).getD false) wC;have hidx:idx ((zaJ m a).1.map prV) (wC.length:Nat)=some (prV v):=by
     have:=zIi (xs:=(zaJ m a).1.map prV) (v:=prV v) (wC:=wC.map prV) (post:=post.map prV) (by rw [he];simp);simpa using this
    have e:=ih (wC++[v]) (by rw [he];simp);rw [pr,xz,xz] at e;cases hv:(mget F v.Field).getD false with
    | true=>
     refine (zkW (gone':=(((wC.filter fun v=>(mget F v.Field).getD false).length+1:Nat):Int)) (v':=((wC.length+1:Nat):Int)) ?_).trans (by simpa [hv] using e);unfold zeg;rw [uc,hidx,sb,itT (show (mget F (prV v).Field).getD false=true from hv),ue,ue];rfl
    | false=>
     refine (zkW (gone':=(((wC.filter fun v=>(mget F v.Field).getD false).length:Nat):Int)) (v':=((wC.length+1:Nat):Int)) ?_).trans (by simpa [hv] using e);unfold zeg;rw [uc,hidx,sb,itF (show (mget F (prV v).Field).getD false=false from hv),ue];rfl
  have h0:=key _ [] rfl;have h0':zgd F ((zaJ m a).1.map prV) 0 0=_:=h0;rw [h0',sb];unfold zyg;rw [List.filter_congr hp]
 ·rw [itT (by simpa using h),xn h]
end Go.Proofs.YtnckiilakdkklaaGreat
