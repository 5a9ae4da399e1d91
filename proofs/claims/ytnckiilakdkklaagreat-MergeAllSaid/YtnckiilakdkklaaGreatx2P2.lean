/-
  What the plain functions are. No condition.
-/
import Derived.Test.YtnckiilakdkklaaGreatx2P1
set_option autoImplicit true
set_option relaxedAutoImplicit true
namespace Go.Proofs.YtnckiilakdkklaaGreat
open Go
set_option linter.unusedVariables false
abbrev Head:=zz
abbrev Role:=zB
def rol (m:Mes) (h:Head):Role:=match vw m h.number h.wire with
 | .inl c=>⟨0,false,c⟩
 | .inr (i,run)=>⟨i,run,0⟩
theorem zxl (hm:m.Fields.length<=1152921504606846976) (n:Int):zhi m n=some (fldI m n):=by
 unfold zhi zO;have h:=zmY (fun f:Fld=>f.Number==n) m.Fields (fun i=>zA m.Fields n i) (zat (by unfold zw;rw [itF (by simp)])) (fun i hi=>by
  by_cases hp:(m.Fields[i].Number==n)=true
  ·rw [xe hp];exact zat (by unfold zw zfs;rw [px,zX rfl hi,sb,sb,itT hp])
  ·rw [xd hp];exact zbN (by unfold zw zfs;rw [px,zX rfl hi,sb,sb,itF (qL hp),pz];rfl)) m.Fields.length 0 (by omega) (fun j _ h=>by omega)
 have h':zA m.Fields n 0=_:=h;rw [h',sb];unfold fldI zhY;cases m.Fields.findIdx? (fun f:Fld=>f.Number==n) with
 | none=>rfl
 | some i=>rfl
theorem zxm (f:Fld) (w:Int):zhj f w=some (decide (f.Repeated=true/\kNum f.Kind=true/\w=2)):=by
 unfold zhj;cases f.Repeated
 ·simp [sb]
 ·by_cases hw:w=2
  ·subst hw;rw [itT rfl,itT (c:=(2:Int)==2) rfl,zpj,sb,sb];cases kNum f.Kind<;>rfl
  ·rw [itT rfl,itF (by simpa using hw),sb];simp [hw]
theorem zyY (k w:Int):ziN k w=some (decide (¬(zbV k=false\/zdK k≠w))):=by
 unfold ziN;rw [ztx,sb];cases zbV k with
 | false=>rfl
 | true=>
  by_cases h:zdK k=w<;>simp [h]
theorem zvn (hm:m.Fields.length<=1152921504606846976) (h:Head):zfa m h=some (rol m h):=by
 unfold zfa rol;rw [zxl hm,sb];unfold vw;rcases ziT m h.number with ⟨hf,_⟩| ⟨i,hi,hf,_⟩
 ·rw [hf,pv,xe (by decide)]
 ·rw [hf,itF (by simp),xd (by omega),zX rfl hi,sb,zge hi,zxm,sb];by_cases h1:(m.Fields[i]).Repeated=true/\kNum (m.Fields[i]).Kind=true/\h.wire=2
  ·rw [xe h1,xN h1];rfl
  ·rw [xd h1,xO h1,pv,zyY,sb,sb];by_cases h2:zbV (m.Fields[i]).Kind=false\/zdK (m.Fields[i]).Kind≠h.wire
   ·rw [xe h2,itT (by rw [xO (fun g=>g h2)];rfl)]
   ·rw [xd h2,itF (by rw [xN h2];rfl)]
def zjj (m:Mes) (met:List (Head×Role)):Prop:=∀h x,mget met h=some x->x=rol m h
theorem zjj.nil (m:Mes):zjj m []:=fun h x g=>by cases g
theorem zjj.put (g:zjj m met) (h:Head):zjj m (mput met h (rol m h)):=fun j x hx=>by
 rw [ziv] at hx;by_cases e:j=h
 ·rw [xe e] at hx;rw [e];exact (yi hx).symm
 ·rw [xd e] at hx;exact g j x hx
theorem zpm (hm:m.Fields.length<=1152921504606846976) (hb:b.length<=1048576) (p:Int) (g:zjj m met):
  ∃vm,zgN m b p met=some (prV (zaO m b p).1,(zaO m b p).2,vm)/\zjj m vm:=by
 unfold zgN zaO;rw [zvZ hb,sb];by_cases h:(zbL b p).2=0
 ·rw [itF (by simpa using h),xd (show ¬((zbL b p).2≠0) from fun q=>q h)]
  generalize (zbL b p).1=r
  have key:∃vm,(if (!(mget met (⟨r.Number,r.Wire⟩:Head)).isSome) then (zfa m (⟨r.Number,r.Wire⟩:Head)>>=fun vc=>some ((mput met (⟨r.Number,r.Wire⟩:Head) vc),vc.field,vc.run,vc.e))
    else some (met,((mget met (⟨r.Number,r.Wire⟩:Head)).getD (⟨0,false,0⟩:Role)).field,((mget met (⟨r.Number,r.Wire⟩:Head)).getD (⟨0,false,0⟩:Role)).run,((mget met (⟨r.Number,r.Wire⟩:Head)).getD (⟨0,false,0⟩:Role)).e))=some (vm,(rol m ⟨r.Number,r.Wire⟩).field,(rol m ⟨r.Number,r.Wire⟩).run,(rol m ⟨r.Number,r.Wire⟩).e)/\zjj m vm:=by
   cases hg:mget met (⟨r.Number,r.Wire⟩:Head) with
   | none=>
    rw [pv,zvn hm,sb];exact ⟨_,rfl,g.put _⟩
   | some x=>
    rw [pw];refine ⟨met,?_,g⟩;rw [<-g _ x hg];rfl
  obtain ⟨vm,hk,hM⟩:=key;refine ⟨vm,?_,hM⟩;rw [hk,sb];unfold rol;rcases zdv m r.Number r.Wire with hv| ⟨hv,_⟩| ⟨i,run,hv,_⟩
  ·simp only [hv];rfl
  ·simp only [hv];rfl
  ·simp only [hv];rfl
 ·rw [itT (by simpa using h),xe h];exact ⟨met,rfl,g⟩
theorem zyZ (hm:m.Fields.length<=1152921504606846976) (hb:b.length<=1048576) (p:Int):ziM m b p=some (prV (zaO m b p).1,(zaO m b p).2):=by
 obtain ⟨vm,h,_⟩:=zpm hm hb p (zjj.nil m);unfold ziM;rw [h,sb]
theorem zxj (hm:m.Fields.length<=1152921504606846976) (hb:b.length<=1048576) (base:Nat) (l:List UInt8):∀(out:List Vw) (met:List (Head×Role)),base<=b.length->l=b.drop base->out.length<=base->zjj m met->
  zeq b m (out.map prV) met base=some (match (vws m (spl base l).2 (spl base l).1).2 with| none=> .inl ((out++(vws m (spl base l).2 (spl base l).1).1).map prV)| some (p,c)=> .inr (p,c)):=by
 refine zfo (fun base l=>∀(out:List Vw) (met:List (Head×Role)),base<=b.length->l=b.drop base->out.length<=base->zjj m met->
  zeq b m (out.map prV) met base=some (match (vws m (spl base l).2 (spl base l).1).2 with| none=> .inl ((out++(vws m (spl base l).2 (spl base l).1).1).map prV)| some (p,c)=> .inr (p,c))) ?_ ?_ ?_ base l
 ·intro base out met hbase hl ho hM;have:b.length<=base:=by have:=congrArg List.length hl;simp at this;omega
  rw [zdj];simp only [vws,qz,yJ];refine zgv ?_;unfold zcu;rw [py]
 ·intro base l c hl h hc out met hbase hld ho hM;subst hld;have hlt:base<b.length:=by have:=yl.2 hl;simp at this;omega
  rw [zeJ hl h];simp only [vws,yw];refine zgv ?_;unfold zcu;have e:zbL b base=(zrec,c):=by unfold zbL;rw [xd (by omega),xt,h]
  have e2:zaO m b base=(zvw,c):=by unfold zaO;rw [e,xe (by simp only;omega)]
  obtain ⟨vm,hk,_⟩:=zpm hm hb base hM;rw [px,hk,sb,e2,px]
 ·intro base l n w a t hl h _ g1 g2 g3 ih out met hbase hld ho hM;subst hld;simp only [xD] at g3;have hlt:base<b.length:=by omega
  rw [zcp hl h];have e:zbL b base=(⟨n,w,base,(base+a:Nat),(base+t:Nat)⟩,0):=by
   unfold zbL;rw [xd (by omega),xt,h];push_cast;rfl
  rw [vws];obtain ⟨vm,hk,hM'⟩:=zpm hm hb base hM;rcases zdv m n w with hv| ⟨hv,_⟩| ⟨i,run,hv,_,hi⟩
  ·have e2:zaO m b base=(zvw,6):=by unfold zaO;rw [e];simp only [ya,yk,xU,hv]
   simp only [hv];refine zgv ?_;unfold zcu;rw [px,hk,sb,e2,pv]
  ·have e2:zaO m b base=(⟨⟨n,w,base,(base+a:Nat),(base+t:Nat)⟩, -1,false⟩,0):=by unfold zaO;rw [e];simp only [ya,yk,xU,hv]
   simp only [hv];refine (zjr (l':=(out++([⟨⟨n,w,base,(base+a:Nat),(base+t:Nat)⟩, -1,false⟩]:List Vw)).map prV) (vm:=vm) (fromv':=((base+t:Nat):Int)) ?_).trans ?_
   ·unfold zcu;rw [px,hk,sb,e2,pw,ziQ (by simp;omega),sb,yS];rfl
   ·rw [ih _ vm (by omega) (by rw [xK]) (by simp;omega) hM'];simp only [yx,yX]
  ·have e2:zaO m b base=(⟨⟨n,w,base,(base+a:Nat),(base+t:Nat)⟩,i,run⟩,0):=by unfold zaO;rw [e];simp only [ya,yk,xU,hv]
   simp only [hv];refine (zjr (l':=(out++([⟨⟨n,w,base,(base+a:Nat),(base+t:Nat)⟩,i,run⟩]:List Vw)).map prV) (vm:=vm) (fromv':=((base+t:Nat):Int)) ?_).trans ?_
   ·unfold zcu;rw [px,hk,sb,e2,pw,ziQ (by simp;omega),sb,yS];rfl
   ·rw [ih _ vm (by omega) (by rw [xK]) (by simp;omega) hM'];simp only [yx,yX]
theorem zow (hm:m.Fields.length<=1152921504606846976) (hb:b.length<=1048576):ziL m b=some ((zaC m b).1.map prV,(zaC m b).2.1,(zaC m b).2.2):=by
 unfold ziL;have h:=zxj hm hb 0 b [] [] (xm _) rfl (xi _) (zjj.nil m);have h':zeq b m [] [] 0=_:=h;rw [h',sb];unfold zaC vwR;cases (vws m (spl 0 b).2 (spl 0 b).1).2 with
 | none=>rfl
 | some p=>rfl
theorem zAK {α:Type} {xs vl post:List α} {v:α} (e:xs=vl++v::post):idx xs (vl.length:Nat)=some v:=by
 subst e;rw [zX rfl (by simp)];simp
theorem zwo (m:Mes) (b:List UInt8):(zaC m b).1.length<=b.length:=by
 rcases zjN m b with ⟨_,hn,e,_⟩| ⟨_,e⟩
 ·have h:=congrArg List.length (zmP hn).2;rw [List.length_map] at h;rw [e,h];exact zAf 0 b
 ·rw [e];simp
def zjo (m:Mes) (g:Int->List UInt8->Nat) (b:List UInt8) (r:Rec):Nat:=match vw m r.Number r.Wire with
 | .inl _=>0
 | .inr (i,run)=>if i<0\/run=true then 0 else if (zT m i).Kind=17 then g (zT m i).Of (valB b r)+1 else 0
def zhz (m:Mes) (g:Int->List UInt8->Nat) (b:List UInt8):List Rec->Nat
 | []=>0
 | r::l=>max (zjo m g b r) (zhz m g b l)
def zfC (s:List Mes):Nat->Int->List UInt8->Nat
 | 0,k,b=>zhz (zx s k) (fun _ _=>0) b (spl 0 b).1
 | d+1,k,b=>zhz (zx s k) (zfC s d) b (spl 0 b).1
theorem zmb :∀{l:List Rec},zhz m g b l<=e↔∀r∈l,zjo m g b r<=e
 | []=>by simp [zhz]
 | r::l=>by
  have ih:=zmb (m:=m) (g:=g) (b:=b) (e:=e) (l:=l);unfold zhz;rw [List.forall_mem_cons,<-ih];omega
theorem zkR (h:zba m a b r=none) (hc0:c=none↔e=0)
  (hc:∀q,a=some q->∀q',c=some q'->∀k v,q k v=none->(q' k v=none↔g k v+1<=e)):zba m c b r=none↔zjo m g b r<=e:=by
 unfold zba at h|-;unfold zjo;cases hv:vw m r.Number r.Wire with
 | inl x=>rw [hv] at h;cases h
 | inr p=>
  obtain ⟨i,run⟩:=p;rw [hv] at h;simp only at h|-;by_cases hi:i<0
  ·grind
  ·rw [xd hi] at h|-;unfold ziV at h|-;by_cases hr:run=true
   ·grind
   ·rw [xd hr] at h|-;rw [xd (show ¬(i<0\/run=true) from fun q=>q.elim hi hr)];by_cases h15:(zT m i).Kind=15/\zfN (valB b r)=false
    ·grind
    ·rw [xd h15] at h|-;by_cases h17:(zT m i).Kind=17
     ·rw [xe h17] at h|-;rw [xe h17];cases a with
      | none=>cases h
      | some q=>
       simp only at h;cases hq:q (zT m i).Of (valB b r) with
       | some z=>rw [hq] at h;cases h
       | none=>
        cases c with
        | none=>
         grind
        | some q'=>
         grind
     grind
theorem ztb (s:List Mes):∀(d e:Nat) (k:Int) (b:List UInt8),e<=d->zJ s d k b=none->(zJ s e k b=none↔zfC s d k b<=e)
 | 0,e,k,b,he,h=>by
  have:e=0:=by omega
  subst this;refine ⟨fun _=>zmb.2 (fun r hr=>?_),fun _=>h⟩;have h':=(zbU.1 h).1 r hr;exact (zkR (a:=none) (c:=none) h' (by simp) (fun q hq q' hq'=>nomatch hq')).1 h'
 | d+1,0,k,b,he,h=>by
  have h':zaN (zx s k) (some (zJ s d)) b (spl 0 b)=none:=h;rw [zbU] at h';show zaN (zx s k) none b (spl 0 b)=none↔zhz _ _ _ _<=0;rw [zbU,zmb];constructor
  ·intro hh r hr;exact (zkR (a:=some (zJ s d)) (c:=none) (h'.1 r hr) (by simp) (fun q hq q' hq'=>nomatch hq')).1 (hh.1 r hr)
  ·intro hh;exact ⟨fun r hr=>(zkR (a:=some (zJ s d)) (c:=none) (h'.1 r hr) (by simp) (fun q hq q' hq'=>nomatch hq')).2 (hh r hr),h'.2⟩
 | d+1,e+1,k,b,he,h=>by
  have h':zaN (zx s k) (some (zJ s d)) b (spl 0 b)=none:=h;rw [zbU] at h';show zaN (zx s k) (some (zJ s e)) b (spl 0 b)=none↔zhz _ _ _ _<=e+1;rw [zbU,zmb];have key:∀r∈(spl 0 b).1,zba (zx s k) (some (zJ s e)) b r=none↔zjo (zx s k) (zfC s d) b r<=e+1:=fun r hr=>
   zkR (a:=some (zJ s d)) (h'.1 r hr) (by simp) (fun q hq q' hq' k v hk=>by
    cases hq;cases hq';have:=ztb s d e k v (by omega) hk;rw [this];omega)
  exact ⟨fun hh r hr=>(key r hr).1 (hh.1 r hr),fun hh=>⟨fun r hr=>(key r hr).2 (hh r hr),h'.2⟩⟩
abbrev zfx:=zh
def zec (s:List Mes) (met:List (zfx×PVw)):Prop:=∀h x,mget met h=some x->vw (zx s h.message) h.number h.wire= .inr (x.Field,x.Run)
theorem zec.nil (s:List Mes):zec s []:=fun h x g=>by cases g
theorem zec.put (g:zec s met) (hv:vw (zx s h.message) h.number h.wire= .inr (v.Field,v.Run)):zec s (mput met h v):=fun j x hx=>by
 rw [ziv] at hx;by_cases e:j=h
 ·grind
 ·rw [xd e] at hx;exact g j x hx
theorem zuo {s:List Mes} {k:Nat} (hk:k<s.length) (hm:(zx s k).Fields.length<=1152921504606846976) {b:List UInt8} (hb:b.length<=1048576) (p:Int) {t:Nat} (ht:t<=b.length) {met:List (zfx×PVw)} (g:zec s met):
  ∃vm,zdR ⟨s,b,met⟩ k p t=some (prV (zaO (zx s k) (b.take t) p).1,(zaO (zx s k) (b.take t) p).2,vm)/\zec s vm:=by
 have hbt:(b.take t).length<=1048576:=by rw [xS];omega
 have hcut:cut b 0 (t:Int)=some (b.take t):=by
  rw [zgr (i:=0) (j:=t) rfl rfl (xm _) ht];simp
 have hidx:idx s (k:Int)=some (zx s k):=by rw [zX rfl hk,zdL hk]
 have hvl:=zyZ hm hbt p;unfold zdR;simp only;rw [hcut,sb,zvZ hbt,sb];unfold zaO at hvl|-;by_cases h:(zbL (b.take t) p).2=0
 ·rw [itF (by simpa using h),xd (show ¬((zbL (b.take t) p).2≠0) from fun q=>q h)];rw [xd (show ¬((zbL (b.take t) p).2≠0) from fun q=>q h)] at hvl
  generalize (zbL (b.take t) p).1=r at hvl|-
  cases hg:mget met (⟨(k:Int),r.Number,r.Wire⟩:zfx) with
  | none=>
   rw [pv,hidx,sb,hvl,sb];cases hv:vw (zx s k) r.Number r.Wire with
   | inl c=>
    have hc:c=6:=by
     grind [zdv]
    subst hc;exact ⟨met,by rw [pv];rfl,g⟩
   | inr q=>
    obtain ⟨i,run⟩:=q;refine ⟨_,?_,g.put (h:=⟨(k:Int),r.Number,r.Wire⟩) (v:=prV ⟨r,i,run⟩) hv⟩;rfl
  | some x=>
   have hv:=g _ _ hg;simp only at hv;rw [pw,hv];exact ⟨met,rfl,g⟩
 ·rw [itT (by simpa using h),xe h];exact ⟨met,rfl,g⟩
def zjX (f:Fld) (run:Bool) (v:List UInt8):Int:=if run=true then (zjk f.Kind v).2 else if f.Kind=15/\zfN v=false then 7 else if f.Kind=17 then 8 else 0
theorem zxk (f:Fld) (run:Bool) (hv:v.length<=1048576):zgo f run v=some (zjX f run v):=by
 unfold zgo zjX
 grind [zeA,zjk,zxi,sb,zwV]
abbrev Find:=zo
def okR (o:Option (Int×Int)) (a dp:Nat) (r:Find):Prop:=match o with
 | none=>r=⟨(dp:Int),0,0⟩
 | some (p,c)=>r.place=(a:Int)+p/\r.e=c
def zpZ (s:List Mes):Nat->zhx
 | 0=>none
 | d+1=>some (zJ s d)
def zmU (s:List Mes):Nat->Int->List UInt8->Nat
 | 0=>fun _ _=>0
 | d+1=>zfC s d
theorem zww (s:List Mes) (d:Nat) (k:Int) (b:List UInt8):zJ s d k b=zaN (zx s k) (zpZ s d) b (spl 0 b):=by cases d<;>rfl
theorem zzs (s:List Mes) (d:Nat) (k:Int) (b:List UInt8):zfC s d k b=zhz (zx s k) (zmU s d) b (spl 0 b).1:=by cases d<;>rfl
theorem zyR (s:List Mes) (d:Nat):∀g,zpZ s d=some g->zmT g:=fun g h=>by
 cases d with
 | zero=>cases h
 | succ d=>cases h;exact zei s d
theorem zzW (b:List UInt8) (t a x y:Nat) (h:a+y<=t):(((b.take t).drop a).drop x).take (y - x)=(b.take (a+y)).drop (a+x):=by
 rw [xK,pp,pp,pk];congr 1;omega
theorem zxp {s:List Mes} {k:Nat} (hk:k<s.length) (hm:(zx s k).Fields.length<=1152921504606846976) {b:List UInt8} (hb:b.length<=1048576) {d:Int} {a t:Nat} (hat:a<=t) (ht:t<=b.length) {sub:zhx} {gd:Int->List UInt8->Nat}
  (hg:∀g,sub=some g->zmT g) {recv:zM->Int->zb->Int->Option (zo×(List (zh×zb)))} {met0:List (zfx×PVw)}
  (hval:∀met,zec s met->∀(n w i:Int) (run:Bool) (base x y:Nat),vw (zx s k) n w= .inr (i,run)->1<=x->x<=y->a+base+y<=t->
   ∃R vm,recv ⟨s,b,met⟩ k ⟨⟨n,w,((a+base:Nat):Int),((a+(base+x):Nat):Int),((a+(base+y):Nat):Int)⟩,i,run⟩ d=some (R,vm)/\zec s vm/\
    okR (zba (zx s k) sub ((b.take t).drop a) ⟨n,w,base,(base+x:Nat),(base+y:Nat)⟩) a (zjo (zx s k) gd ((b.take t).drop a) ⟨n,w,base,(base+x:Nat),(base+y:Nat)⟩) R)
  (base:Nat) (l:List UInt8):∀(met:List (zfx×PVw)) (dp:Nat),zec s met->l=((b.take t).drop a).drop base->base<=t - a->
  ∃vm D,zec s vm/\zaP d k recv t ⟨s,b,met0⟩ met ((a+base:Nat):Int) dp=some (match zaN (zx s k) sub ((b.take t).drop a) (spl base l) with
   | none=> .inl (vm,((max dp (zhz (zx s k) gd ((b.take t).drop a) (spl base l).1):Nat):Int))
   | some (p,c)=> .inr (vm,D,(a:Int)+p,c)):=by
 have hvl:((b.take t).drop a).length=t - a:=by simp;omega
 generalize hvv:(b.take t).drop a=v at hval hvl|-
 refine zfo (fun base l=>∀(met:List (zfx×PVw)) (dp:Nat),zec s met->l=v.drop base->base<=t - a->
  ∃vm D,zec s vm/\zaP d k recv t ⟨s,b,met0⟩ met ((a+base:Nat):Int) dp=some (match zaN (zx s k) sub v (spl base l) with
   | none=> .inl (vm,((max dp (zhz (zx s k) gd v (spl base l).1):Nat):Int))
   | some (p,c)=> .inr (vm,D,(a:Int)+p,c))) ?_ ?_ ?_ base l
 ·intro base met dp g hl hbase;have:v.length<=base:=by have:=congrArg List.length hl;simp at this;omega
  refine ⟨met,0,g,?_⟩;rw [zdj];refine zbO ?_;unfold zae;rw [py];simp [zaN,zhz]
 ·intro base l c hl h hc met dp g hld hbase;have hlt:a+base<t:=by have:=yl.2 hl;rw [hld] at this;simp at this;omega
  have hdr:(b.take t).drop (a+base)=l:=by rw [hld,<-hvv,xK]
  have e:zbL (b.take t) ((a+base:Nat):Int)=(zrec,c):=by unfold zbL;rw [xd (by simp;omega),xt,hdr,h]
  have e2:zaO (zx s k) (b.take t) ((a+base:Nat):Int)=(zvw,c):=by unfold zaO;rw [e,xe (by simp only;omega)]
  obtain ⟨vm,hlk,g'⟩:=zuo hk hm hb ((a+base:Nat):Int) ht g;refine ⟨vm,0,g',?_⟩;rw [zeJ hl h];refine zbO ?_;unfold zae;simp only;rw [px,hlk,sb,e2,px];simp [zaN]
 ·intro base l n w x y hl h _ g1 g2 g3 ih met dp g hld hbase;have hly:base+y<=t - a:=by rw [hld] at g3;simp at g3;omega
  have hdr:(b.take t).drop (a+base)=l:=by rw [hld,<-hvv,xK]
  have e:zbL (b.take t) ((a+base:Nat):Int)=(⟨n,w,((a+base:Nat):Int),((a+(base+x):Nat):Int),((a+(base+y):Nat):Int)⟩,0):=by
   unfold zbL;rw [xd (by simp;omega),xt,hdr,h]
   grind
  obtain ⟨vm,hlk,g'⟩:=zuo hk hm hb ((a+base:Nat):Int) ht g
  have hfr:zaN (zx s k) sub v (spl base l)=match zba (zx s k) sub v ⟨n,w,base,(base+x:Nat),(base+y:Nat)⟩ with
    | some p=>some p
    | none=>zaN (zx s k) sub v (spl (base+y) (l.drop y)):=by
   unfold zaN;rw [zcp hl h];simp only [pl];cases zba (zx s k) sub v ⟨n,w,base,(base+x:Nat),(base+y:Nat)⟩<;>rfl
  have hfd:zhz (zx s k) gd v (spl base l).1=max (zjo (zx s k) gd v ⟨n,w,base,(base+x:Nat),(base+y:Nat)⟩) (zhz (zx s k) gd v (spl (base+y) (l.drop y)).1):=by
   rw [zcp hl h];rfl
  cases hv:vw (zx s k) n w with
  | inl c=>
   have hc:c=6:=by
    grind [zdv]
   subst hc;have e2:zaO (zx s k) (b.take t) ((a+base:Nat):Int)=(zvw,6):=by unfold zaO;rw [e];simp only [ya,yk,xU,hv]
   have hst:zba (zx s k) sub v ⟨n,w,base,(base+x:Nat),(base+y:Nat)⟩=some ((base:Int),6):=by unfold zba;simp only [hv]
   refine ⟨vm,0,g',?_⟩;rw [hfr,hst];refine zbO ?_;unfold zae
   grind
  | inr q=>
   obtain ⟨i,run⟩:=q;have e2:zaO (zx s k) (b.take t) ((a+base:Nat):Int)=(⟨⟨n,w,((a+base:Nat):Int),((a+(base+x):Nat):Int),((a+(base+y):Nat):Int)⟩,i,run⟩,0):=by unfold zaO;rw [e];simp only [ya,yk,xU,hv]
   obtain ⟨R,met2,hrv,g2',hok⟩:=hval vm g' n w i run base x y hv g1 g2 (by omega);have hpr:prV (⟨⟨n,w,((a+base:Nat):Int),((a+(base+x):Nat):Int),((a+(base+y):Nat):Int)⟩,i,run⟩:Vw)=⟨⟨n,w,((a+base:Nat):Int),((a+(base+x):Nat):Int),((a+(base+y):Nat):Int)⟩,i,run⟩:=rfl;cases hst:zba (zx s k) sub v ⟨n,w,base,(base+x:Nat),(base+y:Nat)⟩ with
   | some pc=>
    obtain ⟨p,c⟩:=pc;have hgd:=zrA hg g1 g2 (b:=v) (base:=base) (by omega) hst;rw [hst] at hok;obtain ⟨o1,o2⟩:=hok;refine ⟨met2,R.depth,g2',?_⟩;rw [hfr,hst];refine zbO ?_;unfold zae
    grind
   | none=>
    rw [hst] at hok;have hok':R=⟨((zjo (zx s k) gd v ⟨n,w,base,(base+x:Nat),(base+y:Nat)⟩:Nat):Int),0,0⟩:=hok;obtain ⟨met3,D,g3',h3⟩:=ih met2 (max dp (zjo (zx s k) gd v ⟨n,w,base,(base+x:Nat),(base+y:Nat)⟩)) g2' (by rw [hld,xK]) hly;refine ⟨met3,D,g3',?_⟩;rw [hfr,hst,hfd,<-Nat.max_assoc,<-h3];refine zhu ?_;unfold zae
    grind
theorem zAr {s:List Mes} (hr:zoA s) {k:Nat} (hk:k<s.length) {b:List UInt8} (hb:b.length<=1048576) {d ve:Nat} (hd:d<=64) {a t:Nat} (ht:t<=b.length)
  (ih:∀e,d=e+1->∀(q A T:Nat) (met:List (zfx×PVw)),q<s.length->A<=T->T<=b.length->zec s met->
   ∃R vm,zai ve ⟨s,b,met⟩ q A T e=some (R,vm)/\zec s vm/\okR (zJ s e q ((b.take T).drop A)) A (zfC s e q ((b.take T).drop A)) R)
  (met:List (zfx×PVw)) (g:zec s met) (n w i:Int) (run:Bool) (base x y:Nat) (hv:vw (zx s k) n w= .inr (i,run)) (h1:1<=x) (h2:x<=y) (hy:a+base+y<=t):
  ∃R vm,zbY (ve+1) ⟨s,b,met⟩ k ⟨⟨n,w,((a+base:Nat):Int),((a+(base+x):Nat):Int),((a+(base+y):Nat):Int)⟩,i,run⟩ d=some (R,vm)/\zec s vm/\
    okR (zba (zx s k) (zpZ s d) ((b.take t).drop a) ⟨n,w,base,(base+x:Nat),(base+y:Nat)⟩) a (zjo (zx s k) (zmU s d) ((b.take t).drop a) ⟨n,w,base,(base+x:Nat),(base+y:Nat)⟩) R:=by
 have hidx:idx s (k:Int)=some (zx s k):=by rw [zX rfl hk,zdL hk]
 have hun:∀w' v',zbY (ve+1) w' k v' d=zcL (zai ve) (zbY ve) w' k v' d:=fun _ _=>rfl
 have hvb:valB ((b.take t).drop a) ⟨n,w,base,(base+x:Nat),(base+y:Nat)⟩=(b.take (a+(base+y))).drop (a+(base+x)):=by
  unfold valB
  grind [zzW]
 rcases zdv (zx s k) n w with h'| ⟨h',_⟩| ⟨j,run',h',_,hi⟩
 ·grind
 ·rw [hv] at h';obtain ⟨rfl,rfl⟩:i= -1/\run=false:=by simpa using h'
  refine ⟨⟨0,0,0⟩,met,?_,g,?_⟩
  ·rfl
  ·unfold zba zjo;simp only [hv];rfl
 ·rw [hv] at h';obtain ⟨rfl,rfl⟩:i=j/\run=run':=by simpa using h'
  have hfm:zT (zx s k) (j:Int)∈(zx s k).Fields:=by rw [zge hi];exact xF hi
  have hmem:zx s k∈s:=by rw [zdL hk];exact xF hk
  have hrun:run=true->(zT (zx s k) (j:Int)).Kind≠17:=fun hh h17=>by
   subst hh;have:=(zza hv).1;rw [h17] at this;cases this
  have hcut:cut b ((a+(base+x):Nat):Int) ((a+(base+y):Nat):Int)=some ((b.take (a+(base+y))).drop (a+(base+x))):=by
   rw [zgr rfl rfl (by omega) (by omega),pp]
  have vk:((b.take (a+(base+y))).drop (a+(base+x))).length<=1048576:=by simp;omega
  unfold zba zjo;simp only [hv];rw [xd (show ¬((j:Int)<0) by omega),hvb];have hif:(if ((j:Int)<0\/run=true) then 0 else if (zT (zx s k) (j:Int)).Kind=17 then zmU s d (zT (zx s k) (j:Int)).Of ((b.take (a+(base+y))).drop (a+(base+x)))+1 else 0)=(if (zT (zx s k) (j:Int)).Kind=17 then zmU s d (zT (zx s k) (j:Int)).Of ((b.take (a+(base+y))).drop (a+(base+x)))+1 else 0):=by
   cases run with
   | false=>rw [xd (by simp)]
   | true=>rw [xe (.inr rfl),xd (hrun rfl)]
  rw [hif];simp only [hun];unfold zcL;simp only;rw [itF (show ((j:Int)== -1)=false by simp),hidx,sb,zX (i:=j) rfl hi,sb,<-zge hi]
  generalize hvv:(b.take (a+(base+y))).drop (a+(base+x))=v at vk hcut|-
  have hof:=(hr.fld _ hmem _ hfm).sub
  generalize zT (zx s k) (j:Int)=f at hfm hrun hof|-
  by_cases hs:f.Kind=17/\0<d
  ·obtain ⟨e,rfl⟩:∃e,d=e+1:=⟨d - 1,by omega⟩;have hrf:run=false:=by
    cases run with
    | false=>rfl
    | true=>exact absurd hs.1 (hrun rfl)
   subst hrf;have hof':=hof hs.1;obtain ⟨q,hq⟩:∃q:Nat,f.Of=q:=⟨f.Of.toNat,by omega⟩;obtain ⟨R,vm,hR,g',hok⟩:=ih e rfl q (a+(base+x)) (a+(base+y)) met (by omega) (by omega) (by omega) g;rw [hvv] at hok;have hw1:IntKind.i64.wrap (((e+1:Nat):Int) - 1)=(e:Int):=by rw [pz];omega
   refine ⟨⟨IntKind.i64.wrap (R.depth+1),R.place,R.e⟩,vm,?_,g',?_⟩
   ·grind
   ·rw [xe hs.1];unfold ziV;rw [xd (by simp),xd (by rw [hs.1];simp),xe hs.1];simp only [zpZ,zmU,hq];cases hf:zJ s e q v with
    | none=>
     rw [hf] at hok;have hok':R=⟨((zfC s e q v:Nat):Int),0,0⟩:=hok;have hdl:=(ztb s e e q v (xi _) hf).1 hf;subst hok';show (⟨IntKind.i64.wrap (((zfC s e q v:Nat):Int)+1),0,0⟩:Find)=_;rw [pz];rfl
    | some pc=>
     obtain ⟨p,c⟩:=pc;rw [hf] at hok;obtain ⟨o1,o2⟩:=hok;refine ⟨?_,o2⟩
     grind
  ·have hno:((f.Kind==17)&&decide (((d:Nat):Int)>0))=false:=by
    grind
   have hlf:ziV f run (zpZ s d) ⟨n,w,base,(base+x:Nat),(base+y:Nat)⟩ v=if zjX f run v≠0 then some ((base:Int),zjX f run v) else none:=by
    unfold ziV zjX;by_cases hrt:run=true
    ·grind
    ·rw [xd hrt,xd hrt];by_cases h15:f.Kind=15/\zfN v=false
     ·grind
     ·rw [xd h15,xd h15];by_cases h17:f.Kind=17
      ·have:d=0:=by have:=fun h=>hs ⟨h17,h⟩;omega
       subst this;rw [xe h17,xe h17,xe (by omega)];rfl
      grind
   rw [itF hno,hcut,sb,zxk f run vk,sb,hlf];by_cases h0:zjX f run v=0
   ·refine ⟨⟨0,0,0⟩,met,by rw [itF (by simpa using h0)],g,?_⟩;rw [xd (by simpa using h0)];have:f.Kind≠17:=fun h17=>by
     grind [zjX]
    rw [xd this];rfl
   ·refine ⟨⟨0,((a+base:Nat):Int),zjX f run v⟩,met,by rw [itT (by simpa using h0)],g,?_⟩;rw [xe h0];exact ⟨by simp,rfl⟩
theorem zAn (hr:zoA s) (hb:b.length<=1048576):∀(d ve:Nat),d<=64->2*d+2<=ve->∀(q A T:Nat) (met:List (zfx×PVw)),q<s.length->A<=T->T<=b.length->zec s met->
   ∃R vm,zai ve ⟨s,b,met⟩ q A T d=some (R,vm)/\zec s vm/\okR (zJ s d q ((b.take T).drop A)) A (zfC s d q ((b.take T).drop A)) R:=by
 have step:∀(d ve:Nat),d<=64->(∀e,d=e+1->∀(q A T:Nat) (met:List (zfx×PVw)),q<s.length->A<=T->T<=b.length->zec s met->
   ∃R vm,zai ve ⟨s,b,met⟩ q A T e=some (R,vm)/\zec s vm/\okR (zJ s e q ((b.take T).drop A)) A (zfC s e q ((b.take T).drop A)) R)->
   ∀(q A T:Nat) (met:List (zfx×PVw)),q<s.length->A<=T->T<=b.length->zec s met->
   ∃R vm,zai (ve+2) ⟨s,b,met⟩ q A T d=some (R,vm)/\zec s vm/\okR (zJ s d q ((b.take T).drop A)) A (zfC s d q ((b.take T).drop A)) R:=by
  intro d ve hd ih q A T met hq hAT hT g;have hun:∀w' k' p' t' d',zai (ve+2) w' k' p' t' d'=zcf (zai (ve+1)) (zbY (ve+1)) w' k' p' t' d':=fun _ _ _ _ _=>rfl
  have hm:(zx s q).Fields.length<=1152921504606846976:=by
   rw [zdL hq];have:=hr.few _ (xF hq);omega
  obtain ⟨vm,D,g',hl⟩:=zxp (s:=s) hq hm hb (d:=(d:Int)) hAT hT (sub:=zpZ s d) (gd:=zmU s d) (zyR s d) (recv:=zbY (ve+1)) (met0:=met)
   (fun met1 g1 n w i run base x y hv h1 h2 hy=>zAr hr hq hb hd hT ih met1 g1 n w i run base x y hv h1 h2 hy) 0 _ met 0 g rfl (xm _)
  have hl':zaP d q (zbY (ve+1)) T ⟨s,b,met⟩ met (A:Int) 0=_:=hl;rw [hun,zww,zzs];unfold zcf;simp only;rw [yp,Nat.zero_max] at hl';rw [hl',sb];cases hf:zaN (zx s q) (zpZ s d) ((b.take T).drop A) (spl 0 ((b.take T).drop A)) with
  | none=>exact ⟨_,_,rfl,g',rfl⟩
  | some pc=>exact ⟨_,_,rfl,g',rfl,rfl⟩
 intro d
 induction d with
 | zero=>
  intro ve hd hf;obtain ⟨ve,rfl⟩:∃z,ve=z+2:=⟨ve - 2,by omega⟩;exact step 0 ve hd (fun e he=>by omega)
 | succ d ih=>
  intro ve hd hf;obtain ⟨ve,rfl⟩:∃z,ve=z+2:=⟨ve - 2,by omega⟩;refine step (d+1) ve hd (fun e he=>?_)
  grind
theorem zui (hw:WS s) (root d:Int):zfP s root d=some (argS s root d):=by
 unfold zfP argS
 grind [zyC,sb]
theorem zzu (hw:WS s) (root:Int) (hb:b.length<=1048576) (d:Int) (hf:130<=ve):
  ∃R,zhg ve s root b d=some R/\R.place=(zaw s root b d).1/\R.e=(zaw s root b d).2/\((zaw s root b d).2=0->R.depth=((zfC s d.toNat root b:Nat):Int)):=by
 unfold zhg zaw;rw [zui hw,sb];by_cases h:argS s root d=0
 ·obtain ⟨hr,h1,h2,h3,h4⟩:=zii h;obtain ⟨k,rfl⟩:∃k:Nat,root=k:=⟨root.toNat,by omega⟩;obtain ⟨e,rfl⟩:∃k:Nat,d=k:=⟨d.toNat,by omega⟩;obtain ⟨R,vm,hR,_,hok⟩:=zAn hr hb e ve (by omega) (by omega) k 0 b.length [] (by omega) (xm _) (xi _) (zec.nil s);have hR':zai ve ⟨s,b,[]⟩ k 0 (b.length:Int) e=some (R,vm):=hR;rw [List.take_length,yp] at hok;rw [itF (by simpa using h),xd (by simpa using h),hR',sb,xt];refine ⟨R,rfl,?_⟩;cases hfi:zJ s e k b with
  | none=>
   rw [hfi] at hok;have hok':R=⟨((zfC s e k b:Nat):Int),0,0⟩:=hok
   grind
  | some pc=>
   obtain ⟨p,c⟩:=pc;rw [hfi] at hok;obtain ⟨o1,o2⟩:=hok;have:=zei s e k b p c hfi
   grind
 ·simp_all
theorem zkS (hw:WS s) (root:Int) (hb:b.length<=1048576) (d:Int) (hf:130<=ve):zdz ve s root b d=some (zaw s root b d):=by
 obtain ⟨R,hR,h1,h2,_⟩:=zzu hw root hb d hf;unfold zdz
 grind
theorem zpW {s:List Mes} {m:Mes} {d:Nat} {b:List UInt8} {r:Rec} (h1:r.From<r.At) (h2:r.At<=r.To) (h0:0<=r.From) {p c:Int} (h:zba m (zrB s d) b r=some (p,c)):r.From<=p/\p<r.To:=by
 unfold zba at h;cases hv:vw m r.Number r.Wire with
 | inl e=>rw [hv] at h;cases h;omega
 | inr q=>
  simp only [hv] at h;split at h
  ·cases h
  ·unfold ziV at h;split at h
   ·split at h<;>cases h;omega
   ·split at h
    ·cases h;omega
    ·split at h
     ·cases d with
      | zero=>cases h;omega
      | succ d=>
       simp only [zrB] at h;cases hg:zJ s d (zT m q.1).Of (valB b r) with
       | none=>rw [hg] at h;cases h
       | some w=>
        obtain ⟨x,y⟩:=w;rw [hg] at h;have:=zei s d _ _ _ _ hg;have hl:(valB b r).length<=r.To.toNat - r.At.toNat:=by unfold valB;simp;omega
        cases h;omega
     ·cases h
theorem zrY {s:List Mes} {d:Nat} {k:Int} {a:List UInt8} (z:List UInt8) (h:zJ s d k a=none) {p c:Int} (hz:zJ s d k (a++z)=some (p,c)):(a.length:Int)<=p:=by
 rw [zfD] at h hz;have hn:=zbU.1 h;have hap:=zhf z 0 a hn.2;rw [xy] at hap;rw [hap] at hz;unfold zaN at hz;have hf:(spl 0 a).1.findSome? (zba (zx s k) (zrB s d) (a++z))=none:=pm.2 fun r hr=>by
  have hb:=zjg 0 a r hr;exact (zkt (r:=r) (r':=r) rfl rfl (zhJ z (by omega) (by omega))).2 (hn.1 r hr)
 simp only [List.findSome?_append,hf,Option.none_or] at hz;have hat:=zjg a.length z;cases hs:(spl a.length z).1.findSome? (zba (zx s k) (zrB s d) (a++z)) with
 | some q=>
  rw [hs] at hz;cases hz;obtain ⟨r,hr,hq⟩:=pu hs;have:=hat r hr;have:=zpW (by omega) (by omega) (by omega) hq;omega
 | none=>
  rw [hs] at hz;have hsh:=zkQ a.length 0 z;rw [xy] at hsh;rw [hsh] at hz;cases hz2:(spl 0 z).2 with
  | none=>rw [hz2] at hz;cases hz
  | some q=>
   rw [hz2] at hz;simp only [yw] at hz;cases hz;omega
theorem zrZ {s:List Mes} {d:Nat} {k:Int} {a:List UInt8} (z:List UInt8) (hs:(spl 0 a).2=none) (h:zJ s d k a≠none):∃p c,zJ s d k (a++z)=some (p,c)/\p<(a.length:Int):=by
 rw [zfD] at h|-;have hap:=zhf z 0 a hs;rw [hap];unfold zaN;cases hf:(spl 0 a).1.findSome? (zba (zx s k) (zrB s d) (a++z)) with
 | none=>
  refine absurd (zbU.2 ⟨fun r hr=>?_,hs⟩) h;have hb:=zjg 0 a r hr;exact (zkt (r:=r) (r':=r) rfl rfl (zhJ z (by omega) (by omega))).1 (pm.1 hf r hr)
 | some q=>
  obtain ⟨p,c⟩:=q;simp only [List.findSome?_append,hf,Option.some_or];obtain ⟨r,hr,hq⟩:=pu hf;have hb:=zjg 0 a r hr;have:=zpW (by omega) (by omega) (by omega) hq;exact ⟨p,c,rfl,by omega⟩
theorem zrh {ve:Nat} {s:List Mes} (root:Int) {a b:List UInt8} (d:Int) (hf:130<=ve) (hw:WS s) (ha:a.length<=1048576) (hb:b.length<=1048576):zeU ve s root a b d=some (zed s root [a,b] d).2.2:=by
 unfold zeU;rw [zkS hw root ha d hf,sb,zkS hw root hb d hf,zyV]
 grind [sb]
theorem zzT {ve:Nat} {s:List Mes} (root:Int) {a b:List UInt8} (d:Int) (hf:130<=ve) (hw:WS s) (ha:a.length<=1048576) (hb:b.length<=1048576):ziu ve s root a b d=some ((zed s root [a,b] d).1,(zed s root [a,b] d).2.2):=by
 unfold ziu;rw [zrh root d hf hw ha hb,sb,zqN (by simp) (by simp;omega),zyV]
 grind [sb]
def upTo (s:List Mes) (d:Nat) (k:Int) (b:List UInt8):Int:=match zJ s d k b with
 | none=>b.length
 | some p=>p.1
theorem zjY {s:List Mes} {root d:Int}:∀{l:List (List UInt8)} {i j:Nat} {c:Int},zbc s root d i l=some (j,c)->i<=j/\j<i+l.length
 | [],_,_,_,h=>by cases h
 | x::l,i,j,c,h=>by
  rw [zbc] at h;split at h
  ·cases h;simp
  ·have:=zjY h;simp;omega
theorem znA {s:List Mes} {root d:Int}:∀{l:List (List UInt8)} {i j:Nat} {c:Int},zbc s root d i l=some (j,c)->∃h:j - i<l.length,(zaw s root l[j - i] d).2=c
 | [],_,_,_,h=>by cases h
 | x::l,i,j,c,h=>by
  rw [zbc] at h;split at h
  ·cases h;exact ⟨by simp,by simp⟩
  ·obtain ⟨g,e⟩:=znA h;have:=zjY h;have ej:j - i=(j - (i+1))+1:=by omega
   exact ⟨by simp;omega,by simp only [ej,qJ];exact e⟩
theorem zzj {s:List Mes} {k:Nat} (hm:(zx s k).Fields.length<=1152921504606846976) {d:Nat} (ha:argS s k d=0) {l:List (List UInt8)} (hl:l.length<=1048576) (hb:l.flatten.length<=1048576):
  zgj (zx s k) l (upTo s d k l.flatten)=some (match zbc s k d 0 l with
   | some p=>((p.1:Nat):Int)
   | none=>(l.length:Int)):=by
 unfold zgj
 have key:∀(post vl:List (List UInt8)),l=vl++post->zJ s d k vl.flatten=none->zdp l (zx s k) (upTo s d k l.flatten) (vl.flatten.length:Nat) (vl.length:Nat)=some (match zbc s k d vl.length post with
   | some p=> .inr ((p.1:Nat):Int)
   | none=> .inl ()):=by
  intro post
  induction post with
  | nil=>
   intro vl he hp;refine zgZ ?_;unfold zca;rw [itF (by rw [he];simp)];rfl
  | cons x post ih=>
   intro vl he hp;have hil:vl.length<l.length:=by rw [he];simp
   have hx:idx l (vl.length:Nat)=some x:=by rw [zX rfl hil];simp [he]
   have hfl:l.flatten=vl.flatten++x++post.flatten:=by rw [he];simp
   have hxl:vl.flatten.length+x.length<=1048576:=by rw [hfl] at hb;simp only [xE] at hb;omega
   have hck:(zaw s k x d).2=0↔zJ s d k x=none:=⟨fun h=>by simpa using (zqr h).2,fun h=>zlp ha (by simpa using h)⟩;have hcut:(vl.flatten++x).length=vl.flatten.length+x.length:=by simp
   by_cases h:zJ s d k x=none
   ·have hv:=zsN h;have hpx:zJ s d k (vl.flatten++x)=none:=(zgC s d k x hp).2 h;have hup:((vl.flatten++x).length:Int)<=upTo s d k l.flatten:=by
     unfold upTo;rw [hfl];cases hz:zJ s d k (vl.flatten++x++post.flatten) with
     | none=>simp only [xE];omega
     | some q=>exact zrY post.flatten hpx (p:=q.1) (c:=q.2) hz
    refine (zlw (endv':=((vl.flatten.length+x.length:Nat):Int)) (v':=((vl.length+1:Nat):Int)) ?_).trans ?_
    ·unfold zca;rw [px,hx,sb,zow hm (by omega),sb,hv];rw [pz,itF (yy.2 ⟨by rfl,xO (by omega)⟩),pz];push_cast;rfl
    ·have e:=ih (vl++[x]) (by rw [he];simp) (by simpa using hpx);simp only [List.flatten_append,yG,List.flatten_nil,yJ,xE,xx,yL] at e;rw [zbc,xd (fun hc=>hc (hck.2 h))];exact e
   ·rw [zbc,xe (fun hc=>h (hck.1 hc))];refine zgZ ?_;unfold zca;rw [px,hx,sb,zow hm (by omega),sb,itT];rcases zjN (zx s k) x with ⟨h0,h1,_⟩| ⟨h0,_⟩
    ·have hsx:=(zmP h1).1;have hsp:(spl 0 (vl.flatten++x)).2=none:=by
      rw [zhf x 0 _ (zwv s d k hp),xy];have hsh:=zkQ vl.flatten.length 0 x;rw [xy] at hsh;rw [hsh,hsx];rfl
     obtain ⟨p,c,hz,hlt⟩:=zrZ post.flatten hsp (fun hc=>h ((zgC s d k x hp).1 hc));have hu:upTo s d k l.flatten=p:=by unfold upTo;rw [hfl,hz]
     rw [hu,pz];exact (qe _ _).mpr (.inr (xN (by omega)))
    ·have:((zaC (zx s k) x).2.2 !=0)=true:=by simp;omega
     simp [this]
 have h:=key l [] rfl (znz s d k);have h':zdp l (zx s k) (upTo s d k l.flatten) 0 0=_:=h;rw [h',sb];simp only [yL];cases zbc s k d 0 l<;>rfl
theorem zzR {ve:Nat} {s:List Mes} (root:Int) {l:List (List UInt8)} (d:Int) (hf:130<=ve) (hw:WS s) (hl:l.length<=1048576) (hb:l.flatten.length<=1048576):zit ve s root l d=some (zed s root l d):=by
 unfold zit zed;rw [zqN (by omega) (by omega),sb,zkS hw root hb d hf,sb,zui hw,sb];by_cases h:argS s root d=0
 ·obtain ⟨hr,h1,h2,h3,h4⟩:=zii h;obtain ⟨k,rfl⟩:∃k:Nat,root=k:=⟨root.toNat,by omega⟩;obtain ⟨e,rfl⟩:∃k:Nat,d=k:=⟨d.toNat,by omega⟩;have hk:k<s.length:=by omega
  have hm:idx s (k:Int)=some (zx s k):=by rw [zX rfl hk,zdL hk]
  have hmf:(zx s k).Fields.length<=200:=by rw [zdL hk];exact hr.few _ (xF hk)
  have hu:(if (zaw s k l.flatten e).2==0 then some (.inl (l.flatten.length:Int)) else (if argS s k e !=0 then some (.inr (argS s k e)) else some (.inl (zaw s k l.flatten e).1)):Option (Int⊕Int))=some (.inl (upTo s e k l.flatten)):=by
   have hck:zaw s k l.flatten e=(zJ s e k l.flatten).getD (0,0):=by unfold zaw;rw [xd (by simpa using h),xt]
   unfold upTo;rw [hck];cases hfi:zJ s e k l.flatten with
   | none=>rfl
   | some p=>
    have:=zei s e k _ _ _ hfi;rw [py,itF (by simpa using h)];rfl
  rw [hu,sb,xd (by simpa using h)];simp only;rw [hm,sb,zzj (by omega) h hl hb,sb];cases hfb:zbc s k e 0 l with
  | none=>simp only;rw [itF (by simp)]
  | some p=>
   obtain ⟨j,c⟩:=p;have hj:=zjY hfb;obtain ⟨g,hc⟩:=znA hfb;have hxl:(l[j - 0]).length<=l.flatten.length:=(List.sublist_flatten_of_mem (xF g)).length_le;simp only [yU] at hc hxl;simp only;rw [px,zX rfl (by omega),sb,zkS hw k (by omega) e hf,sb,hc]
 ·have hc:=zlR (b:=l.flatten) h;rw [hc,itF (by simpa using h),itT (by simpa using h),xe h];rfl
theorem zov {m:Mes} {b:List UInt8} {v:Vw} (h:v∈(zaC m b).1):v.Field= -1/\fldI m v.R.Number= -1\/∃(i:Nat) (g:i<m.Fields.length),v.Field=i/\fldI m v.R.Number=i/\m.Fields[i].Number=v.R.Number:=by
 have hv:=(zAi h).2;rcases zdv m v.R.Number v.R.Wire with h1| ⟨h1,h2⟩| ⟨i,run,h1,h2,h3⟩
 ·rw [h1] at hv;cases hv
 ·rw [h1] at hv;simp only [Sum.inr.injEq,xT] at hv;exact .inl ⟨hv.1.symm,h2⟩
 ·rw [h1] at hv;simp only [Sum.inr.injEq,xT] at hv;rcases ziT m v.R.Number with ⟨g,_⟩| ⟨j,hj,g,gn,_⟩
  ·rw [g] at h2;omega
  ·rw [g] at h2;have:j=i:=by omega
   subst this;exact .inr ⟨j,hj,hv.1.symm,g,gn⟩
def ziX (m:Mes) (i:Int):Bool:=i != -1&& !(zT m i).Repeated&&(zT m i).Kind !=17
theorem zAa {m:Mes} (hm:m.Fields.length<=1152921504606846976) {b:List UInt8} (hb:b.length<=1048576):∃F,zej m b=some F/\∀i,(mget F i).getD false=(((zaC m b).1.any fun v=>v.Field==i)&&ziX m i):=by
 unfold zej zeV;rw [zow hm hb,sb,sb];have vk:=zwo m b;have key:∀(post vl:List Vw) (F:List (Int×Bool)),(zaC m b).1=vl++post->(∀i,(mget F i).getD false=((vl.any fun v=>v.Field==i)&&ziX m i))->∃G,zbF m ((zaC m b).1.map prV) F (vl.length:Nat)=some G/\∀i,(mget G i).getD false=(((zaC m b).1.any fun v=>v.Field==i)&&ziX m i):=by
  intro post
  induction post with
  | nil=>
   intro vl F he hF;refine ⟨F,zjE ?_,by rw [he,yJ];exact hF⟩;unfold zbi;rw [itF (by rw [he];simp)]
  | cons v post ih=>
   intro vl F he hF;have hpl:vl.length<(zaC m b).1.length:=by rw [he];simp
   have hidx:idx ((zaC m b).1.map prV) (vl.length:Nat)=some (prV v):=by
    have:=zAK (xs:=(zaC m b).1.map prV) (v:=prV v) (vl:=vl.map prV) (post:=post.map prV) (by rw [he];simp);simpa using this
   have hg:(if ((prV v).Field !=(-1))=true then (idx m.Fields (prV v).Field>>=fun x2=>if (!x2.Repeated)=true then (idx m.Fields (prV v).Field>>=fun x3=>some (x3.Kind !=17)) else some false) else some false)=some (ziX m v.Field):=by
    unfold ziX;show (if (v.Field !=(-1))=true then (idx m.Fields v.Field>>=fun x2=>if (!x2.Repeated)=true then (idx m.Fields v.Field>>=fun x3=>some (x3.Kind !=17)) else some false) else some false)=_;rcases zov (show v∈(zaC m b).1 by rw [he];simp) with ⟨h1,_⟩| ⟨i,hi,h1,_⟩
    ·rw [h1];rfl
    ·have:(v.Field !=(-1))=true:=by simp;omega
     rw [itT this,this,h1,zX rfl hi,sb,sb,zge hi];cases (m.Fields[i]).Repeated<;>rfl
   have e:∀F',(∀i,(mget F' i).getD false=(((vl++[v]).any fun v=>v.Field==i)&&ziX m i))->∃G,zbF m ((zaC m b).1.map prV) F' ((vl.length+1:Nat):Int)=some G/\∀i,(mget G i).getD false=(((zaC m b).1.any fun v=>v.Field==i)&&ziX m i):=fun F' h=>by
    have:=ih (vl++[v]) F' (by rw [he];simp) h;simpa using this
   cases hlo:ziX m v.Field with
   | true=>
    obtain ⟨G,g1,g2⟩:=e (mput F v.Field true) fun i=>by
     rw [ziv,qm];by_cases hi:i=v.Field
     ·rw [xe hi,hi,hlo];simp
     ·rw [xd hi,hF];have:(v.Field==i)=false:=by simpa using fun h=>hi h.symm
      simp [this]
    refine ⟨G,(zfv (fields':=mput F v.Field true) (v':=((vl.length+1:Nat):Int)) ?_).trans g1,g2⟩;unfold zbi;rw [px,hidx,sb,hg,sb,itT hlo,pz];rfl
   | false=>
    obtain ⟨G,g1,g2⟩:=e F fun i=>by
     rw [hF,qm];by_cases hi:v.Field=i
     ·rw [<-hi,hlo];simp
     ·have:(v.Field==i)=false:=by simpa using hi
      simp [this]
    refine ⟨G,(zfv (fields':=F) (v':=((vl.length+1:Nat):Int)) ?_).trans g1,g2⟩;unfold zbi;rw [px,hidx,sb,hg,sb,itF hlo,pz];rfl
 obtain ⟨G,g1,g2⟩:=key _ [] [] rfl (fun i=>by simp [mget]);have g1':zbF m ((zaC m b).1.map prV) [] 0=some G:=g1;exact ⟨G,by rw [g1',sb],g2⟩
theorem ztB {ve:Nat} {s:List Mes} (root:Int) {a b:List UInt8} (d:Int) (hf:130<=ve) (hw:WS s) (ha:a.length<=1048576) (hb:b.length<=1048576):zeK ve s root a b d=some (if (zed s root [a,b] d).2.2≠0 then (0,(zed s root [a,b] d).2.2) else (((ziZ (zx s root) a b:Nat):Int),0)):=by
 unfold zeK;rw [zrh root d hf hw ha hb,sb];by_cases h:(zed s root [a,b] d).2.2=0
 ·have harg:argS s root d=0:=by
   by_cases g:argS s root d=0
   ·exact g
   ·unfold zed at h;rw [xe g] at h;exact absurd h g
  obtain ⟨hr,h1,h2,h3,h4⟩:=zii harg;obtain ⟨k,rfl⟩:∃k:Nat,root=k:=⟨root.toNat,by omega⟩;have hk:k<s.length:=by omega
  have hm:idx s (k:Int)=some (zx s k):=by rw [zX rfl hk,zdL hk]
  have hmf:(zx s k).Fields.length<=200:=by rw [zdL hk];exact hr.few _ (xF hk)
  rw [itF (by simpa using h),xd (fun hc=>hc h),hm,sb]
  generalize zx s (k:Int)=m at hmf|-
  obtain ⟨F,hF,hFi⟩:=zAa (m:=m) (by omega) hb;rw [hF,sb];unfold zeV;rw [zow (by omega) ha,sb,sb];have vk:=zwo m a;have hp:∀v∈(zaC m a).1,(mget F v.Field).getD false=(decide (0<=v.Field)&&(zaC m b).1.any (fun u=>u.R.Number==v.R.Number)&& !(zT m v.Field).Repeated&&(zT m v.Field).Kind !=17):=fun v hv=>by
   rw [hFi];unfold ziX;rcases zov hv with ⟨e1,e2⟩| ⟨i,hi,e1,e2,e3⟩
   ·rw [e1];simp
   ·have hany:((zaC m b).1.any fun u=>u.Field==v.Field)=(zaC m b).1.any (fun u=>u.R.Number==v.R.Number):=by
     rw [xX,qx,qx];constructor
     ·rintro ⟨u,hu,he⟩;refine ⟨u,hu,?_⟩;have he':u.Field=v.Field:=by simpa using he
      rcases zov hu with ⟨f1,f2⟩| ⟨j,hj,f1,f2,f3⟩
      ·omega
      ·have:j=i:=by omega
       subst this;simp [<-f3,e3]
     ·rintro ⟨u,hu,he⟩;refine ⟨u,hu,?_⟩;have he':u.R.Number=v.R.Number:=by simpa using he
      rw [<-he'] at e2;rcases zov hu with ⟨f1,f2⟩| ⟨j,hj,f1,f2,f3⟩
      ·omega
      ·simp;omega
    have e4:(v.Field != -1)=true:=by simp;omega
    have e5:decide (0<=v.Field)=true:=by simp;omega
    rw [hany,e4,e5,qh,qh,Bool.and_assoc]
  have key:∀(post vl:List Vw),(zaC m a).1=vl++post->zdV F ((zaC m a).1.map prV) ((vl.filter fun v=>(mget F v.Field).getD false).length:Nat) (vl.length:Nat)=some ((((zaC m a).1.filter fun v=>(mget F v.Field).getD false).length:Nat):Int):=by
   intro post
   induction post with
   | nil=>
    intro vl he;refine zml ?_;unfold zct;rw [itF (by rw [he];simp),he,yJ]
   | cons v post ih=>
    intro vl he;have hpl:vl.length<(zaC m a).1.length:=by rw [he];simp
    have hfl:=List.length_filter_le (fun v=>(mget F v.Field).getD false) vl;have hidx:idx ((zaC m a).1.map prV) (vl.length:Nat)=some (prV v):=by
     have:=zAK (xs:=(zaC m a).1.map prV) (v:=prV v) (vl:=vl.map prV) (post:=post.map prV) (by rw [he];simp);simpa using this
    have e:=ih (vl++[v]) (by rw [he];simp);rw [List.filter_append,xE,xE] at e;cases hv:(mget F v.Field).getD false with
    | true=>
     refine (zhB (gone':=(((vl.filter fun v=>(mget F v.Field).getD false).length+1:Nat):Int)) (v':=((vl.length+1:Nat):Int)) ?_).trans (by simpa [hv] using e);unfold zct;rw [px,hidx,sb,itT (show (mget F (prV v).Field).getD false=true from hv),pz,pz];rfl
    | false=>
     refine (zhB (gone':=(((vl.filter fun v=>(mget F v.Field).getD false).length:Nat):Int)) (v':=((vl.length+1:Nat):Int)) ?_).trans (by simpa [hv] using e);unfold zct;rw [px,hidx,sb,itF (show (mget F (prV v).Field).getD false=false from hv),pz];rfl
  have h0:=key _ [] rfl;have h0':zdV F ((zaC m a).1.map prV) 0 0=_:=h0;rw [h0',sb];unfold ziZ;rw [List.filter_congr hp]
 ·rw [itT (by simpa using h),xe h]
end Go.Proofs.YtnckiilakdkklaaGreat
