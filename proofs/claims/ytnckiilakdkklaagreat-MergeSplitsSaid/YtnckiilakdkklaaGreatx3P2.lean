/-
  What the plain functions are. No condition.
-/
import Derived.Test.YtnckiilakdkklaaGreatx3P1
set_option autoImplicit true
set_option relaxedAutoImplicit true
namespace Go.Proofs.YtnckiilakdkklaaGreat
open Go
set_option linter.unusedVariables false
abbrev Head:=zx
abbrev Role:=zz
def rol (m:Mes) (h:Head):Role:=match vw m h.number h.wire with
 | .inl c=>⟨0,false,c⟩
 | .inr (i,run)=>⟨i,run,0⟩
theorem zxa (hm:m.Fields.length<=1152921504606846976) (n:Int):zhd m n=some (fldI m n):=by
 unfold zhd zN;have h:=zmO (fun f:Fld=>f.Number==n) m.Fields (fun i=>zy m.Fields n i) (zax (by unfold zv;rw [itF (by simp)])) (fun i hi=>by
  by_cases hp:(m.Fields[i].Number==n)=true
  ·rw [xe hp];exact zax (by unfold zv zfh;rw [pv,zad rfl hi,sb,sb,itT hp])
  ·rw [xd hp];exact zbL (by unfold zv zfh;rw [pv,zad rfl hi,sb,sb,itF (qH hp),px];rfl)) m.Fields.length 0 (by omega) (fun j _ h=>by omega)
 have h':zy m.Fields n 0=_:=h;rw [h',sb];unfold fldI zhN;cases m.Fields.findIdx? (fun f:Fld=>f.Number==n) with
 | none=>rfl
 | some i=>rfl
theorem zxb (f:Fld) (w:Int):zhe f w=some (decide (f.Repeated=true/\kNum f.Kind=true/\w=2)):=by
 unfold zhe;cases f.Repeated
 ·simp [sb]
 ·by_cases hw:w=2
  ·subst hw;rw [itT rfl,itT (c:=(2:Int)==2) rfl,zoU,sb,sb];cases kNum f.Kind<;>rfl
  ·rw [itT rfl,itF (by simpa using hw),sb];simp [hw]
theorem zyP (k w:Int):zix k w=some (decide (¬(zbS k=false\/zdz k≠w))):=by
 unfold zix;rw [zti,sb];cases zbS k with
 | false=>rfl
 | true=>
  by_cases h:zdz k=w<;>simp [h]
theorem zvd (hm:m.Fields.length<=1152921504606846976) (h:Head):zeP m h=some (rol m h):=by
 unfold zeP rol;rw [zxa hm,sb];unfold vw;rcases ziF m h.number with ⟨hf,_⟩| ⟨i,hi,hf,_⟩
 ·rw [hf,pt,xe (by decide)]
 ·rw [hf,itF (by simp),xd (by omega),zad rfl hi,sb,zgL hi,zxb,sb];by_cases h1:(m.Fields[i]).Repeated=true/\kNum (m.Fields[i]).Kind=true/\h.wire=2
  ·rw [xe h1,xT h1];rfl
  ·rw [xd h1,xR h1,pt,zyP,sb,sb];by_cases h2:zbS (m.Fields[i]).Kind=false\/zdz (m.Fields[i]).Kind≠h.wire
   ·rw [xe h2,itT (by rw [xR (fun g=>g h2)];rfl)]
   ·rw [xd h2,itF (by rw [xT h2];rfl)]
def ziS (m:Mes) (met:List (Head×Role)):Prop:=∀h x,mget met h=some x->x=rol m h
theorem ziS.nil (m:Mes):ziS m []:=fun h x g=>by cases g
theorem ziS.put (g:ziS m met) (h:Head):ziS m (mput met h (rol m h)):=fun j x hx=>by
 rw [zif] at hx;by_cases e:j=h
 ·rw [xe e] at hx;rw [e];exact (yk hx).symm
 ·rw [xd e] at hx;exact g j x hx
theorem zoX (hm:m.Fields.length<=1152921504606846976) (hb:b.length<=1048576) (p:Int) (g:ziS m met):
  ∃vf,zgF m b p met=some (prV (zbB m b p).1,(zbB m b p).2,vf)/\ziS m vf:=by
 unfold zgF zbB;rw [zvQ hb,sb];by_cases h:(zcj b p).2=0
 ·rw [itF (by simpa using h),xd (show ¬((zcj b p).2≠0) from fun q=>q h)]
  generalize (zcj b p).1=r
  have key:∃vf,(if (!(mget met (⟨r.Number,r.Wire⟩:Head)).isSome) then (zeP m (⟨r.Number,r.Wire⟩:Head)>>=fun uX=>some ((mput met (⟨r.Number,r.Wire⟩:Head) uX),uX.field,uX.run,uX.e))
    else some (met,((mget met (⟨r.Number,r.Wire⟩:Head)).getD (⟨0,false,0⟩:Role)).field,((mget met (⟨r.Number,r.Wire⟩:Head)).getD (⟨0,false,0⟩:Role)).run,((mget met (⟨r.Number,r.Wire⟩:Head)).getD (⟨0,false,0⟩:Role)).e))=some (vf,(rol m ⟨r.Number,r.Wire⟩).field,(rol m ⟨r.Number,r.Wire⟩).run,(rol m ⟨r.Number,r.Wire⟩).e)/\ziS m vf:=by
   cases hg:mget met (⟨r.Number,r.Wire⟩:Head) with
   | none=>
    rw [pt,zvd hm,sb];exact ⟨_,rfl,g.put _⟩
   | some x=>
    rw [pu];refine ⟨met,?_,g⟩;rw [<-g _ x hg];rfl
  obtain ⟨vf,hk,hM⟩:=key;refine ⟨vf,?_,hM⟩;rw [hk,sb];unfold rol;rcases zeh m r.Number r.Wire with hv| ⟨hv,_⟩| ⟨i,run,hv,_⟩
  ·simp only [hv];rfl
  ·simp only [hv];rfl
  ·simp only [hv];rfl
 ·rw [itT (by simpa using h),xe h];exact ⟨met,rfl,g⟩
theorem zyQ (hm:m.Fields.length<=1152921504606846976) (hb:b.length<=1048576) (p:Int):ziw m b p=some (prV (zbB m b p).1,(zbB m b p).2):=by
 obtain ⟨vf,h,_⟩:=zoX hm hb p (ziS.nil m);unfold ziw;rw [h,sb]
theorem zwY (hm:m.Fields.length<=1152921504606846976) (hb:b.length<=1048576) (base:Nat) (l:List UInt8):∀(out:List Vw) (met:List (Head×Role)),base<=b.length->l=b.drop base->out.length<=base->ziS m met->
  zeg b m (out.map prV) met base=some (match (vws m (spl base l).2 (spl base l).1).2 with| none=> .inl ((out++(vws m (spl base l).2 (spl base l).1).1).map prV)| some (p,c)=> .inr (p,c)):=by
 refine zfS (fun base l=>∀(out:List Vw) (met:List (Head×Role)),base<=b.length->l=b.drop base->out.length<=base->ziS m met->
  zeg b m (out.map prV) met base=some (match (vws m (spl base l).2 (spl base l).1).2 with| none=> .inl ((out++(vws m (spl base l).2 (spl base l).1).1).map prV)| some (p,c)=> .inr (p,c))) ?_ ?_ ?_ base l
 ·intro base out met hbase hl ho hM;have:b.length<=base:=by have:=congrArg List.length hl;simp at this;omega
  rw [zcI];simp only [vws,qZ,qc];refine zgo ?_;unfold zcs;rw [pw]
 ·intro base l c hl h hc out met hbase hld ho hM;subst hld;have hlt:base<b.length:=by have:=yg.2 hl;simp at this;omega
  rw [zel hl h];simp only [vws,yI];refine zgo ?_;unfold zcs;have e:zcj b base=(zrec,c):=by unfold zcj;rw [xd (by omega),xw,h]
  have e2:zbB m b base=(zvw,c):=by unfold zbB;rw [e,xe (by simp only;omega)]
  obtain ⟨vf,hk,_⟩:=zoX hm hb base hM;rw [pv,hk,sb,e2,pv]
 ·intro base l n w a t hl h _ g1 g2 g3 ih out met hbase hld ho hM;subst hld;simp only [xx] at g3;have hlt:base<b.length:=by omega
  rw [zbE hl h];have e:zcj b base=(⟨n,w,base,(base+a:Nat),(base+t:Nat)⟩,0):=by
   unfold zcj;rw [xd (by omega),xw,h];push_cast;rfl
  rw [vws];obtain ⟨vf,hk,hM'⟩:=zoX hm hb base hM;rcases zeh m n w with hv| ⟨hv,_⟩| ⟨i,run,hv,_,hi⟩
  ·have e2:zbB m b base=(zvw,6):=by unfold zbB;rw [e];simp only [ne_eq,yr,xV,hv]
   simp only [hv];refine zgo ?_;unfold zcs;rw [pv,hk,sb,e2,pt]
  ·have e2:zbB m b base=(⟨⟨n,w,base,(base+a:Nat),(base+t:Nat)⟩, -1,false⟩,0):=by unfold zbB;rw [e];simp only [ne_eq,yr,xV,hv]
   simp only [hv];refine (zja (l':=(out++([⟨⟨n,w,base,(base+a:Nat),(base+t:Nat)⟩, -1,false⟩]:List Vw)).map prV) (vf:=vf) (fromv':=((base+t:Nat):Int)) ?_).trans ?_
   ·unfold zcs;rw [pv,hk,sb,e2,pu,zjv (by simp;omega),sb,yK];rfl
   ·rw [ih _ vf (by omega) (by rw [xP]) (by simp;omega) hM'];simp only [yZ,qF]
  ·have e2:zbB m b base=(⟨⟨n,w,base,(base+a:Nat),(base+t:Nat)⟩,i,run⟩,0):=by unfold zbB;rw [e];simp only [ne_eq,yr,xV,hv]
   simp only [hv];refine (zja (l':=(out++([⟨⟨n,w,base,(base+a:Nat),(base+t:Nat)⟩,i,run⟩]:List Vw)).map prV) (vf:=vf) (fromv':=((base+t:Nat):Int)) ?_).trans ?_
   ·unfold zcs;rw [pv,hk,sb,e2,pu,zjv (by simp;omega),sb,yK];rfl
   ·rw [ih _ vf (by omega) (by rw [xP]) (by simp;omega) hM'];simp only [yZ,qF]
theorem zst (hm:m.Fields.length<=1152921504606846976) (hb:b.length<=1048576):zko m b=some ((zaD m b).1.map prV,(zaD m b).2.1,(zaD m b).2.2):=by
 unfold zko;have h:=zwY hm hb 0 b [] [] (xm _) rfl (xi _) (ziS.nil m);have h':zeg b m [] [] 0=_:=h;rw [h',sb];unfold zaD vwR;cases (vws m (spl 0 b).2 (spl 0 b).1).2 with
 | none=>rfl
 | some p=>rfl
theorem zyf {α:Type} {xs ve post:List α} {v:α} (e:xs=ve++v::post):idx xs (ve.length:Nat)=some v:=by
 subst e;rw [zad rfl (by simp)];simp
theorem zss (m:Mes) (b:List UInt8):(zaD m b).1.length<=b.length:=by
 rcases znr m b with ⟨_,hn,e,_⟩| ⟨_,e⟩
 ·have h:=congrArg List.length (zpQ hn).2;rw [List.length_map] at h;rw [e,h];exact zwc 0 b
 ·rw [e];simp
def ziX (m:Mes) (g:Int->List UInt8->Nat) (b:List UInt8) (r:Rec):Nat:=match vw m r.Number r.Wire with
 | .inl _=>0
 | .inr (i,run)=>if i<0\/run=true then 0 else if (zX m i).Kind=17 then g (zX m i).Of (valB b r)+1 else 0
def zhu (m:Mes) (g:Int->List UInt8->Nat) (b:List UInt8):List Rec->Nat
 | []=>0
 | r::l=>max (ziX m g b r) (zhu m g b l)
def zfy (s:List Mes):Nat->Int->List UInt8->Nat
 | 0,k,b=>zhu (zB s k) (fun _ _=>0) b (spl 0 b).1
 | d+1,k,b=>zhu (zB s k) (zfy s d) b (spl 0 b).1
theorem zlP :∀{l:List Rec},zhu m g b l<=e↔∀r∈l,ziX m g b r<=e
 | []=>by simp [zhu]
 | r::l=>by
  have ih:=zlP (m:=m) (g:=g) (b:=b) (e:=e) (l:=l);unfold zhu;rw [List.forall_mem_cons,<-ih];omega
theorem zkF (h:zbF m a b r=none) (hc0:c=none↔e=0)
  (hc:∀q,a=some q->∀q',c=some q'->∀k v,q k v=none->(q' k v=none↔g k v+1<=e)):zbF m c b r=none↔ziX m g b r<=e:=by
 unfold zbF at h|-;unfold ziX;cases hv:vw m r.Number r.Wire with
 | inl x=>rw [hv] at h;cases h
 | inr p=>
  obtain ⟨i,run⟩:=p;rw [hv] at h;simp only at h|-;by_cases hi:i<0
  ·grind
  ·rw [xd hi] at h|-;unfold zjQ at h|-;by_cases hr:run=true
   ·grind
   ·rw [xd hr] at h|-;rw [xd (show ¬(i<0\/run=true) from fun q=>q.elim hi hr)];by_cases h15:(zX m i).Kind=15/\zfJ (valB b r)=false
    ·grind
    ·rw [xd h15] at h|-;by_cases h17:(zX m i).Kind=17
     ·rw [xe h17] at h|-;rw [xe h17];cases a with
      | none=>cases h
      | some q=>
       simp only at h;cases hq:q (zX m i).Of (valB b r) with
       | some z=>rw [hq] at h;cases h
       | none=>
        cases c with
        | none=>
         grind
        | some q'=>
         grind
     grind
theorem zsM (s:List Mes):∀(d e:Nat) (k:Int) (b:List UInt8),e<=d->zK s d k b=none->(zK s e k b=none↔zfy s d k b<=e)
 | 0,e,k,b,he,h=>by
  have:e=0:=by omega
  subst this;refine ⟨fun _=>zlP.2 (fun r hr=>?_),fun _=>h⟩;have h':=(zcg.1 h).1 r hr;exact (zkF (a:=none) (c:=none) h' (by simp) (fun q hq q' hq'=>nomatch hq')).1 h'
 | d+1,0,k,b,he,h=>by
  have h':zaN (zB s k) (some (zK s d)) b (spl 0 b)=none:=h;rw [zcg] at h';show zaN (zB s k) none b (spl 0 b)=none↔zhu _ _ _ _<=0;rw [zcg,zlP];constructor
  ·intro hh r hr;exact (zkF (a:=some (zK s d)) (c:=none) (h'.1 r hr) (by simp) (fun q hq q' hq'=>nomatch hq')).1 (hh.1 r hr)
  ·intro hh;exact ⟨fun r hr=>(zkF (a:=some (zK s d)) (c:=none) (h'.1 r hr) (by simp) (fun q hq q' hq'=>nomatch hq')).2 (hh r hr),h'.2⟩
 | d+1,e+1,k,b,he,h=>by
  have h':zaN (zB s k) (some (zK s d)) b (spl 0 b)=none:=h;rw [zcg] at h';show zaN (zB s k) (some (zK s e)) b (spl 0 b)=none↔zhu _ _ _ _<=e+1;rw [zcg,zlP];have key:∀r∈(spl 0 b).1,zbF (zB s k) (some (zK s e)) b r=none↔ziX (zB s k) (zfy s d) b r<=e+1:=fun r hr=>
   zkF (a:=some (zK s d)) (h'.1 r hr) (by simp) (fun q hq q' hq' k v hk=>by
    cases hq;cases hq';have:=zsM s d e k v (by omega) hk;rw [this];omega)
  exact ⟨fun hh r hr=>(key r hr).1 (hh.1 r hr),fun hh=>⟨fun r hr=>(key r hr).2 (hh r hr),h'.2⟩⟩
abbrev zft:=zg
def zdR (s:List Mes) (met:List (zft×PVw)):Prop:=∀h x,mget met h=some x->vw (zB s h.message) h.number h.wire= .inr (x.Field,x.Run)
theorem zdR.nil (s:List Mes):zdR s []:=fun h x g=>by cases g
theorem zdR.put (g:zdR s met) (hv:vw (zB s h.message) h.number h.wire= .inr (v.Field,v.Run)):zdR s (mput met h v):=fun j x hx=>by
 rw [zif] at hx;by_cases e:j=h
 ·grind
 ·rw [xd e] at hx;exact g j x hx
theorem ztY {s:List Mes} {k:Nat} (hk:k<s.length) (hm:(zB s k).Fields.length<=1152921504606846976) {b:List UInt8} (hb:b.length<=1048576) (p:Int) {t:Nat} (ht:t<=b.length) {met:List (zft×PVw)} (g:zdR s met):
  ∃vf,zdF ⟨s,b,met⟩ k p t=some (prV (zbB (zB s k) (b.take t) p).1,(zbB (zB s k) (b.take t) p).2,vf)/\zdR s vf:=by
 have hbt:(b.take t).length<=1048576:=by rw [xK];omega
 have hcut:cut b 0 (t:Int)=some (b.take t):=by
  rw [zes (i:=0) (j:=t) rfl rfl (xm _) ht];simp
 have hidx:idx s (k:Int)=some (zB s k):=by rw [zad rfl hk,zey hk]
 have hvl:=zyQ hm hbt p;unfold zdF;simp only;rw [hcut,sb,zvQ hbt,sb];unfold zbB at hvl|-;by_cases h:(zcj (b.take t) p).2=0
 ·rw [itF (by simpa using h),xd (show ¬((zcj (b.take t) p).2≠0) from fun q=>q h)];rw [xd (show ¬((zcj (b.take t) p).2≠0) from fun q=>q h)] at hvl
  generalize (zcj (b.take t) p).1=r at hvl|-
  cases hg:mget met (⟨(k:Int),r.Number,r.Wire⟩:zft) with
  | none=>
   rw [pt,hidx,sb,hvl,sb];cases hv:vw (zB s k) r.Number r.Wire with
   | inl c=>
    have hc:c=6:=by
     grind [zeh]
    subst hc;exact ⟨met,by rw [pt];rfl,g⟩
   | inr q=>
    obtain ⟨i,run⟩:=q;refine ⟨_,?_,g.put (h:=⟨(k:Int),r.Number,r.Wire⟩) (v:=prV ⟨r,i,run⟩) hv⟩;rfl
  | some x=>
   have hv:=g _ _ hg;simp only at hv;rw [pu,hv];exact ⟨met,rfl,g⟩
 ·rw [itT (by simpa using h),xe h];exact ⟨met,rfl,g⟩
def zjH (f:Fld) (run:Bool) (v:List UInt8):Int:=if run=true then (ziT f.Kind v).2 else if f.Kind=15/\zfJ v=false then 7 else if f.Kind=17 then 8 else 0
theorem zwZ (f:Fld) (run:Bool) (hv:v.length<=1048576):zgi f run v=some (zjH f run v):=by
 unfold zgi zjH
 grind [zeu,ziT,zwX,sb,zwL]
abbrev Find:=zn
def okR (o:Option (Int×Int)) (a dp:Nat) (r:Find):Prop:=match o with
 | none=>r=⟨(dp:Int),0,0⟩
 | some (p,c)=>r.place=(a:Int)+p/\r.e=c
def zpI (s:List Mes):Nat->zgG
 | 0=>none
 | d+1=>some (zK s d)
def zmK (s:List Mes):Nat->Int->List UInt8->Nat
 | 0=>fun _ _=>0
 | d+1=>zfy s d
theorem zwn (s:List Mes) (d:Nat) (k:Int) (b:List UInt8):zK s d k b=zaN (zB s k) (zpI s d) b (spl 0 b):=by cases d<;>rfl
theorem zzi (s:List Mes) (d:Nat) (k:Int) (b:List UInt8):zfy s d k b=zhu (zB s k) (zmK s d) b (spl 0 b).1:=by cases d<;>rfl
theorem zyJ (s:List Mes) (d:Nat):∀g,zpI s d=some g->zmG g:=fun g h=>by
 cases d with
 | zero=>cases h
 | succ d=>cases h;exact zfz s d
theorem zzK (b:List UInt8) (t a x y:Nat) (h:a+y<=t):(((b.take t).drop a).drop x).take (y - x)=(b.take (a+y)).drop (a+x):=by
 rw [xP,qj,qj,qE];congr 1;omega
theorem zxe {s:List Mes} {k:Nat} (hk:k<s.length) (hm:(zB s k).Fields.length<=1152921504606846976) {b:List UInt8} (hb:b.length<=1048576) {d:Int} {a t:Nat} (hat:a<=t) (ht:t<=b.length) {sub:zgG} {gd:Int->List UInt8->Nat}
  (hg:∀g,sub=some g->zmG g) {recv:zL->Int->za->Int->Option (zn×(List (zg×za)))} {met0:List (zft×PVw)}
  (hval:∀met,zdR s met->∀(n w i:Int) (run:Bool) (base x y:Nat),vw (zB s k) n w= .inr (i,run)->1<=x->x<=y->a+base+y<=t->
   ∃R vf,recv ⟨s,b,met⟩ k ⟨⟨n,w,((a+base:Nat):Int),((a+(base+x):Nat):Int),((a+(base+y):Nat):Int)⟩,i,run⟩ d=some (R,vf)/\zdR s vf/\
    okR (zbF (zB s k) sub ((b.take t).drop a) ⟨n,w,base,(base+x:Nat),(base+y:Nat)⟩) a (ziX (zB s k) gd ((b.take t).drop a) ⟨n,w,base,(base+x:Nat),(base+y:Nat)⟩) R)
  (base:Nat) (l:List UInt8):∀(met:List (zft×PVw)) (dp:Nat),zdR s met->l=((b.take t).drop a).drop base->base<=t - a->
  ∃vf D,zdR s vf/\zaO d k recv t ⟨s,b,met0⟩ met ((a+base:Nat):Int) dp=some (match zaN (zB s k) sub ((b.take t).drop a) (spl base l) with
   | none=> .inl (vf,((max dp (zhu (zB s k) gd ((b.take t).drop a) (spl base l).1):Nat):Int))
   | some (p,c)=> .inr (vf,D,(a:Int)+p,c)):=by
 have hvl:((b.take t).drop a).length=t - a:=by simp;omega
 generalize hvv:(b.take t).drop a=v at hval hvl|-
 refine zfS (fun base l=>∀(met:List (zft×PVw)) (dp:Nat),zdR s met->l=v.drop base->base<=t - a->
  ∃vf D,zdR s vf/\zaO d k recv t ⟨s,b,met0⟩ met ((a+base:Nat):Int) dp=some (match zaN (zB s k) sub v (spl base l) with
   | none=> .inl (vf,((max dp (zhu (zB s k) gd v (spl base l).1):Nat):Int))
   | some (p,c)=> .inr (vf,D,(a:Int)+p,c))) ?_ ?_ ?_ base l
 ·intro base met dp g hl hbase;have:v.length<=base:=by have:=congrArg List.length hl;simp at this;omega
  refine ⟨met,0,g,?_⟩;rw [zcI];refine zbM ?_;unfold zZ;rw [pw];simp [zaN,zhu]
 ·intro base l c hl h hc met dp g hld hbase;have hlt:a+base<t:=by have:=yg.2 hl;rw [hld] at this;simp at this;omega
  have hdr:(b.take t).drop (a+base)=l:=by rw [hld,<-hvv,xP]
  have e:zcj (b.take t) ((a+base:Nat):Int)=(zrec,c):=by unfold zcj;rw [xd (by simp;omega),xw,hdr,h]
  have e2:zbB (zB s k) (b.take t) ((a+base:Nat):Int)=(zvw,c):=by unfold zbB;rw [e,xe (by simp only;omega)]
  obtain ⟨vf,hlk,g'⟩:=ztY hk hm hb ((a+base:Nat):Int) ht g;refine ⟨vf,0,g',?_⟩;rw [zel hl h];refine zbM ?_;unfold zZ;simp only;rw [pv,hlk,sb,e2,pv];simp [zaN]
 ·intro base l n w x y hl h _ g1 g2 g3 ih met dp g hld hbase;have hly:base+y<=t - a:=by rw [hld] at g3;simp at g3;omega
  have hdr:(b.take t).drop (a+base)=l:=by rw [hld,<-hvv,xP]
  have e:zcj (b.take t) ((a+base:Nat):Int)=(⟨n,w,((a+base:Nat):Int),((a+(base+x):Nat):Int),((a+(base+y):Nat):Int)⟩,0):=by
   unfold zcj;rw [xd (by simp;omega),xw,hdr,h]
   grind
  obtain ⟨vf,hlk,g'⟩:=ztY hk hm hb ((a+base:Nat):Int) ht g
  have hfr:zaN (zB s k) sub v (spl base l)=match zbF (zB s k) sub v ⟨n,w,base,(base+x:Nat),(base+y:Nat)⟩ with
    | some p=>some p
    | none=>zaN (zB s k) sub v (spl (base+y) (l.drop y)):=by
   unfold zaN;rw [zbE hl h];simp only [pm];cases zbF (zB s k) sub v ⟨n,w,base,(base+x:Nat),(base+y:Nat)⟩<;>rfl
  have hfd:zhu (zB s k) gd v (spl base l).1=max (ziX (zB s k) gd v ⟨n,w,base,(base+x:Nat),(base+y:Nat)⟩) (zhu (zB s k) gd v (spl (base+y) (l.drop y)).1):=by
   rw [zbE hl h];rfl
  cases hv:vw (zB s k) n w with
  | inl c=>
   have hc:c=6:=by
    grind [zeh]
   subst hc;have e2:zbB (zB s k) (b.take t) ((a+base:Nat):Int)=(zvw,6):=by unfold zbB;rw [e];simp only [ne_eq,yr,xV,hv]
   have hst:zbF (zB s k) sub v ⟨n,w,base,(base+x:Nat),(base+y:Nat)⟩=some ((base:Int),6):=by unfold zbF;simp only [hv]
   refine ⟨vf,0,g',?_⟩;rw [hfr,hst];refine zbM ?_;unfold zZ
   grind
  | inr q=>
   obtain ⟨i,run⟩:=q;have e2:zbB (zB s k) (b.take t) ((a+base:Nat):Int)=(⟨⟨n,w,((a+base:Nat):Int),((a+(base+x):Nat):Int),((a+(base+y):Nat):Int)⟩,i,run⟩,0):=by unfold zbB;rw [e];simp only [ne_eq,yr,xV,hv]
   obtain ⟨R,met2,hrv,g2',hok⟩:=hval vf g' n w i run base x y hv g1 g2 (by omega);have hpr:prV (⟨⟨n,w,((a+base:Nat):Int),((a+(base+x):Nat):Int),((a+(base+y):Nat):Int)⟩,i,run⟩:Vw)=⟨⟨n,w,((a+base:Nat):Int),((a+(base+x):Nat):Int),((a+(base+y):Nat):Int)⟩,i,run⟩:=rfl;cases hst:zbF (zB s k) sub v ⟨n,w,base,(base+x:Nat),(base+y:Nat)⟩ with
   | some pc=>
    obtain ⟨p,c⟩:=pc;have hgd:=zrl hg g1 g2 (b:=v) (base:=base) (by omega) hst;rw [hst] at hok;obtain ⟨o1,o2⟩:=hok;refine ⟨met2,R.depth,g2',?_⟩;rw [hfr,hst];refine zbM ?_;unfold zZ
    grind
   | none=>
    rw [hst] at hok;have hok':R=⟨((ziX (zB s k) gd v ⟨n,w,base,(base+x:Nat),(base+y:Nat)⟩:Nat):Int),0,0⟩:=hok;obtain ⟨met3,D,g3',h3⟩:=ih met2 (max dp (ziX (zB s k) gd v ⟨n,w,base,(base+x:Nat),(base+y:Nat)⟩)) g2' (by rw [hld,xP]) hly;refine ⟨met3,D,g3',?_⟩;rw [hfr,hst,hfd,<-Nat.max_assoc,<-h3];refine zhq ?_;unfold zZ
    grind
theorem zAf {s:List Mes} (hr:zop s) {k:Nat} (hk:k<s.length) {b:List UInt8} (hb:b.length<=1048576) {d uZ:Nat} (hd:d<=64) {a t:Nat} (ht:t<=b.length)
  (ih:∀e,d=e+1->∀(q A T:Nat) (met:List (zft×PVw)),q<s.length->A<=T->T<=b.length->zdR s met->
   ∃R vf,zah uZ ⟨s,b,met⟩ q A T e=some (R,vf)/\zdR s vf/\okR (zK s e q ((b.take T).drop A)) A (zfy s e q ((b.take T).drop A)) R)
  (met:List (zft×PVw)) (g:zdR s met) (n w i:Int) (run:Bool) (base x y:Nat) (hv:vw (zB s k) n w= .inr (i,run)) (h1:1<=x) (h2:x<=y) (hy:a+base+y<=t):
  ∃R vf,zbV (uZ+1) ⟨s,b,met⟩ k ⟨⟨n,w,((a+base:Nat):Int),((a+(base+x):Nat):Int),((a+(base+y):Nat):Int)⟩,i,run⟩ d=some (R,vf)/\zdR s vf/\
    okR (zbF (zB s k) (zpI s d) ((b.take t).drop a) ⟨n,w,base,(base+x:Nat),(base+y:Nat)⟩) a (ziX (zB s k) (zmK s d) ((b.take t).drop a) ⟨n,w,base,(base+x:Nat),(base+y:Nat)⟩) R:=by
 have hidx:idx s (k:Int)=some (zB s k):=by rw [zad rfl hk,zey hk]
 have hun:∀w' v',zbV (uZ+1) w' k v' d=zcG (zah uZ) (zbV uZ) w' k v' d:=fun _ _=>rfl
 have hvb:valB ((b.take t).drop a) ⟨n,w,base,(base+x:Nat),(base+y:Nat)⟩=(b.take (a+(base+y))).drop (a+(base+x)):=by
  unfold valB
  grind [zzK]
 rcases zeh (zB s k) n w with h'| ⟨h',_⟩| ⟨j,run',h',_,hi⟩
 ·grind
 ·rw [hv] at h';obtain ⟨rfl,rfl⟩:i= -1/\run=false:=by simpa using h'
  refine ⟨⟨0,0,0⟩,met,?_,g,?_⟩
  ·rfl
  ·unfold zbF ziX;simp only [hv];rfl
 ·rw [hv] at h';obtain ⟨rfl,rfl⟩:i=j/\run=run':=by simpa using h'
  have hfm:zX (zB s k) (j:Int)∈(zB s k).Fields:=by rw [zgL hi];exact xM hi
  have hmem:zB s k∈s:=by rw [zey hk];exact xM hk
  have hrun:run=true->(zX (zB s k) (j:Int)).Kind≠17:=fun hh h17=>by
   subst hh;have:=(zyR hv).1;rw [h17] at this;cases this
  have hcut:cut b ((a+(base+x):Nat):Int) ((a+(base+y):Nat):Int)=some ((b.take (a+(base+y))).drop (a+(base+x))):=by
   rw [zes rfl rfl (by omega) (by omega),qj]
  have vd:((b.take (a+(base+y))).drop (a+(base+x))).length<=1048576:=by simp;omega
  unfold zbF ziX;simp only [hv];rw [xd (show ¬((j:Int)<0) by omega),hvb];have hif:(if ((j:Int)<0\/run=true) then 0 else if (zX (zB s k) (j:Int)).Kind=17 then zmK s d (zX (zB s k) (j:Int)).Of ((b.take (a+(base+y))).drop (a+(base+x)))+1 else 0)=(if (zX (zB s k) (j:Int)).Kind=17 then zmK s d (zX (zB s k) (j:Int)).Of ((b.take (a+(base+y))).drop (a+(base+x)))+1 else 0):=by
   cases run with
   | false=>rw [xd (by simp)]
   | true=>rw [xe (.inr rfl),xd (hrun rfl)]
  rw [hif];simp only [hun];unfold zcG;simp only;rw [itF (show ((j:Int)== -1)=false by simp),hidx,sb,zad (i:=j) rfl hi,sb,<-zgL hi]
  generalize hvv:(b.take (a+(base+y))).drop (a+(base+x))=v at vd hcut|-
  have hof:=(hr.fld _ hmem _ hfm).sub
  generalize zX (zB s k) (j:Int)=f at hfm hrun hof|-
  by_cases hs:f.Kind=17/\0<d
  ·obtain ⟨e,rfl⟩:∃e,d=e+1:=⟨d - 1,by omega⟩;have hrf:run=false:=by
    cases run with
    | false=>rfl
    | true=>exact absurd hs.1 (hrun rfl)
   subst hrf;have hof':=hof hs.1;obtain ⟨q,hq⟩:∃q:Nat,f.Of=q:=⟨f.Of.toNat,by omega⟩;obtain ⟨R,vf,hR,g',hok⟩:=ih e rfl q (a+(base+x)) (a+(base+y)) met (by omega) (by omega) (by omega) g;rw [hvv] at hok;have hw1:IntKind.i64.wrap (((e+1:Nat):Int) - 1)=(e:Int):=by rw [px];omega
   refine ⟨⟨IntKind.i64.wrap (R.depth+1),R.place,R.e⟩,vf,?_,g',?_⟩
   ·grind
   ·rw [xe hs.1];unfold zjQ;rw [xd (by simp),xd (by rw [hs.1];simp),xe hs.1];simp only [zpI,zmK,hq];cases hf:zK s e q v with
    | none=>
     rw [hf] at hok;have hok':R=⟨((zfy s e q v:Nat):Int),0,0⟩:=hok;have hdl:=(zsM s e e q v (xi _) hf).1 hf;subst hok';show (⟨IntKind.i64.wrap (((zfy s e q v:Nat):Int)+1),0,0⟩:Find)=_;rw [px];rfl
    | some pc=>
     obtain ⟨p,c⟩:=pc;rw [hf] at hok;obtain ⟨o1,o2⟩:=hok;refine ⟨?_,o2⟩
     grind
  ·have hno:((f.Kind==17)&&decide (((d:Nat):Int)>0))=false:=by
    grind
   have hlf:zjQ f run (zpI s d) ⟨n,w,base,(base+x:Nat),(base+y:Nat)⟩ v=if zjH f run v≠0 then some ((base:Int),zjH f run v) else none:=by
    unfold zjQ zjH;by_cases hrt:run=true
    ·grind
    ·rw [xd hrt,xd hrt];by_cases h15:f.Kind=15/\zfJ v=false
     ·grind
     ·rw [xd h15,xd h15];by_cases h17:f.Kind=17
      ·have:d=0:=by have:=fun h=>hs ⟨h17,h⟩;omega
       subst this;rw [xe h17,xe h17,xe (by omega)];rfl
      grind
   rw [itF hno,hcut,sb,zwZ f run vd,sb,hlf];by_cases h0:zjH f run v=0
   ·refine ⟨⟨0,0,0⟩,met,by rw [itF (by simpa using h0)],g,?_⟩;rw [xd (by simpa using h0)];have:f.Kind≠17:=fun h17=>by
     grind [zjH]
    rw [xd this];rfl
   ·refine ⟨⟨0,((a+base:Nat):Int),zjH f run v⟩,met,by rw [itT (by simpa using h0)],g,?_⟩;rw [xe h0];exact ⟨by simp,rfl⟩
theorem zAb (hr:zop s) (hb:b.length<=1048576):∀(d uZ:Nat),d<=64->2*d+2<=uZ->∀(q A T:Nat) (met:List (zft×PVw)),q<s.length->A<=T->T<=b.length->zdR s met->
   ∃R vf,zah uZ ⟨s,b,met⟩ q A T d=some (R,vf)/\zdR s vf/\okR (zK s d q ((b.take T).drop A)) A (zfy s d q ((b.take T).drop A)) R:=by
 have step:∀(d uZ:Nat),d<=64->(∀e,d=e+1->∀(q A T:Nat) (met:List (zft×PVw)),q<s.length->A<=T->T<=b.length->zdR s met->
   ∃R vf,zah uZ ⟨s,b,met⟩ q A T e=some (R,vf)/\zdR s vf/\okR (zK s e q ((b.take T).drop A)) A (zfy s e q ((b.take T).drop A)) R)->
   ∀(q A T:Nat) (met:List (zft×PVw)),q<s.length->A<=T->T<=b.length->zdR s met->
   ∃R vf,zah (uZ+2) ⟨s,b,met⟩ q A T d=some (R,vf)/\zdR s vf/\okR (zK s d q ((b.take T).drop A)) A (zfy s d q ((b.take T).drop A)) R:=by
  intro d uZ hd ih q A T met hq hAT hT g;have hun:∀w' k' p' t' d',zah (uZ+2) w' k' p' t' d'=zcb (zah (uZ+1)) (zbV (uZ+1)) w' k' p' t' d':=fun _ _ _ _ _=>rfl
  have hm:(zB s q).Fields.length<=1152921504606846976:=by
   rw [zey hq];have:=hr.few _ (xM hq);omega
  obtain ⟨vf,D,g',hl⟩:=zxe (s:=s) hq hm hb (d:=(d:Int)) hAT hT (sub:=zpI s d) (gd:=zmK s d) (zyJ s d) (recv:=zbV (uZ+1)) (met0:=met)
   (fun met1 g1 n w i run base x y hv h1 h2 hy=>zAf hr hq hb hd hT ih met1 g1 n w i run base x y hv h1 h2 hy) 0 _ met 0 g rfl (xm _)
  have hl':zaO d q (zbV (uZ+1)) T ⟨s,b,met⟩ met (A:Int) 0=_:=hl;rw [hun,zwn,zzi];unfold zcb;simp only;rw [yN,Nat.zero_max] at hl';rw [hl',sb];cases hf:zaN (zB s q) (zpI s d) ((b.take T).drop A) (spl 0 ((b.take T).drop A)) with
  | none=>exact ⟨_,_,rfl,g',rfl⟩
  | some pc=>exact ⟨_,_,rfl,g',rfl,rfl⟩
 intro d
 induction d with
 | zero=>
  intro uZ hd hf;obtain ⟨uZ,rfl⟩:∃z,uZ=z+2:=⟨uZ - 2,by omega⟩;exact step 0 uZ hd (fun e he=>by omega)
 | succ d ih=>
  intro uZ hd hf;obtain ⟨uZ,rfl⟩:∃z,uZ=z+2:=⟨uZ - 2,by omega⟩;refine step (d+1) uZ hd (fun e he=>?_)
  grind
theorem zyO (hw:WS s) (root d:Int):zgZ s root d=some (argS s root d):=by
 unfold zgZ argS
 grind [zyu,sb]
theorem zzk (hw:WS s) (root:Int) (hb:b.length<=1048576) (d:Int) (hf:130<=uZ):
  ∃R,zhb uZ s root b d=some R/\R.place=(zam s root b d).1/\R.e=(zam s root b d).2/\((zam s root b d).2=0->R.depth=((zfy s d.toNat root b:Nat):Int)):=by
 unfold zhb zam;rw [zyO hw,sb];by_cases h:argS s root d=0
 ·obtain ⟨hr,h1,h2,h3,h4⟩:=zkr h;obtain ⟨k,rfl⟩:∃k:Nat,root=k:=⟨root.toNat,by omega⟩;obtain ⟨e,rfl⟩:∃k:Nat,d=k:=⟨d.toNat,by omega⟩;obtain ⟨R,vf,hR,_,hok⟩:=zAb hr hb e uZ (by omega) (by omega) k 0 b.length [] (by omega) (xm _) (xi _) (zdR.nil s);have hR':zah uZ ⟨s,b,[]⟩ k 0 (b.length:Int) e=some (R,vf):=hR;rw [List.take_length,yN] at hok;rw [itF (by simpa using h),xd (by simpa using h),hR',sb,xw];refine ⟨R,rfl,?_⟩;cases hfi:zK s e k b with
  | none=>
   rw [hfi] at hok;have hok':R=⟨((zfy s e k b:Nat):Int),0,0⟩:=hok
   grind
  | some pc=>
   obtain ⟨p,c⟩:=pc;rw [hfi] at hok;obtain ⟨o1,o2⟩:=hok;have:=zfz s e k b p c hfi
   grind
 ·simp_all
theorem znn (hw:WS s) (root:Int) (hb:b.length<=1048576) (d:Int) (hf:130<=uZ):zee uZ s root b d=some (zam s root b d):=by
 obtain ⟨R,hR,h1,h2,_⟩:=zzk hw root hb d hf;unfold zee
 grind
theorem zqQ {uZ:Nat} {s:List Mes} (root:Int) {a b:List UInt8} (d:Int) (hf:130<=uZ) (hw:WS s) (ha:a.length<=1048576) (hb:b.length<=1048576):zeK uZ s root a b d=some (zkQ s root [a,b] d).2.2:=by
 unfold zeK;rw [znn hw root ha d hf,sb,znn hw root hb d hf,zwf]
 grind [sb]
theorem zvP {uZ:Nat} {s:List Mes} (root:Int) {a b:List UInt8} (d:Int) (hf:130<=uZ) (hw:WS s) (ha:a.length<=1048576) (hb:b.length<=1048576):zgC uZ s root a b d=some ((zkQ s root [a,b] d).1,(zkQ s root [a,b] d).2.2):=by
 unfold zgC;rw [zqQ root d hf hw ha hb,sb,zwk (by simp) (by simp;omega),zwf]
 grind [sb]
theorem zuF {uZ:Nat} {s:List Mes} (root:Int) {b:List UInt8} (d:Int) (hf:130<=uZ) (hw:WS s) (hb:b.length<=1048576):zfa uZ s root b d=some (if (zam s root b d).2≠0 then ([],(zam s root b d).2) else (zda b,0)):=by
 unfold zfa;rw [znn hw root hb d hf,sb];by_cases h:(zam s root b d).2=0
 ·obtain ⟨ha,hfi⟩:=zkS h;obtain ⟨hr,h1,h2,h3,h4⟩:=zkr ha;obtain ⟨k,rfl⟩:∃k:Nat,root=k:=⟨root.toNat,by omega⟩;have hk:k<s.length:=by omega
  have hm:idx s (k:Int)=some (zB s k):=by rw [zad rfl hk,zey hk]
  have hmf:(zB s k).Fields.length<=200:=by rw [zey hk];exact hr.few _ (xM hk)
  have hv:=zsy hfi;have vd:=zss (zB s k) b;rw [itF (by simpa using h),xd (fun hc=>hc h),hm,sb];unfold zdn;rw [zst (by omega) hb,sb,sb];have hto:(zaD (zB s k) b).1.map (fun v=>v.R.To)=(spl 0 b).1.map (·.To):=by rw [hv,qg];rfl
  have key:∀(post ve:List Vw),(zaD (zB s k) b).1=ve++post->zcM ((zaD (zB s k) b).1.map prV) (0::ve.map (fun v=>v.R.To)) (ve.length:Nat)=some (0::(zaD (zB s k) b).1.map (fun v=>v.R.To)):=by
   intro post
   induction post with
   | nil=>
    intro ve he;refine zkK ?_;unfold zck;rw [itF (by rw [he];simp),he];simp
   | cons v post ih=>
    intro ve he;have hpl:ve.length<(zaD (zB s k) b).1.length:=by rw [he];simp
    have e:=ih (ve++[v]) (by rw [he];simp);refine (zkJ (l':=0::(ve++[v]).map (fun v=>v.R.To)) (v':=((ve.length+1:Nat):Int)) ?_).trans (by simpa using e);unfold zck;have hidx:idx ((zaD (zB s k) b).1.map prV) (ve.length:Nat)=some (prV v):=by
     have:=zyf (xs:=(zaD (zB s k) b).1.map prV) (v:=prV v) (ve:=ve.map prV) (post:=post.map prV) (by rw [he];simp);simpa using this
    rw [pv,hidx,sb,zjv (by simp;omega),sb,px];simp [prV]
  have h0:=key _ [] rfl;have h0':zcM ((zaD (zB s k) b).1.map prV) [0] 0=_:=h0;rw [h0',sb,hto];rfl
 ·rw [itT (by simpa using h),xe h]
theorem zol {m:Mes} {b:List UInt8} {v:Vw} (h:v∈(zaD m b).1):v.Field= -1/\fldI m v.R.Number= -1\/∃(i:Nat) (g:i<m.Fields.length),v.Field=i/\fldI m v.R.Number=i/\m.Fields[i].Number=v.R.Number:=by
 have hv:=(zzW h).2;rcases zeh m v.R.Number v.R.Wire with h1| ⟨h1,h2⟩| ⟨i,run,h1,h2,h3⟩
 ·rw [h1] at hv;cases hv
 ·rw [h1] at hv;simp only [Sum.inr.injEq,xS] at hv;exact .inl ⟨hv.1.symm,h2⟩
 ·rw [h1] at hv;simp only [Sum.inr.injEq,xS] at hv;rcases ziF m v.R.Number with ⟨g,_⟩| ⟨j,hj,g,gn,_⟩
  ·rw [g] at h2;omega
  ·rw [g] at h2;have:j=i:=by omega
   subst this;exact .inr ⟨j,hj,hv.1.symm,g,gn⟩
def ziI (m:Mes) (i:Int):Bool:=i != -1&& !(zX m i).Repeated&&(zX m i).Kind !=17
theorem zzO {m:Mes} (hm:m.Fields.length<=1152921504606846976) {b:List UInt8} (hb:b.length<=1048576):∃F,zdY m b=some F/\∀i,(mget F i).getD false=(((zaD m b).1.any fun v=>v.Field==i)&&ziI m i):=by
 unfold zdY zdn;rw [zst hm hb,sb,sb];have vd:=zss m b;have key:∀(post ve:List Vw) (F:List (Int×Bool)),(zaD m b).1=ve++post->(∀i,(mget F i).getD false=((ve.any fun v=>v.Field==i)&&ziI m i))->∃G,zbD m ((zaD m b).1.map prV) F (ve.length:Nat)=some G/\∀i,(mget G i).getD false=(((zaD m b).1.any fun v=>v.Field==i)&&ziI m i):=by
  intro post
  induction post with
  | nil=>
   intro ve F he hF;refine ⟨F,zjm ?_,by rw [he,qc];exact hF⟩;unfold zbe;rw [itF (by rw [he];simp)]
  | cons v post ih=>
   intro ve F he hF;have hpl:ve.length<(zaD m b).1.length:=by rw [he];simp
   have hidx:idx ((zaD m b).1.map prV) (ve.length:Nat)=some (prV v):=by
    have:=zyf (xs:=(zaD m b).1.map prV) (v:=prV v) (ve:=ve.map prV) (post:=post.map prV) (by rw [he];simp);simpa using this
   have hg:(if ((prV v).Field !=(-1))=true then (idx m.Fields (prV v).Field>>=fun x2=>if (!x2.Repeated)=true then (idx m.Fields (prV v).Field>>=fun x3=>some (x3.Kind !=17)) else some false) else some false)=some (ziI m v.Field):=by
    unfold ziI;show (if (v.Field !=(-1))=true then (idx m.Fields v.Field>>=fun x2=>if (!x2.Repeated)=true then (idx m.Fields v.Field>>=fun x3=>some (x3.Kind !=17)) else some false) else some false)=_;rcases zol (show v∈(zaD m b).1 by rw [he];simp) with ⟨h1,_⟩| ⟨i,hi,h1,_⟩
    ·rw [h1];rfl
    ·have:(v.Field !=(-1))=true:=by simp;omega
     rw [itT this,this,h1,zad rfl hi,sb,sb,zgL hi];cases (m.Fields[i]).Repeated<;>rfl
   have e:∀F',(∀i,(mget F' i).getD false=(((ve++[v]).any fun v=>v.Field==i)&&ziI m i))->∃G,zbD m ((zaD m b).1.map prV) F' ((ve.length+1:Nat):Int)=some G/\∀i,(mget G i).getD false=(((zaD m b).1.any fun v=>v.Field==i)&&ziI m i):=fun F' h=>by
    have:=ih (ve++[v]) F' (by rw [he];simp) h;simpa using this
   cases hlo:ziI m v.Field with
   | true=>
    obtain ⟨G,g1,g2⟩:=e (mput F v.Field true) fun i=>by
     rw [zif,ql];by_cases hi:i=v.Field
     ·rw [xe hi,hi,hlo];simp
     ·rw [xd hi,hF];have:(v.Field==i)=false:=by simpa using fun h=>hi h.symm
      simp [this]
    refine ⟨G,(zfr (fields':=mput F v.Field true) (v':=((ve.length+1:Nat):Int)) ?_).trans g1,g2⟩;unfold zbe;rw [pv,hidx,sb,hg,sb,itT hlo,px];rfl
   | false=>
    obtain ⟨G,g1,g2⟩:=e F fun i=>by
     rw [hF,ql];by_cases hi:v.Field=i
     ·rw [<-hi,hlo];simp
     ·have:(v.Field==i)=false:=by simpa using hi
      simp [this]
    refine ⟨G,(zfr (fields':=F) (v':=((ve.length+1:Nat):Int)) ?_).trans g1,g2⟩;unfold zbe;rw [pv,hidx,sb,hg,sb,itF hlo,px];rfl
 obtain ⟨G,g1,g2⟩:=key _ [] [] rfl (fun i=>by simp [mget]);have g1':zbD m ((zaD m b).1.map prV) [] 0=some G:=g1;exact ⟨G,by rw [g1',sb],g2⟩
theorem zyh {uZ:Nat} {s:List Mes} (root:Int) {a b:List UInt8} (d:Int) (hf:130<=uZ) (hw:WS s) (ha:a.length<=1048576) (hb:b.length<=1048576):zfD uZ s root a b d=some (if (zkQ s root [a,b] d).2.2≠0 then (0,(zkQ s root [a,b] d).2.2) else (((zrV (zB s root) a b:Nat):Int),0)):=by
 unfold zfD;rw [zqQ root d hf hw ha hb,sb];by_cases h:(zkQ s root [a,b] d).2.2=0
 ·have harg:argS s root d=0:=by
   by_cases g:argS s root d=0
   ·exact g
   ·unfold zkQ at h;rw [xe g] at h;exact absurd h g
  obtain ⟨hr,h1,h2,h3,h4⟩:=zkr harg;obtain ⟨k,rfl⟩:∃k:Nat,root=k:=⟨root.toNat,by omega⟩;have hk:k<s.length:=by omega
  have hm:idx s (k:Int)=some (zB s k):=by rw [zad rfl hk,zey hk]
  have hmf:(zB s k).Fields.length<=200:=by rw [zey hk];exact hr.few _ (xM hk)
  rw [itF (by simpa using h),xd (fun hc=>hc h),hm,sb]
  generalize zB s (k:Int)=m at hmf|-
  obtain ⟨F,hF,hFi⟩:=zzO (m:=m) (by omega) hb;rw [hF,sb];unfold zdn;rw [zst (by omega) ha,sb,sb];have vd:=zss m a;have hp:∀v∈(zaD m a).1,(mget F v.Field).getD false=(decide (0<=v.Field)&&(zaD m b).1.any (fun u=>u.R.Number==v.R.Number)&& !(zX m v.Field).Repeated&&(zX m v.Field).Kind !=17):=fun v hv=>by
   rw [hFi];unfold ziI;rcases zol hv with ⟨e1,e2⟩| ⟨i,hi,e1,e2,e3⟩
   ·rw [e1];simp
   ·have hany:((zaD m b).1.any fun u=>u.Field==v.Field)=(zaD m b).1.any (fun u=>u.R.Number==v.R.Number):=by
     rw [xX,qx,qx];constructor
     ·rintro ⟨u,hu,he⟩;refine ⟨u,hu,?_⟩;have he':u.Field=v.Field:=by simpa using he
      rcases zol hu with ⟨f1,f2⟩| ⟨j,hj,f1,f2,f3⟩
      ·omega
      ·have:j=i:=by omega
       subst this;simp [<-f3,e3]
     ·rintro ⟨u,hu,he⟩;refine ⟨u,hu,?_⟩;have he':u.R.Number=v.R.Number:=by simpa using he
      rw [<-he'] at e2;rcases zol hu with ⟨f1,f2⟩| ⟨j,hj,f1,f2,f3⟩
      ·omega
      ·simp;omega
    have e4:(v.Field != -1)=true:=by simp;omega
    have e5:decide (0<=v.Field)=true:=by simp;omega
    rw [hany,e4,e5,qd,qd,Bool.and_assoc]
  have key:∀(post ve:List Vw),(zaD m a).1=ve++post->zdJ F ((zaD m a).1.map prV) ((ve.filter fun v=>(mget F v.Field).getD false).length:Nat) (ve.length:Nat)=some ((((zaD m a).1.filter fun v=>(mget F v.Field).getD false).length:Nat):Int):=by
   intro post
   induction post with
   | nil=>
    intro ve he;refine zma ?_;unfold zcr;rw [itF (by rw [he];simp),he,qc]
   | cons v post ih=>
    intro ve he;have hpl:ve.length<(zaD m a).1.length:=by rw [he];simp
    have hfl:=List.length_filter_le (fun v=>(mget F v.Field).getD false) ve;have hidx:idx ((zaD m a).1.map prV) (ve.length:Nat)=some (prV v):=by
     have:=zyf (xs:=(zaD m a).1.map prV) (v:=prV v) (ve:=ve.map prV) (post:=post.map prV) (by rw [he];simp);simpa using this
    have e:=ih (ve++[v]) (by rw [he];simp);rw [List.filter_append,xH,xH] at e;cases hv:(mget F v.Field).getD false with
    | true=>
     refine (zhv (gone':=(((ve.filter fun v=>(mget F v.Field).getD false).length+1:Nat):Int)) (v':=((ve.length+1:Nat):Int)) ?_).trans (by simpa [hv] using e);unfold zcr;rw [pv,hidx,sb,itT (show (mget F (prV v).Field).getD false=true from hv),px,px];rfl
    | false=>
     refine (zhv (gone':=(((ve.filter fun v=>(mget F v.Field).getD false).length:Nat):Int)) (v':=((ve.length+1:Nat):Int)) ?_).trans (by simpa [hv] using e);unfold zcr;rw [pv,hidx,sb,itF (show (mget F (prV v).Field).getD false=false from hv),px];rfl
  have h0:=key _ [] rfl;have h0':zdJ F ((zaD m a).1.map prV) 0 0=_:=h0;rw [h0',sb];unfold zrV;rw [List.filter_congr hp]
 ·rw [itT (by simpa using h),xe h]
end Go.Proofs.YtnckiilakdkklaaGreat
