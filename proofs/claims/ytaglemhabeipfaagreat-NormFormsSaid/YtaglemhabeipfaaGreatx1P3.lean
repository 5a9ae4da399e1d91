/-
  What the plain functions are. No condition.
-/
import Derived.Test.YtaglemhabeipfaaGreatx1P2
import Derived.Test.YtaglemhabeipfaaGreatx1P1
import Derived.Test.YtaglemhabeipfaaGreatx1K1
import Derived.Test.YtaglemhabeipfaaGreatx1S1
set_option autoImplicit true
set_option relaxedAutoImplicit true
namespace Go.Proofs.YtaglemhabeipfaaGreat
open Go
set_option linter.unusedVariables false
def zbc (f:Fld) (T:List Th):List Th:=if f.Repeated=true then T else T.drop (T.length - 1)
def valT (g:Int->List UInt8->Msg) (f:Fld) (T:List Th):Vlu:=
 if f.Kind=17 then ⟨f.Number,[],[],if f.Repeated=true then T.map fun t=>g f.Of t.val else [g f.Of (T.flatMap (·.val))]⟩
 else if f.Kind=15\/f.Kind=16 then ⟨f.Number,[],(zbc f T).map (·.val),[]⟩
 else ⟨f.Number,(zbc f T).flatMap (fun t=>(zag f.Kind t.val).1),[],[]⟩
theorem zpb (g:Int->List UInt8->Msg) (f:Fld) (i:Int):∀(l:List Th) (a:zcu),accF g f i a l=(l.filter fun t=>t.fi==i).foldl (stp g f) a
 | [],a=>rfl
 | t::l,a=>by
  rw [accF,yD];by_cases h:t.fi=i
  ·rw [xr h,xr (by simpa using h),yi];exact zpb g f i l _
  ·rw [xq h,xq (by simpa using h)];exact zpb g f i l _
def OkF (f:Fld) (t:Th):Prop:=(t.run=true->kNum f.Kind=true/\f.Repeated=true)/\(t.run=false->zbb f.Kind=true/\zbt (zab f.Kind) t.val=true)
theorem zvO :zbc f (t::u::T)=if f.Repeated=true then t::u::T else zbc f (u::T):=by
 unfold zbc;simp_all
theorem zEi (g:Int->List UInt8->Msg) (hk:kNum f.Kind=true):∀(T:List Th) (a:zcu),T≠[]->(∀t∈T,OkF f t)->
  T.foldl (stp g f) a=(a.1,true,(if f.Repeated=true then a.2.2.1 else [])++(zbc f T).flatMap (fun t=>(zag f.Kind t.val).1),(if f.Repeated=true then a.2.2.2.1 else []),a.2.2.2.2)
 | [],a,h,_=>absurd rfl h
 | [t],a,_,ht=>by
  obtain ⟨h1,h2⟩:=ht t xt;have hp:zbc f [t]=[t]:=by unfold zbc;simp
  rw [hp,yi,ue]
  grind [stp,sb,wrap_i64,zsy]
 | t::u::T,a,_,ht=>by
  obtain ⟨h1,h2⟩:=ht t xt;have hst:stp g f a t=(a.1,true,(if f.Repeated=true then a.2.2.1 else [])++(zag f.Kind t.val).1,(if f.Repeated=true then a.2.2.2.1 else []),a.2.2.2.2):=by
   grind [stp,sb,wrap_i64,zsy]
  rw [yi,hst,zEi g hk (u::T) _ (by simp) fun x hx=>ht x (xu _ hx),zvO];cases hr:f.Repeated
  ·simp
  ·have hp:zbc f (u::T)=u::T:=by unfold zbc;rw [xr hr]
   rw [hp];simp
theorem zAY (g:Int->List UInt8->Msg) (hk:kNum f.Kind=false) (kq:f.Kind≠17):∀(T:List Th) (a:zcu),T≠[]->(∀t∈T,OkF f t)->
  T.foldl (stp g f) a=(a.1,true,(if f.Repeated=true then a.2.2.1 else []),(if f.Repeated=true then a.2.2.2.1 else [])++(zbc f T).map (·.val),a.2.2.2.2)
 | [],a,h,_=>absurd rfl h
 | [t],a,_,ht=>by
  obtain ⟨h1,h2⟩:=ht t xt;have hp:zbc f [t]=[t]:=by unfold zbc;simp
  have hr:t.run=false:=by
   grind
  rw [hp,yi,ue];unfold stp
  grind
 | t::u::T,a,_,ht=>by
  obtain ⟨h1,h2⟩:=ht t xt;have hr:t.run=false:=by
   grind
  have hst:stp g f a t=(a.1,true,(if f.Repeated=true then a.2.2.1 else []),(if f.Repeated=true then a.2.2.2.1 else [])++[t.val],a.2.2.2.2):=by
   unfold stp
   grind
  rw [yi,hst,zAY g hk kq (u::T) _ (by simp) fun x hx=>ht x (xu _ hx),zvO];cases hr:f.Repeated
  ·simp
  ·have hp:zbc f (u::T)=u::T:=by unfold zbc;rw [xr hr]
   rw [hp];simp
theorem zAX (g:Int->List UInt8->Msg) (kq:f.Kind=17) (hr:f.Repeated=true):∀(T:List Th) (a:zcu),(∀t∈T,OkF f t)->(T≠[]\/a.2.1=true)->
  T.foldl (stp g f) a=(a.1,true,a.2.2.1,a.2.2.2.1,a.2.2.2.2++T.map fun t=>g f.Of t.val)
 | [],a,_,h=>by
  grind
 | t::T,a,ht,_=>by
  obtain ⟨h1,h2⟩:=ht t xt;have hrn:t.run=false:=by
   cases hr:t.run
   ·rfl
   ·have:=(h1 hr).1;rw [kq] at this;cases this
  have hst:stp g f a t=(a.1,true,a.2.2.1,a.2.2.2.1,a.2.2.2.2++[g f.Of t.val]):=by
   unfold stp;rw [hrn,xq (by simp),xq (by rw [kq];decide),xr ⟨kq,hr⟩,xr hr,xr hr]
  rw [yi,hst,zAX g kq hr T _ (fun x hx=>ht x (xu _ hx)) (.inr rfl)];simp
theorem zEk (g:Int->List UInt8->Msg) (kq:f.Kind=17) (hr:f.Repeated=false):∀(T:List Th) (a:zcu),(∀t∈T,OkF f t)->T≠[]->
  T.foldl (stp g f) a=(a.1++T.flatMap (·.val),true,[],[],a.2.2.2.2)
 | [],a,_,h=>absurd rfl h
 | [t],a,ht,_=>by
  obtain ⟨h1,h2⟩:=ht t xt;have hrn:t.run=false:=by
   grind
  rw [yi,ue];unfold stp;rw [hrn,xq (by simp),xq (by rw [kq];decide),xq (by rw [hr];simp),xr kq,hr];simp
 | t::u::T,a,ht,_=>by
  obtain ⟨h1,h2⟩:=ht t xt;have hrn:t.run=false:=by
   grind
  have hst:stp g f a t=(a.1++t.val,true,[],[],a.2.2.2.2):=by
   unfold stp;rw [hrn,xq (by simp),xq (by rw [kq];decide),xq (by rw [hr];simp),xr kq,hr];simp
  rw [yi,hst,zEk g kq hr (u::T) _ (fun x hx=>ht x (xu _ hx)) (by simp)];simp
theorem zQg (g:Int->List UInt8->Msg) (hkr:zbb f.Kind=true) (hT:T≠[]) (ht:∀t∈T,OkF f t):valO g f (T.foldl (stp g f) acc0)=valT g f T:=by
 unfold valT;by_cases kq:f.Kind=17
 ·rw [xr kq];cases hr:f.Repeated
  ·rw [zEk g kq hr T acc0 ht hT];unfold valO;rw [xr ⟨rfl,kq,hr⟩];simp [acc0]
  ·rw [zAX g kq hr T acc0 ht (.inl hT)];unfold valO;rw [xq (by rw [hr];simp)];simp [acc0]
 ·rw [xq kq];by_cases hx:f.Kind=15\/f.Kind=16
  ·rw [xr hx,zAY g (by unfold kNum;simp;omega) kq T acc0 hT ht];unfold valO;simp only;rw [xq (show ¬(True/\f.Kind=17/\f.Repeated=false) from fun h=>kq h.2.1)];cases f.Repeated<;>simp [acc0]
  ·have hk:kNum f.Kind=true:=by unfold zbb at hkr;unfold kNum;simp at hkr|-;omega
   rw [xq hx,zEi g hk T acc0 hT ht];unfold valO;simp only;rw [xq (show ¬(True/\f.Kind=17/\f.Repeated=false) from fun h=>kq h.2.1)];cases f.Repeated<;>simp [acc0]
def At14 (b:List UInt8) (L:List Vw):Prop:=∀t∈L,0<=t.R.From/\t.R.From<t.R.At/\t.R.At<=t.R.To/\t.R.To<=b.length
theorem zMY (h:At14 b L) (ht:t∈L):cut b t.R.At t.R.To=some (valB b t.R):=by
 obtain ⟨r1,r2,r3,r4⟩:=h t ht;obtain ⟨x,hx1⟩:∃x:Nat,t.R.At=x:=⟨t.R.At.toNat,by omega⟩;obtain ⟨y,hy1⟩:∃x:Nat,t.R.To=x:=⟨t.R.To.toNat,by omega⟩;rw [zgC hx1 hy1 (by omega) (by omega)];unfold valB;rw [hx1,hy1];simp only [xD]
theorem zCu (h:At14 b L) (ht:t∈L):cut b t.R.From t.R.To=some (rawB b t.R):=by
 obtain ⟨r1,r2,r3,r4⟩:=h t ht;obtain ⟨x,hx1⟩:∃x:Nat,t.R.From=x:=⟨t.R.From.toNat,by omega⟩;obtain ⟨y,hy1⟩:∃x:Nat,t.R.To=x:=⟨t.R.To.toNat,by omega⟩;rw [zgC hx1 hy1 (by omega) (by omega)];unfold rawB;rw [hx1,hy1];simp only [xD]
theorem zNl {L:List Vw} {i:Nat} (h:i<L.length):idx (L.map prV) (i:Int)=some (prV L[i]):=by
 rw [zP rfl (show i<(L.map prV).length by simpa using h)];simp
def kn14 (acc:List (Int×List PVw)) (v:Vw):List (Int×List PVw):=if v.Field= -1 then acc else mput acc v.R.Number ((mget acc v.R.Number).getD []++[prV v])
def zeq (L:List Vw) (n:Int):List Vw:=L.filter fun v=>decide (v.Field≠ -1/\v.R.Number=n)
theorem zCQ {κ ν:Type} [DecidableEq κ] (m:List (κ×ν)) (k j:κ) (x:ν):j∈(mput m k x).map Prod.fst↔j∈m.map Prod.fst\/j=k:=by
 rw [zkr];cases h:mget m k with
 | none=>simp
 | some y=>
  simp only;exact ⟨.inl,fun h'=>h'.elim id fun e=>e▸zLA h⟩
theorem zIh (n:Int):∀(L:List Vw) (acc:List (Int×List PVw)),n∈(L.foldl kn14 acc).map Prod.fst↔n∈acc.map Prod.fst\/∃v∈L,v.Field≠ -1/\v.R.Number=n
 | [],acc=>by simp
 | v::L,acc=>by
  rw [yi,zIh n L]
  grind [kn14,sb,wrap_i64,zCQ]
theorem zEH:∀(L:List Vw) (acc:List (Int×List PVw)),(acc.map Prod.fst).Nodup->((L.foldl kn14 acc).map Prod.fst).Nodup
 | [],acc,h=>h
 | v::L,acc,h=>by
  rw [yi];refine zEH L _ ?_
  grind [kn14,sb,wrap_i64,zpw]
theorem zER {κ ν:Type} [DecidableEq κ] (m:List (κ×ν)) (k:κ) (x:ν):(mput m k x).length<=m.length+1:=by
 have h:=congrArg List.length (zkr m k x)
 grind
theorem zGI:∀(L:List Vw) (acc:List (Int×List PVw)),(L.foldl kn14 acc).length<=acc.length+L.length
 | [],acc=>by simp
 | v::L,acc=>by
  rw [yi];have h:=zGI L (kn14 acc v);have h2:(kn14 acc v).length<=acc.length+1:=by
   grind [kn14,sb,wrap_i64,zER]
  grind
theorem zwr {L:List Vw} (hwf:∀v∈L,v.Field≠ -1->(Lit.int .i64 v.R.Number).wf=true) (hL:L.length<=1048576):
  ∃ks,zoA (L.foldl kn14 [])=some ks/\ks.Pairwise (·<·)/\∀n,n∈ks↔∃v∈L,v.Field≠ -1/\v.R.Number=n:=by
 have ku:=zGI L [];have hnd:=zEH L [] (by simp);have hk:=fun n=>zIh n L []
 generalize L.foldl kn14 []=K at ku hnd hk
 refine ⟨(K.map Prod.fst).mergeSort fun x y=>decide (x<=y),?_,?_,fun n=>?_⟩
 ·have hall:(K.all fun p=>(Lit.int .i64 p.1).wf)=true:=by
   rw [xI];intro p hp;obtain h| ⟨v,hv,hf,hn⟩:=(hk p.1).1 (yP hp)
   ·simp at h
   grind
  have hl:K.length*8<=140737488355328:=by rw [yv] at ku;omega
  unfold zoA;rw [zHo]
  grind
 ·have hp:=List.mergeSort_perm (K.map Prod.fst) fun x y=>decide (x<=y)
  have hs:=List.pairwise_mergeSort (le:=fun x y:Int=>decide (x<=y)) (fun a b c h k=>by simp at*;omega) (fun a b=>by simp;omega) (K.map Prod.fst);have hnd':=hp.nodup_iff.2 hnd
  generalize (K.map Prod.fst).mergeSort (fun x y=>decide (x<=y))=ks at hs hnd'
  refine (List.Pairwise.and hs hnd').imp fun {a b} h=>?_
  grind
 ·simp_all
theorem zwD:∀(l k:List Int),l.Pairwise (·<·)->k.Pairwise (·<·)->(∀w,w∈l↔w∈k)->l=k
 | [],[],_,_,_=>rfl
 | [],y::k,_,_,h=>absurd ((h y).2 xt) (by simp)
 | x::l,[],_,_,h=>absurd ((h x).1 xt) (by simp)
 | x::l,y::k,hl,hk,h=>by
  have hl':=yd.1 hl;have hk':=yd.1 hk;have hxy:x=y:=by
   rcases xy.1 ((h x).1 xt) with h1| h1
   ·exact h1
   ·rcases xy.1 ((h y).2 xt) with h2| h2
    ·exact h2.symm
    grind
  subst hxy;congr 1;refine zwD l k hl'.2 hk'.2 fun w=>?_
  grind
theorem zyg {α:Type} (vo:Int->α) (p:α->Bool) (met:Int->Bool):∀(o:List Int),(∀i∈o,met i=false->p (vo i)=false)->(o.map vo).filter p=((o.filter met).map vo).filter p
 | [],_=>rfl
 | i::o,h=>by
  have ih:=zyg vo p met o fun j hj=>h j (xu _ hj)
  grind
theorem zvy:∀(T:List Th),(T.flatMap (·.val)).length+T.length<=wt T
 | []=>by simp [wt]
 | t::T=>by have:=zvy T;rw [xE,xz,yk,wt];omega
theorem zpq {s:List Mes} {e:Nat} {k:Int}:∀(l:List (List UInt8)),(∀v∈l,zH s e k v=none)->zH s e k l.flatten=none
 | [],_=>by rw [List.flatten_nil];exact znp s e k
 | v::l,h=>by
  rw [qt];exact (zid s e k l.flatten (h v xt)).2 (zpq l fun u hu=>h u (xu _ hu))
theorem zvJ {s:List Mes} (hs:zca s) {d k:Nat} {b:List UInt8} (hk:k<s.length) (hfi:zH s d k b=none) {ks:List Int} (hkp:ks.Pairwise (·<·)) (hkm:∀n,n∈ks↔∃v∈(zai (zm s (k:Int)) b).1,v.Field≠ -1/\v.R.Number=n):
  (∀n∈ks,∃i:Nat,i<(zm s (k:Int)).Fields.length/\(zt (zm s (k:Int)) i).Number=n/\fldI (zm s (k:Int)) n=i/\zeq (zai (zm s (k:Int)) b).1 n≠[]/\(∀v∈zeq (zai (zm s (k:Int)) b).1 n,v.Field=i)/\
   ∀t∈(zeq (zai (zm s (k:Int)) b).1 n).map (thOf b),OkF (zt (zm s (k:Int)) i) t/\OkT s d (zm s (k:Int)) t/\t.fi=i)/\
  (ofM s k b).Values=((ks.map fun n=>valT (ofM s) (zt (zm s (k:Int)) (fldI (zm s (k:Int)) n)) ((zeq (zai (zm s (k:Int)) b).1 n).map (thOf b))).filter fun v=>decide (0<zas v))/\(ofM s k b).Unknown=unkO ((zai (zm s (k:Int)) b).1.map (thOf b)):=by
 have hmm:zm s (k:Int)∈s:=by rw [zbq hk];exact xB hk
 have hfld:=hs.fld _ hmm;have kz:=zFG hfi;have hris:=zuR hs hmm;have hat9:=fun {i:Int} (h0:0<=i) (h1:i<(zm s (k:Int)).Fields.length)=>zue hs hmm h0 h1
 rw [zks];have hvk:∀v∈(zai (zm s (k:Int)) b).1,v.Field= -1\/0<=v.Field/\v.Field<(zm s (k:Int)).Fields.length/\fldI (zm s (k:Int)) v.R.Number=v.Field/\(zt (zm s (k:Int)) v.Field).Number=v.R.Number:=by
  intro v hv;have h:=(zDD hv).2;rcases zdE (zm s (k:Int)) v.R.Number v.R.Wire with h1| ⟨h1,_⟩| ⟨i,run,h1,h2,h3⟩
  ·grind
  ·grind
  ·rw [h] at h1;simp only [uM,yy] at h1;refine .inr ⟨by omega,by omega,by rw [h2,h1.1],?_⟩;rcases zcX (zm s (k:Int)) v.R.Number with ⟨g1,_⟩| ⟨j,hj,g1,g2,_⟩
   ·omega
   ·rw [h1.1,<-h2,g1,zbe hj,g2]
 have hths:ths (zm s (k:Int)) b=(zai (zm s (k:Int)) b).1.map (thOf b):=rfl;rw [hths] at kz|-
 generalize zm s (k:Int)=m at hmm hfld kz hris hat9 hvk hkm|-
 generalize (zai m b).1=L at kz hvk hkm|-
 let vo:Int->Vlu:=fun i=>valO (ofM s) (zt m i) (accF (ofM s) (zt m i) i acc0 (L.map (thOf b)))
 have hby:∀{i:Int},0<=i->i<m.Fields.length->(zeq L (zt m i).Number).map (thOf b)=(L.map (thOf b)).filter fun t=>t.fi==i:=fun {i} h0 h1=>by
  unfold zeq;rw [qC];congr 1;refine uN fun v hv=>?_
  show decide (v.Field≠ -1/\v.R.Number=(zt m i).Number)=(v.Field==i)
  grind
 have hmem:∀{i:Int},0<=i->i<m.Fields.length->∀t∈(zeq L (zt m i).Number).map (thOf b),OkF (zt m i) t/\OkT s d m t/\t.fi=i:=fun {i} h0 h1 t ht=>by
  rw [hby h0 h1,xW] at ht;have hfi':t.fi=i:=by simpa using ht.2
  have ho:=kz t ht.1;refine ⟨⟨fun hr=>?_,fun hr=>?_⟩,ho,hfi'⟩
  ·have:=ho.run (by omega) hr
   grind
  ·have:=ho.one (by omega) hr
   grind
 have hvoT:∀{i:Int},0<=i->i<m.Fields.length->zeq L (zt m i).Number≠[]->vo i=valT (ofM s) (zt m i) ((zeq L (zt m i).Number).map (thOf b)):=fun {i} h0 h1 kO=>by
  have hT:=hby h0 h1;have hm:=hmem h0 h1;obtain ⟨j,rfl⟩:∃j:Nat,i=j:=⟨i.toNat,by omega⟩;have hjl:j<m.Fields.length:=by omega
  have hkr:zbb (zt m (j:Int)).Kind=true:=by rw [zbe hjl];exact (hfld _ (xB hjl)).kind
  show valO _ _ (accF _ _ _ _ _)=_;rw [zpb,<-hT,zQg _ hkr (by simpa using kO) fun t ht=>(hm t ht).1]
 have hkn:∀n∈ks,∃i:Nat,i<m.Fields.length/\(zt m (i:Int)).Number=n/\fldI m n=i/\zeq L n≠[]/\∀v∈zeq L n,v.Field=i:=fun n hn=>by
  obtain ⟨v,hv,hf,hnn⟩:=(hkm n).1 hn;obtain ⟨g0,g1,g2,g3⟩:=(hvk v hv).resolve_left hf;obtain ⟨j,hj⟩:∃j:Nat,v.Field=j:=⟨v.Field.toNat,by omega⟩;refine ⟨j,by omega,by rw [<-hj,g3,hnn],by rw [<-hnn,g2,hj],fun e=>?_,fun u hu=>?_⟩
  ·have:v∈zeq L n:=xW.2 ⟨hv,by simp [hf,hnn]⟩;rw [e] at this;cases this
  ·obtain ⟨hu1,hu2⟩:=xW.1 hu;obtain ⟨q1,q2⟩:=yx hu2;have:=(hvk u hu1).resolve_left q1;rw [<-this.2.2.1,q2,<-hnn,g2,hj]
 refine ⟨fun n hn=>?_,?_,rfl⟩
 ·obtain ⟨i,h1,h2,h3,h4,h5⟩:=hkn n hn;refine ⟨i,h1,h2,h3,h4,h5,?_⟩;have:=hmem (i:=(i:Int)) (by omega) (by omega);rw [h2] at this;exact this
 have e0:(ks.map fun n=>valT (ofM s) (zt m (fldI m n)) ((zeq L n).map (thOf b)))=ks.map fun w=>vo (fldI m w):=qk fun n hn=>by
  obtain ⟨i,h1,h2,h3,h4,h5⟩:=hkn n hn;have:=hvoT (i:=(i:Int)) (by omega) (by omega) (by rw [h2];exact h4);rw [h3,this,h2]
 rw [e0];show ((zcx (zaV m) m.Fields.length).map vo).filter (fun v=>decide (0<zas v))=_;rw [zyg vo (fun v=>decide (0<zas v)) (fun i=> !(zeq L (zt m i).Number).isEmpty) _ fun i hi hme=>?_]
 ·have hsub:∀i∈(zcx (zaV m) m.Fields.length).filter (fun i=> !(zeq L (zt m i).Number).isEmpty),0<=i/\i<m.Fields.length:=fun i hi=>zen.1 (xW.1 hi).1
  have hks2:((zcx (zaV m) m.Fields.length).filter (fun i=> !(zeq L (zt m i).Number).isEmpty)).map (zaV m)=ks:=by
   refine zwD _ _ ?_ hkp fun w=>?_
   ·grind
   ·rw [xA];constructor
    ·rintro ⟨i,hi,rfl⟩;obtain ⟨hi1,hi2⟩:=xW.1 hi;have kO:zeq L (zt m i).Number≠[]:=by
      grind
     obtain ⟨v0,r0,hv0⟩:=ud kO;have hv0m:v0∈zeq L (zt m i).Number:=by rw [hv0];exact xt
     obtain ⟨q1,q2⟩:=xW.1 hv0m;obtain ⟨q3,q4⟩:=yx q2;exact (hkm _).2 ⟨v0,q1,q3,q4⟩
    ·intro hw;obtain ⟨i,h1,h2,h3,h4,_⟩:=hkn w hw;exact ⟨i,xW.2 ⟨zen.2 ⟨by omega,by omega⟩,by rw [h2];simpa using h4⟩,h2⟩
  have e1:(ks.map fun w=>vo (fldI m w))=((zcx (zaV m) m.Fields.length).filter (fun i=> !(zeq L (zt m i).Number).isEmpty)).map vo:=by
   rw [<-hks2,yC];refine qk fun i hi=>?_
   show vo (fldI m (zaV m i))=vo i;rw [zqQ,hat9 (hsub i hi).1 (hsub i hi).2]
  rw [e1]
 ·obtain ⟨h0,h1⟩:=zen.1 hi;have hbe:zeq L (zt m i).Number=[]:=by simpa using hme
  have hT:=hby h0 h1;rw [hbe] at hT;have hvo:vo i=valO (ofM s) (zt m i) acc0:=by
   show valO _ _ (accF _ _ _ _ _)=_;rw [zpb,<-hT];rfl
  rw [hvo];rfl
structure zAI (l:List zal):Prop where
 sorted:l.Pairwise (fun a b=>zdQ a b=true)
 full:∀w∈l,w≠[]
 anti:∀v∈l,∀w∈l,v<+:w->v=w
theorem zAI.of (h:zAI l):ofW l=l:=
 zwI _ _ (zGU l) h.sorted fun w=>by
  rw [zIy];exact ⟨fun k=>k.1,fun hw=>⟨hw,h.full w hw,fun v hv _ hp=>h.anti v hv w hw hp⟩⟩
theorem zAI.filter (h:zAI l) (p:zal->Bool):zAI (l.filter p):=
 ⟨h.sorted.filter p,fun w hw=>h.full w (xW.1 hw).1,fun v hv w hw=>h.anti v (xW.1 hv).1 w (xW.1 hw).1⟩
structure Fo (pre acc:List zal):Prop where
 mask:zAI acc
 has:∀v,hasB acc v=hasB pre v
 mem:∀a∈acc,a∈pre
abbrev zQn:=List (zOW×Int)
structure Trie (t:zQn) (A:List zal) (P:List (zal×Int)):Prop where
 root:([],0)∈P
 same:∀p∈P,∀q∈P,(p.2=q.2↔p.1=q.1)
 ids:∀p∈P,0<=p.2/\p.2<=t.length
 keys:∀(i n:Int),(t.length:Int)<i->mget t ⟨i,n⟩=none
 leaf:∀p∈P,∀n,p.1++[n]∈A->mget t ⟨p.2,n⟩=some (-1)
 node:∀p∈P,∀n,∀q∈P,q.1=p.1++[n]->mget t ⟨p.2,n⟩=some q.2
 none:∀p∈P,∀n,p.1++[n]∉A->(∀q∈P,q.1≠p.1++[n])->mget t ⟨p.2,n⟩=none
 clo:∀q∈P,∀p n,q.1=p++[n]->∃i,(p,i)∈P
 comp:∀a∈A,∀p,p<+:a->p≠a->∃i,(p,i)∈P
 anti:∀v∈A,∀w∈A,v<+:w->v=w
 full:∀a∈A,a≠[]
section
end
def UW (w:List zal):Prop:=w.length<=4194304/\∀x∈w,x.length<=4194304
theorem UW.of (h:UW w):UW (ofW w):=⟨yg (zNP w) h.1,fun x hx=>h.2 x (zIy.1 hx).1⟩
theorem UW.filter (h:UW w) (p:zal->Bool):UW (w.filter p):=⟨yg (pz _ _) h.1,fun x hx=>h.2 x (xW.1 hx).1⟩
structure Ok15 (fuel:Nat) (x:Msg):Prop where
 b:bdM x
 s:smM x
 z:2*szM x<fuel
 d:szM x<=131072
theorem Ok15.dm (h:Ok15 fuel x):dM x<=131072:=by have:=zQv x;have:=h.d;omega
theorem Ok15.right {fuel:Nat} {x:Msg} (h:Ok15 fuel x) {s:List Mes} (hw:WS s) (root:Int):ztE fuel s root x=some (zlq s&&zay s x root):=zHt root h.z hw h.b h.s h.dm
theorem Ok15.copy {fuel:Nat} {x:Msg} (h:Ok15 fuel x):zvZ fuel x=some x:=zMA (by have:=h.z;omega) h.b h.dm
def jv15 (s:List Mes) (a:Msg) (k:Int) (v:Vlu):Vlu:=zhl s v (look a.Values v.Number) (zt (zm s k) (fldI (zm s k) v.Number))
structure Jm (s:List Mes) (a:Msg) (k:Int) (t:List Vlu) (q:List (Int×Vlu)):Prop where
 nd:(q.map Prod.fst).Nodup
 get:∀n,mget q n=match look t n with
  | some v=>some (jv15 s a k v)
  | none=>look a.Values n
 len:q.length<=a.Values.length+t.length
theorem Jm.put (h:Jm s a k t q) (hn:look t v.Number=none):Jm s a k (t++[v]) (mput q v.Number (jv15 s a k v)):=by
 refine ⟨zpw h.nd _ _,fun n=>?_,?_⟩
 ·rw [zfR,zqY];by_cases e:n=v.Number
  ·subst e;rw [xr rfl,hn];simp only;rw [zdk,xr rfl]
  ·rw [xq e,h.get];cases hl:look t n with
   | some u=>rfl
   | none=>
    simp only;rw [zdk,xq (fun e'=>e e'.symm)];rfl
 ·have:=zER q v.Number (jv15 s a k v);have:=h.len;rw [xz,qv];omega
structure Ok16 (fuel:Nat) (x:Msg):Prop where
 b:bdM x
 s:smM x
 z:2*szM x<fuel
 w:wgM x<=30000
theorem zOQ {k:Int} (h:kNum k=true):(sPut k 0).length=if 12<=k then 8 else if 9<=k then 4 else 1:=by
 have hc:zbg k 0=0:=by
  unfold zbg;simp [zpV,sgnS]
 unfold sPut zkz;rw [hc];split
 ·rfl
 ·split
  ·rfl
  ·rw [show (0:Int).toNat=0 from rfl,zth (by omega)];rfl
theorem zBn (k:Int):zhu k=some (kNum k):=by
 unfold zhu;rw [zzI (by omega),sb];cases h:kNum k with
 | false=>rfl
 | true=>
  have:=zOQ h;simp only [yu];congr 1;rw [this];split
  ·rfl
  ·split<;>rfl
theorem zLF {k:Int} (h:kNum k=true):zlO k=some (zab k):=by
 have hs:=zOQ h;unfold zlO;rw [zzI (by omega),sb,h,xr rfl,hs];clear hs;have hk:1<=k/\k<=14:=yx h;unfold zab;by_cases h1:12<=k
 ·simp [h1,show ¬(15<=k) by omega]
 ·by_cases h2:9<=k
  ·simp [h1,h2,show ¬(15<=k) by omega]
  ·simp [h1,h2,show ¬(15<=k) by omega]
theorem zCT {out v:List UInt8} {n w:Int} (ho:out.length<=70368744177664) (hv:v.length<=1048576) (hr:zaU n w=true) (hf:zbt w v=true):zmw out n w v=some (out++put5 n w v):=by
 have hp:=zEX hr hv;unfold zmw;rw [zII (by simp) hv,sb,xr ⟨hr,hf⟩,xH,zaQ (by simp only;omega),sb]
theorem zJE {n:Int} (hr:zaU n 2=true) {z:Nat} (hz:z<=70368744177664):zmv n (z:Int)=some (enc (tW n 2)++enc z):=by
 obtain ⟨_,km⟩:=zsZ hr;have h1:=ziL (v:=tW n 2) (by omega);have h2:=ziL (v:=z) (by omega);unfold zmv;have e0:put5 n 2 []=enc (tW n 2)++[0]:=by
  unfold put5;rw [xr rfl,xQ,yv,zth (v:=0) (by omega)];rfl
 have hw:IntKind.u64.wrap (z:Int)=(z:Int):=by rw [wrap_u64,yG (by omega) (by omega)]
 rw [zOa (by simp) (by simp),sb,xr hr,xH,hw,zIN (by omega),sb,e0];rw [show (0:Int)=((0:Nat):Int) from rfl,zgC (a:=0) (b:=(enc (tW n 2)).length) rfl (by simp only [xz,qv];rw [uX];omega) (xC _) (by simp),sb];have e1:((enc (tW n 2)++[0]).drop 0).take ((enc (tW n 2)).length - 0)=enc (tW n 2):=by simp
 rw [e1];have hk:kNum 4=true:=rfl;rw [hk,xr rfl];have e2:sPut 4 (z:Int)=enc z:=rfl;rw [e2,zaQ (by simp only;omega),sb]
abbrev zih:=List (zg×Int)
def zii (s:List Mes) (met:zih):Prop:=∀(M n i:Int),mget met ⟨M,n⟩=some i->i=fldI (zm s M) n
def zjW (a b:zih):Prop:=∀(q:zg) (i:Int),mget a q=some i->mget b q=some i
theorem zjW.refl (a:zih):zjW a a:=fun _ _ h=>h
theorem zjW.trans {a b c:zih} (h:zjW a b) (k:zjW b c):zjW a c:=fun q i hq=>k q i (h q i hq)
theorem zEP {m:Mes} {b:List UInt8} {p:Int} {v:Vw} (h:zbp m b p=(v,0)):zbm b p=(v.R,0)/\v.Field=fldI m v.R.Number:=by
 unfold zbp at h;split at h
 ·rename_i hc;simp only [yy] at h;exact absurd h.2 hc
 ·rename_i hc;have h0:(zbm b p).2=0:=by simpa using hc
  have hn:zbm b p=((zbm b p).1,0):=by rw [<-h0]
  split at h
  ·rename_i c hv;simp only [yy] at h;rcases zdE m (zbm b p).1.Number (zbm b p).1.Wire with h1| ⟨h1,_⟩| ⟨i,run,h1,_⟩
   ·rw [hv] at h1;cases h1;omega
   ·rw [hv] at h1;cases h1
   ·rw [hv] at h1;cases h1
  ·rename_i i run hv;simp only [yy,qy] at h;subst h;refine ⟨hn,?_⟩;rcases zdE m (zbm b p).1.Number (zbm b p).1.Wire with h1| ⟨h1,h2⟩| ⟨j,run',h1,h2,_⟩
   ·rw [hv] at h1;cases h1
   ·rw [hv] at h1;cases h1;exact h2.symm
   ·rw [hv] at h1;cases h1;exact h2.symm
theorem zLD {s:List Mes} (hs:zca s) {k:Nat} (hk:k<s.length) {b:List UInt8} (hb:b.length<=1048576) {p:Int} {v:Vw} (h:zbp (zm s k) b p=(v,0)) {met:zih} (hm:zii s met):
  ∃kw,zhP ⟨s,met⟩ k b p=some (v.R,v.Field,kw)/\zii s kw/\zjW met kw/\mget kw ⟨k,v.R.Number⟩=some v.Field:=by
 obtain ⟨hn,hf⟩:=zEP h;have hmm:zm s (k:Int)∈s:=by rw [zbq hk];exact xB hk
 have hfew:=hs.few _ hmm;unfold zhP;rw [zus hb,hn,sb];cases hg:mget met ⟨(k:Int),v.R.Number⟩ with
 | some i=>
  have hi:=hm _ _ _ hg;refine ⟨met,?_,hm,.refl _,by rw [hg,hf,hi]⟩;simp only [Option.isSome_some,Bool.not_true,pl];rw [itF rfl,hf,hi]
 | none=>
  refine ⟨mput met ⟨k,v.R.Number⟩ v.Field,?_,fun M n i hi=>?_,fun q i hq=>?_,by rw [zfR,xr rfl]⟩
  ·simp only [Option.isSome_none,Bool.not_false,yu];rw [zP rfl hk,sb,<-zbq hk,zFR (by omega) hb,sb,h];rfl
  ·rw [zfR] at hi;split at hi
   ·rename_i e;cases e;cases hi;exact hf
   ·exact hm M n i hi
  ·rw [zfR];split
   ·rename_i e;rw [e,hg] at hq;cases hq
   ·exact hq
def pc18 (f:Fld) (t:Th):List UInt8:=if f.Repeated=true/\kNum f.Kind=false then t.raw else t.val
def gat1 (f:Fld) (a:List UInt8) (t:Th):List UInt8:=if f.Repeated=false/\f.Kind≠17 then pc18 f t else a++pc18 f t
theorem zGR {f:Fld} {a b:List UInt8} {v:Vw} (ha:a.length<=70368744177664) (h:0<=v.R.From/\v.R.From<v.R.At/\v.R.At<=v.R.To/\v.R.To<=b.length) (hb:b.length<=70368744177664):zkY f a b v.R=some (gat1 f a (thOf b v)):=by
 obtain ⟨h1,h2,h3,h4⟩:=h;have hL:At14 b [v]:=fun t ht=>by rw [xY.1 ht];exact ⟨h1,h2,h3,h4⟩
 have hc1:=zMY hL (xY.2 rfl);have hc2:=zCu hL (xY.2 rfl);have hpl:(pc18 f (thOf b v)).length<=b.length:=by
  unfold pc18;have e1:(thOf b v).raw=rawB b v.R:=rfl;have e2:(thOf b v).val=valB b v.R:=rfl;split
  ·rw [e1];exact zzj b _
  ·rw [e2];unfold valB;rw [xS,xR];omega
 have hp:cut b (if f.Repeated=true/\kNum f.Kind=false then v.R.From else v.R.At) v.R.To=some (pc18 f (thOf b v)):=by
  unfold pc18;split
  ·exact hc2
  ·exact hc1
 unfold zkY gat1;rw [zBn,sb];have e1:(if f.Repeated=true then some (!kNum f.Kind) else some false)=some (decide (f.Repeated=true/\kNum f.Kind=false)):=by
  cases f.Repeated<;>cases kNum f.Kind<;>rfl
 rw [e1,sb];have e2:(if decide (f.Repeated=true/\kNum f.Kind=false)=true then some v.R.From else some v.R.At)=some (if f.Repeated=true/\kNum f.Kind=false then v.R.From else v.R.At):=by
  by_cases h:f.Repeated=true/\kNum f.Kind=false
  ·rw [xr h,xr (by simpa using h)]
  ·rw [xq h,xq (by simpa using h)]
 rw [e2,sb,hp,sb,sb];by_cases hl:f.Repeated=false/\f.Kind≠17
 ·rw [xr hl,itT (by simp [hl.1,hl.2])]
 ·rw [xq hl];by_cases h0:a=[]
  ·subst h0;rw [uT,xH]
  ·have kO:a.length≠0:=fun e=>h0 (yE e)
   have hc:((!f.Repeated&&(f.Kind !=17))|| ((a.length:Int)==0))=false:=by
    have g1:(!f.Repeated&&(f.Kind !=17))=false:=by
     cases hr:f.Repeated
     ·have:f.Kind=17:=uz fun h=>hl ⟨hr,h⟩
      simp [this]
     ·rfl
    rw [g1,pk];simpa using kO
   rw [itF hc,zaQ (by omega),sb]
theorem zQc {s:List Mes} {d:Nat} {k:Int} {b:List UInt8} (h:zH s d k b=none):∀t∈ths (zm s k) b,∃(n w:Int) (a:Nat),rec5 t.raw= .inr (n,w,a,t.raw.length)/\t.val=t.raw.drop a/\1<=a/\a<=t.raw.length:=by
 intro t ht;rw [zoc h] at ht;obtain ⟨r,hr,rfl⟩:=xA.1 ht;obtain ⟨n,w,f,a,u,hre,kZ,h1,h2,h3⟩:=zDr b 0 b rfl (xC _) r hr;have hrl:((b.drop f).take u).length=u:=by simp;omega
 have hraw:rawB b r=(b.drop f).take u:=by
  unfold rawB;rw [hre];simp only [xD];rw [show f+u - f=u by omega]
 have kX:valB b r=((b.drop f).take u).drop a:=by
  unfold valB;rw [hre];simp only [xD];rw [qx,yb,show f+u - (f+a)=u - a by omega]
 refine ⟨n,w,a,?_,?_,h1,?_⟩
 ·show rec5 (rawB b r)= .inr (n,w,a,(rawB b r).length);rw [hraw,hrl];exact zsk kZ
 ·show valB b r=(rawB b r).drop a;rw [hraw,kX]
 ·show a<=(rawB b r).length;rw [hraw,hrl];exact h2
def encT (s:List Mes) (f:Fld) (T:List Th):List UInt8:=if 0<zas (valT (ofM s) f T) then encV s (valT (ofM s) f T) f else []
theorem zxi {f:Fld} (h:¬(f.Repeated=false/\f.Kind≠17)):∀(T:List Th) (a:List UInt8),T.foldl (gat1 f) a=a++T.flatMap (pc18 f)
 | [],a=>by simp
 | t::T,a=>by
  rw [yi,zxi h T,xE];unfold gat1;rw [xq h,yj]
theorem zyr {f:Fld} (h:f.Repeated=false/\f.Kind≠17):∀(T:List Th) (a:List UInt8),T≠[]->T.foldl (gat1 f) a=(zbc f T).flatMap (·.val)
 | [],_,hT=>absurd rfl hT
 | [t],a,_=>by
  have hp:zbc f [t]=[t]:=by unfold zbc;simp
  rw [hp,yi,ue];unfold gat1 pc18;rw [xr h,xq (by rw [h.1];simp)];simp
 | t::u::T,a,_=>by
  rw [yi,zyr h (u::T) _ (by simp),zvO,xq (by rw [h.1];simp)]
theorem zvf {k:Int} (hk:kNum k=true):∀(T:List Th),(∀t∈T,(zag k t.val).2=0)->zag k (T.flatMap (·.val))=(T.flatMap (fun t=>(zag k t.val).1),0)
 | [],_=>by
  rw [yS,yS,zsx hk (by rw [zjE]),zjE];rfl
 | t::T,h=>by
  have ih:=zvf hk T fun u hu=>h u (xu _ hu)
  obtain ⟨h1,h2⟩:=zDG (k:=k) (a:=t.val) (b:=T.flatMap (·.val)) (h t xt);rw [ih] at h1 h2;rw [xE,xE];exact pt (h2 rfl) h1
theorem zHC {k:Int} {g:List UInt8} (h:(zag k g).2=0) (h1:(zag k g).1=[]):g=[]:=by
 obtain ⟨_,h3,h4⟩:=zlj h;rw [h1] at h4;have h5:=zze k g h3;rw [List.map_eq_nil_iff.1 h4.symm] at h5;exact h5.symm
theorem zJK {f:Fld} (hk:kNum f.Kind=true) {n1:1<=f.Number} {n2:f.Number<=536870911} {out g:List UInt8} (ho:out.length<=70368744177664) (hg:g.length<=520000) {ws:List Int} (hw:zag f.Kind g=(ws,0)) (h1:f.Repeated=false->ws.length<=1):
  zmx out f g=some (out++if ws=[] then [] else if f.Repeated=true then put5 f.Number 2 (ws.flatMap (sPut f.Kind)) else put5 f.Number (zab f.Kind) (sPut f.Kind (ws.headD 0))):=by
 have hwl:=zzZ f.Kind g;have hbd:=zAa f.Kind g;have htw:=zrR hk g;rw [hw] at hwl hbd htw;simp only at hwl hbd htw;have hr2:zaU f.Number 2=true:=zcZ.2 ⟨n1,n2,by omega⟩;have hrw:zaU f.Number (zab f.Kind)=true:=znt (by
  have:1<=f.Kind/\f.Kind<=14:=yx hk;exact xO (by omega)) n1 n2
 unfold zmx;by_cases h0:g=[]
 ·subst h0;have:ws=[]:=by
   have:=zzZ f.Kind [];rw [hw] at this;exact yE (by simpa using this)
  rw [uT,xr this,xQ]
 ·have kO:ws≠[]:=fun e=>h0 (zHC (k:=f.Kind) (by rw [hw]) (by rw [hw];exact e))
  rw [itF (by simp;exact h0),zJZ _ (by omega),sb,hw,zMb _ hbd (by omega),sb,xr hk,xq kO];cases hr:f.Repeated with
  | true=>rw [itT rfl,zCT ho (by simp only;omega) hr2 rfl,sb,xr rfl]
  | false=>
   have hl:ws.length=1:=by
    have:=h1 hr;have:ws.length≠0:=fun e=>kO (yE e)
    omega
   obtain ⟨x,rfl⟩:=pA.1 hl;have hx:=hbd x xt;have hpl:=zhS (k:=f.Kind) hx;have hfit:zbt (zab f.Kind) (sPut f.Kind x)=true:=by
    have:=zrp hk [x] (fun w hw=>by rw [xY.1 hw];exact hx);refine (zro hk (([x]:List Int).flatMap (sPut f.Kind)) _ ?_).1;rw [this];simp
   have hnw:zlO f.Kind=some (zab f.Kind):=zLF hk;rw [itF rfl,hnw,sb];simp only [pB,pq];rw [zCT ho (by omega) hrw hfit,sb,xq (by simp)]
abbrev RecM:=zS->List UInt8->Int->List UInt8->Option (List UInt8×zih)
abbrev RecF:=zS->List UInt8->Fld->List UInt8->Option (List UInt8×zih)
def zHE (s:List Mes) (e:Nat) (rec:RecM):Prop:=∀(k:Nat) (v out:List UInt8) (met:zih),k<s.length->v.length<=520000->out.length+(e+1)*4194304<=35184372088832->zH s e k v=none->zii s met->
 ∃kw,rec ⟨s,met⟩ out k v=some (out++zbo s k v,kw)/\zii s kw/\zjW met kw
theorem zJJ {s:List Mes} (hs:zca s) {d:Nat} {r1 r3:RecF} {r2:RecM} {f:Fld} (n1:1<=f.Number) (n2:f.Number<=536870911) {v out:List UInt8} (hv:v.length<=520000) (ho:out.length+d*4194304<=35184372088832)
  (kq:f.Kind=17->0<=f.Of/\f.Of<s.length/\∃e,d=e+1/\zHE s e r2/\zH s e f.Of v=none) {met:zih} (hm:zii s met):
  ∃kw,zeO r1 r2 r3 ⟨s,met⟩ out f v=some (out++put5 f.Number 2 (if f.Kind=17 then zbo s f.Of v else v),kw)/\zii s kw/\zjW met kw:=by
 have hr2:zaU f.Number 2=true:=zcZ.2 ⟨n1,n2,by omega⟩;unfold zeO;by_cases hk:f.Kind=17
 ·obtain ⟨o1,o2,e,hd,kZ,hf⟩:=kq hk;obtain ⟨k,hk'⟩:∃k:Nat,f.Of=k:=⟨f.Of.toNat,by omega⟩;rw [hk'] at hf o2;have hkl:k<s.length:=by omega
  subst hd;obtain ⟨kw,h1,h2,h3⟩:=kZ k v out met hkl hv ho hf hm;have htw:=zpr hs _ v e k rfl hkl hf;refine ⟨kw,?_,h2,h3⟩;have ku:IntKind.i64.wrap (((out++zbo s k v).length:Int) - (out.length:Int))=((zbo s k v).length:Int):=by
   rw [xz,uX];omega
  have hin:insO (out++zbo s k v) (out.length:Int) (enc (tW f.Number 2)++enc (zbo s k v).length)=some (out++put5 f.Number 2 (zbo s k v)):=by
   obtain ⟨_,km⟩:=zsZ hr2;have g1:=ziL (v:=tW f.Number 2) (by omega);have g2:=ziL (v:=(zbo s k v).length) (by omega);unfold insO;rw [xr ⟨by omega,by simp only [xz];omega,by simp only [xz];omega⟩,xD,yY,q8];unfold put5;rw [xr rfl];simp only [yj]
  rw [itF (by simp [hk]),xr hk,hk',h1,sb];simp only;rw [ku,zJE hr2 (by omega),sb,hin,sb]
 ·refine ⟨met,?_,hm,.refl _⟩;rw [itT (by simp [hk]),xq hk,zCT (by omega) (by omega) hr2 rfl,sb]
def zre (s:List Mes) (f:Fld) (v:List UInt8):List UInt8:=put5 f.Number 2 (if f.Kind=17 then zbo s f.Of v else v)
theorem zie {α β:Type} {f g:α->List β}:∀{l:List α},(∀t∈l,f t=g t)->l.flatMap f=l.flatMap g
 | [],_=>rfl
 | t::l,h=>by rw [xE,xE,h t xt,zie fun u hu=>h u (xu _ hu)]
theorem zww {s:List Mes} {d:Nat} {r3:RecF} {f:Fld} {T:List Th} (hraw:∀t∈T,∃(n w:Int) (a:Nat),rec5 t.raw= .inr (n,w,a,t.raw.length)/\t.val=t.raw.drop a/\1<=a/\a<=t.raw.length) (hb:(T.flatMap (·.raw)).length<=520000)
  (h3:∀t∈T,∀(out:List UInt8) (met:zih),out.length+d*4194304<=35184372088832->zii s met->∃kw,r3 ⟨s,met⟩ out f t.val=some (out++zre s f t.val,kw)/\zii s kw/\zjW met kw) (m0:zih):
  ∀(post pre:List Th) (out:List UInt8) (met:zih),T=pre++post->out.length+(post.flatMap fun t=>zre s f t.val).length+d*4194304<=35184372088832->zii s met->
   ∃kw,zek (T.flatMap (·.raw)) f r3 ⟨s,m0⟩ met out ((pre.flatMap (·.raw)).length:Nat)=some (kw,out++post.flatMap fun t=>zre s f t.val)/\zii s kw/\zjW met kw
 | [],pre,out,met,e,ho,hm=>by
  refine ⟨met,?_,hm,.refl _⟩;rw [xQ] at e;subst e;refine zpy ?_;unfold zcY;rw [uU];simp
 | t::post,pre,out,met,e,ho,hm=>by
  have ht:t∈T:=by rw [e];simp
  obtain ⟨n,w,a,kZ,kX,ha1,ha2⟩:=hraw t ht;rw [xE,xz] at ho;obtain ⟨met1,g1,g2,g3⟩:=h3 t ht out met (by omega) hm;obtain ⟨met2,k1,k2,k3⟩:=zww hraw hb h3 m0 post (pre++[t]) (out++zre s f t.val) met1 (by rw [e];simp) (by rw [xz];omega) g2;refine ⟨met2,?_,k2,g3.trans k3⟩;have hB:T.flatMap (·.raw)=pre.flatMap (·.raw)++(t.raw++post.flatMap (·.raw)):=by rw [e];simp
  have ku:(T.flatMap (·.raw)).length=(pre.flatMap (·.raw)).length+(t.raw.length+(post.flatMap (·.raw)).length):=by rw [hB];simp
  have hto:((pre++[t]).flatMap (·.raw)).length=(pre.flatMap (·.raw)).length+t.raw.length:=by simp
  have hdrop:(T.flatMap (·.raw)).drop (pre.flatMap (·.raw)).length=t.raw++post.flatMap (·.raw):=by rw [hB,q8]
  rw [hto] at k1
  generalize T.flatMap (·.raw)=B at hb ku hdrop k1|-
  generalize (pre.flatMap (·.raw)).length=p at ku hdrop k1|-
  have hnx:zbm B (p:Int)=(⟨n,w,(p:Int),((p+a:Nat):Int),((p+t.raw.length:Nat):Int)⟩,0):=by
   unfold zbm;rw [xq (by omega),xD,hdrop,zrs _ _ kZ];push_cast;rfl
  have hcut:cut B ((p+a:Nat):Int) ((p+t.raw.length:Nat):Int)=some t.val:=by
   rw [zgC rfl rfl (by omega) (by omega),<-yb,hdrop,pr ha2,kX,show p+t.raw.length - (p+a)=(t.raw.drop a).length by rw [xR];omega,yY]
  rw [xE,<-yj];refine (zpx (wv2':=met1) (out2':=out++zre s f t.val) (fromv':=((p+t.raw.length:Nat):Int)) ?_).trans k1;unfold zcY;rw [uV,zus (by omega),hnx,sb];simp only;rw [hcut,sb,g1,sb]
def zQo (s:List Mes) (d:Nat) (f:Fld) (rec:RecF):Prop:=∀(v out:List UInt8) (met:zih),v.length<=520000->out.length+d*4194304<=35184372088832->(f.Kind=17->∃e,d=e+1/\zH s e f.Of v=none)->zii s met->
 ∃kw,rec ⟨s,met⟩ out f v=some (out++zre s f v,kw)/\zii s kw/\zjW met kw
theorem zNN {s:List Mes} {d:Nat} {r1 r3:RecF} {r2:RecM} {f:Fld} (n1:1<=f.Number) (n2:f.Number<=536870911) (hkr:zbb f.Kind=true) {T:List Th} (hT:T≠[]) (kz:∀t∈T,OkF f t) (hw:kNum f.Kind=true->∀t∈T,(zag f.Kind t.val).2=0)
  (hraw:∀t∈T,∃(n w:Int) (a:Nat),rec5 t.raw= .inr (n,w,a,t.raw.length)/\t.val=t.raw.drop a/\1<=a/\a<=t.raw.length) (hb1:(T.flatMap (·.raw)).length<=520000) (hb2:(T.flatMap (·.val)).length<=520000)
  (h3:zQo s d f r3) (kq:f.Kind=17->(∀t∈T,∃e,d=e+1/\zH s e f.Of t.val=none)) {out:List UInt8} (ho:out.length+(encT s f T).length+d*4194304<=35184372088832) {met:zih} (hm:zii s met):
  ∃kw,zeN r1 r2 r3 ⟨s,met⟩ out f (T.foldl (gat1 f) [])=some (out++encT s f T,kw)/\zii s kw/\zjW met kw:=by
 have hmul:∀t∈T,t.val.length<=(T.flatMap (·.val)).length:=fun t ht=>by
  obtain ⟨x,y,rfl⟩:=List.append_of_mem ht;simp only [ym,xE,xz];omega
 have hlast:f.Repeated=false->∃t,t∈T/\zbc f T=[t]:=fun hr=>by
  unfold zbc;rw [xq (by rw [hr];simp)];have hl:T.length≠0:=fun e=>hT (yE e)
  refine ⟨T[T.length - 1],xB _,?_⟩;rw [yf (by omega),yo (by omega)]
 unfold zeN;rw [zBn,sb];cases hk:kNum f.Kind with
 | true=>
  have h17':f.Kind≠17:=fun e=>by rw [e] at hk;cases hk
  have hx:¬(f.Kind=15\/f.Kind=16):=fun e=>by rcases e with e| e<;>rw [e] at hk<;>cases hk
  have hg:T.foldl (gat1 f) []=(zbc f T).flatMap (·.val):=by
   cases hr:f.Repeated with
   | true=>
    rw [zxi (by rw [hr];simp),xH];have:zbc f T=T:=by unfold zbc;rw [xr hr]
    rw [this];refine zie fun t _=>?_
    unfold pc18;rw [xq (by rw [hk];simp)]
   | false=>exact zyr ⟨hr,h17'⟩ T [] hT
  have hps:∀t∈zbc f T,t∈T:=fun t ht=>by
   unfold zbc at ht;split at ht
   ·exact ht
   ·exact pi ht
  have hws:=zvf hk (zbc f T) fun t ht=>hw hk t (hps t ht)
  have hgl:((zbc f T).flatMap (·.val)).length<=520000:=by
   cases hr:f.Repeated with
   | true=>
    have:zbc f T=T:=by unfold zbc;rw [xr hr]
    rw [this];exact hb2
   | false=>
    obtain ⟨t,ht,e⟩:=hlast hr;rw [e];simp only [pB];have:=hmul t ht;omega
  have hone:f.Repeated=false->((zbc f T).flatMap fun t=>(zag f.Kind t.val).1).length<=1:=fun hr=>by
   obtain ⟨t,ht,e⟩:=hlast hr;have kF:t.run=false:=by
    cases h:t.run with
    | false=>rfl
    | true=>have:=((kz t ht).1 h).2;rw [hr] at this;cases this
   rw [e];simp only [pB];rw [zsy hk ((kz t ht).2 kF).2];simp
  refine ⟨met,?_,hm,.refl _⟩;rw [itT rfl,hg,zJK hk (n1:=n1) (n2:=n2) (by omega) hgl hws hone,sb];congr 3;unfold encT valT;rw [xq h17',xq hx]
  generalize ((zbc f T).flatMap fun t=>(zag f.Kind t.val).1)=ws
  have hmy:zas (⟨f.Number,ws,[],[]⟩:Vlu)=ws.length:=by unfold zas;simp
  rw [hmy,encV,xr hk];by_cases h0:ws=[]
  ·rw [xr h0,xq (by rw [h0];simp)]
  ·have hl:ws.length≠0:=fun e=>h0 (yE e)
   rw [xq h0,xr (show 0<ws.length by omega)]
 | false=>
  rw [itF rfl];have hkk:f.Kind=17\/(f.Kind≠17/\(f.Kind=15\/f.Kind=16)):=by
   have h1:1<=f.Kind/\f.Kind<=17:=yx hkr;have h2:¬(1<=f.Kind/\f.Kind<=14):=uc hk;omega
  cases hr:f.Repeated with
  | false=>
   have key:∃g,T.foldl (gat1 f) []=g/\g.length<=520000/\(f.Kind=17->∃e,d=e+1/\zH s e f.Of g=none)/\encT s f T=zre s f g:=by
    rcases hkk with h| ⟨h,hx⟩
    ·refine ⟨T.flatMap (·.val),?_,hb2,fun _=>?_,?_⟩
     ·rw [zxi (by rw [h];simp),xH];refine zie fun t _=>?_
      unfold pc18;rw [xq (by rw [hr];simp)]
     ·obtain ⟨t0,r0,e0⟩:=ud hT;obtain ⟨e,he,_⟩:=kq h t0 (by rw [e0];exact xt);refine ⟨e,he,?_⟩;rw [pO];refine zpq _ fun v hv=>?_
      obtain ⟨t,ht,rfl⟩:=xA.1 hv;obtain ⟨e',he',hf⟩:=kq h t ht;have:e'=e:=by omega
      rw [<-this];exact hf
     ·unfold encT valT zre;rw [xr h,hr,xr h];simp only [qj,yp];rw [xr (by unfold zas;simp),encV,xq (by rw [hk];simp),zgI,zgI];simp only [yS,xH,xQ];rfl
    ·obtain ⟨t,ht,e⟩:=hlast hr;refine ⟨t.val,?_,by have:=hmul t ht;omega,fun h'=>absurd h' h,?_⟩
     ·rw [zyr ⟨hr,h⟩ T [] hT,e];simp
     ·unfold encT valT zre;rw [xq h,xr hx,xq h,e];rw [xr (by unfold zas;simp),encV,xq (by rw [hk];simp),zgI];simp
   obtain ⟨g,h1,h2,h3',h4⟩:=key;obtain ⟨kw,k1,k2,k3⟩:=h3 g out met h2 (by omega) h3' hm;refine ⟨kw,?_,k2,k3⟩;rw [uR,h1,k1,sb,h4]
  | true=>
   have hg:T.foldl (gat1 f) []=T.flatMap (·.raw):=by
    rw [zxi (by rw [hr];simp),xH];refine zie fun t _=>?_
    unfold pc18;rw [xr ⟨hr,hk⟩]
   have hen:encT s f T=T.flatMap fun t=>zre s f t.val:=by
    have hl:T.length≠0:=fun e=>hT (yE e)
    have hp:zbc f T=T:=by unfold zbc;rw [xr hr]
    unfold encT valT zre;rcases hkk with h| ⟨h,hx⟩
    ·rw [xr h,hr,xr rfl,xr (by unfold zas;simp;omega),encV,xq (by rw [hk];simp),zkk];simp only [yS,xH,qm,h,yu];rfl
    ·rw [xq h,xr hx,hp,xr (by unfold zas;simp;omega),encV,xq (by rw [hk];simp),zgI];simp only [xQ,qm,h,yp]
   rw [hen] at ho;obtain ⟨kw,k1,k2,k3⟩:=zww (s:=s) (d:=d) (r3:=r3) (f:=f) hraw hb1 (fun t ht out met ho hm=>h3 t.val out met (by have:=hmul t ht;omega) ho (fun h=>kq h t ht) hm) met T [] out met rfl ho hm;refine ⟨kw,?_,k2,k3⟩;have k1':zek (T.flatMap (·.raw)) f r3 ⟨s,met⟩ met out 0=_:=k1;rw [uS,hg,k1',sb,hen]
abbrev ztc:=List (Int×List UInt8)
def kn18 (m:Mes) (b:List UInt8) (acc:ztc) (v:Vw):ztc:=if v.Field= -1 then acc else mput acc v.R.Number (gat1 (zt m v.Field) ((mget acc v.R.Number).getD []) (thOf b v))
theorem zEG (m:Mes) (b:List UInt8) (n:Int):∀(L:List Vw) (acc:ztc),(mget (L.foldl (kn18 m b) acc) n).getD []=(zeq L n).foldl (fun a v=>gat1 (zt m v.Field) a (thOf b v)) ((mget acc n).getD [])
 | [],acc=>by simp [zeq]
 | v::L,acc=>by
  rw [yi,zEG m b n L];unfold zeq;rw [yD];unfold kn18;by_cases hf:v.Field= -1
  ·rw [xr hf,xq (by simp [hf])]
  ·rw [xq hf,zfR];by_cases hn:v.R.Number=n
   ·rw [xr hn.symm,xr (by simp [hf,hn]),yi,hn];rfl
   ·rw [xq (fun e=>hn e.symm),xq (by simp [hn])]
theorem zEj (m:Mes) (b:List UInt8) {i:Int}:∀(L:List Vw) (a:List UInt8),(∀v∈L,v.Field=i)->L.foldl (fun a v=>gat1 (zt m v.Field) a (thOf b v)) a=(L.map (thOf b)).foldl (gat1 (zt m i)) a
 | [],a,_=>rfl
 | v::L,a,h=>by
  rw [yi,xJ,yi,h v xt];exact zEj m b L _ fun u hu=>h u (xu _ hu)
theorem zEv {κ α β:Type} [DecidableEq κ]:∀{a:List (κ×α)} {c:List (κ×β)},a.map Prod.fst=c.map Prod.fst->∀k,(mget a k).isSome=(mget c k).isSome
 | [],[],_,_=>rfl
 | [],_::_,h,_=>by simp at h
 | _::_,[],h,_=>by simp at h
 | p::a,q::c,h,k=>by
  simp only [xJ,yM] at h;rw [mget,mget,h.1];split
  ·rfl
  ·exact zEv h.2 k
theorem zBg (m:Mes) (b:List UInt8):∀(L:List Vw) (a:ztc) (c:List (Int×List PVw)),a.map Prod.fst=c.map Prod.fst->(L.foldl (kn18 m b) a).map Prod.fst=(L.foldl kn14 c).map Prod.fst
 | [],a,c,h=>h
 | v::L,a,c,h=>by
  rw [yi,yi];refine zBg m b L _ _ ?_;unfold kn18 kn14;split
  ·exact h
  ·rw [zkr,zkr,h];have:=zEv h v.R.Number;cases h1:mget a v.R.Number<;>cases h2:mget c v.R.Number<;>rw [h1,h2] at this<;>first| rfl| cases this
theorem zED {α β:Type} {a:List (Int×α)} {c:List (Int×β)} (h:a.map Prod.fst=c.map Prod.fst):zoA a=zoA c:=by
 have h1:(a.all fun p=>(Lit.int .i64 p.1).wf)=(c.all fun p=>(Lit.int .i64 p.1).wf):=by
  have e1:(a.all fun p=>(Lit.int .i64 p.1).wf)=(a.map Prod.fst).all fun n=>(Lit.int .i64 n).wf:=by rw [List.all_map];rfl
  have e2:(c.all fun p=>(Lit.int .i64 p.1).wf)=(c.map Prod.fst).all fun n=>(Lit.int .i64 n).wf:=by rw [List.all_map];rfl
  rw [e1,e2,h]
 have h2:a.length=c.length:=by simpa using congrArg List.length h
 unfold zoA;rw [h1,h2,h]
theorem zKV (f:Fld) (a:List UInt8) (t:Th):(gat1 f a t).length<=a.length+max t.raw.length t.val.length:=by
 unfold gat1 pc18;split<;>split<;>(try rw [xz])<;>omega
theorem zLz {m:Mes} {b:List UInt8} {base:Nat} {n w:Int} {a t:Nat} (km:base<b.length) (h:rec5 (b.drop base)= .inr (n,w,a,t)) {p:Int×Bool} (hv:vw m n w= .inr p):
  zbp m b base=(⟨⟨n,w,(base:Int),((base+a:Nat):Int),((base+t:Nat):Int)⟩,p.1,p.2⟩,0):=by
 have e:zbm b base=(⟨n,w,base,(base+a:Nat),(base+t:Nat)⟩,0):=by
  unfold zbm;rw [xq (by omega),xD,h];push_cast;rfl
 unfold zbp;rw [e];simp only [yK,yQ,yp,hv]
def vwOf (m:Mes) (r:Rec):Vw:=⟨r,(vwG m r).1,(vwG m r).2⟩
theorem zGS {s:List Mes} (hs:zca s) {k:Nat} (hk:k<s.length) {b:List UInt8} (hb:b.length<=520000) (m0:zih):∀(base:Nat) (l:List UInt8),base<=b.length->l=b.drop base->(spl base l).2=none->
  (∀r∈(spl base l).1,∃p,vw (zm s k) r.Number r.Wire= .inr p)->∀(met:zih) (kP:ztc) (kl:List UInt8),zii s met->(∀n,((mget kP n).getD []).length<=base)->kl.length<=base->
  ∃kw,zcj b k ⟨s,m0⟩ (zm s k) met kP kl base=some (kw,((spl base l).1.map (vwOf (zm s k))).foldl (kn18 (zm s k) b) kP,kl++(unkO (((spl base l).1.map (vwOf (zm s k))).map (thOf b))).flatten)/\
   zii s kw/\zjW met kw/\∀r∈(spl base l).1,mget kw ⟨k,r.Number⟩=some (vwOf (zm s k) r).Field:=by
 have hmm:zm s (k:Int)∈s:=by rw [zbq hk];exact xB hk
 have hfew:=hs.few _ hmm
 refine zgz (fun base l=>base<=b.length->l=b.drop base->(spl base l).2=none->
  (∀r∈(spl base l).1,∃p,vw (zm s k) r.Number r.Wire= .inr p)->∀(met:zih) (kP:ztc) (kl:List UInt8),zii s met->(∀n,((mget kP n).getD []).length<=base)->kl.length<=base->
  ∃kw,zcj b k ⟨s,m0⟩ (zm s k) met kP kl base=some (kw,((spl base l).1.map (vwOf (zm s k))).foldl (kn18 (zm s k) b) kP,kl++(unkO (((spl base l).1.map (vwOf (zm s k))).map (thOf b))).flatten)/\
   zii s kw/\zjW met kw/\∀r∈(spl base l).1,mget kw ⟨k,r.Number⟩=some (vwOf (zm s k) r).Field) ?_ ?_ ?_
 ·intro base hbase hl _ _ met kP kl hm _ _;have:b.length<=base:=by have:=congrArg List.length hl;simp at this;omega
  rw [zdr];refine ⟨met,?_,hm,.refl _,fun r hr=>by cases hr⟩;refine znX ?_;unfold zbw;rw [uW];simp [unkO]
 ·intro base l c hl h _ _ _ hn;rw [zfJ hl h] at hn;cases hn
 ·intro base l n w a t hl h _ g1 g2 g3 ih hbase hld hn hv met kP kl hm hkn hrest;subst hld;simp only [xR] at g3;have km:base<b.length:=by have:=qe.2 hl;simp at this;omega
  rw [zbW hl h] at hn hv|-;obtain ⟨p,hp⟩:=hv _ xt;have hlook:=zLz km h hp;obtain ⟨met1,k1,k2,k3,k4⟩:=zLD hs hk (by omega) hlook hm;simp only at k1 k4;have hvw:vwOf (zm s k) ⟨n,w,(base:Int),((base+a:Nat):Int),((base+t:Nat):Int)⟩=⟨⟨n,w,(base:Int),((base+a:Nat):Int),((base+t:Nat):Int)⟩,p.1,p.2⟩:=by
   unfold vwOf vwG;simp only at hp;rw [hp]
  have hfi:=(zEP hlook).2;simp only at hfi;have hat:At14 b [⟨⟨n,w,(base:Int),((base+a:Nat):Int),((base+t:Nat):Int)⟩,p.1,p.2⟩]:=fun v hv=>by
   rw [xY.1 hv];refine ⟨?_,?_,?_,?_⟩<;>simp only<;>omega
  have hcr:=zCu hat (xY.2 rfl);simp only at hcr;have hraw:rawB b ⟨n,w,(base:Int),((base+a:Nat):Int),((base+t:Nat):Int)⟩=(b.drop base).take t:=by
   unfold rawB;simp only [xD];rw [show base+t - base=t by omega]
  have hrl:(rawB b ⟨n,w,(base:Int),((base+a:Nat):Int),((base+t:Nat):Int)⟩).length=t:=by rw [hraw];simp;omega
  have hvl:(valB b ⟨n,w,(base:Int),((base+a:Nat):Int),((base+t:Nat):Int)⟩).length<=t:=by unfold valB;simp only [xD,xS,xR];omega
  have hih:=ih (by omega) (by rw [yb]) hn (fun r hr=>hv r (xu _ hr));rw [xJ,xJ,yi,hvw];by_cases hf:p.1= -1
  ·obtain ⟨met2,q1,q2,q3,q4⟩:=hih met1 kP (kl++rawB b ⟨n,w,(base:Int),((base+a:Nat):Int),((base+t:Nat):Int)⟩) k2 (fun n=>yg (hkn n) (by omega)) (by rw [xz,hrl];omega);refine ⟨met2,?_,q2,k3.trans q3,fun r hr=>?_⟩
   ·have e1:kn18 (zm s k) b kP ⟨⟨n,w,(base:Int),((base+a:Nat):Int),((base+t:Nat):Int)⟩,p.1,p.2⟩=kP:=by unfold kn18;rw [xr hf]
    have e2:∀X:List Th,(unkO (thOf b ⟨⟨n,w,(base:Int),((base+a:Nat):Int),((base+t:Nat):Int)⟩,p.1,p.2⟩::X)).flatten=rawB b ⟨n,w,(base:Int),((base+a:Nat):Int),((base+t:Nat):Int)⟩++(unkO X).flatten:=fun X=>by
     unfold unkO;rw [yD,xr (by show decide (p.1<0)=true;rw [hf];rfl),xJ,qt];rfl
    rw [e1,e2,<-yj];refine (zix ?_).trans q1;unfold zbw;rw [uV,k1,sb,itT (by simp [hf])];simp only;rw [hcr,sb,zaQ (by rw [hrl];omega),sb]
   ·cases hr with
    | head=>rw [hvw];exact q3 _ _ k4
    | tail _ hr=>exact q4 r hr
  ·have hnf:0<=p.1/\p.1<(zm s (k:Int)).Fields.length:=by
    rcases zdE (zm s (k:Int)) n w with h1| ⟨h1,_⟩| ⟨i,run,h1,_,h2⟩
    ·simp only at hp;rw [hp] at h1;cases h1
    ·simp only at hp;rw [hp] at h1;cases h1;exact absurd rfl hf
    ·simp only at hp;rw [hp] at h1;cases h1;simp only;omega
   have hgat:=zGR (f:=zt (zm s (k:Int)) p.1) (a:=(mget kP n).getD []) (b:=b) (v:=⟨⟨n,w,(base:Int),((base+a:Nat):Int),((base+t:Nat):Int)⟩,p.1,p.2⟩) (by have:=hkn n;omega) (hat _ (xY.2 rfl)) (by omega);have hgl:=zKV (zt (zm s (k:Int)) p.1) ((mget kP n).getD []) (thOf b ⟨⟨n,w,(base:Int),((base+a:Nat):Int),((base+t:Nat):Int)⟩,p.1,p.2⟩);have hgl':(gat1 (zt (zm s (k:Int)) p.1) ((mget kP n).getD []) (thOf b ⟨⟨n,w,(base:Int),((base+a:Nat):Int),((base+t:Nat):Int)⟩,p.1,p.2⟩)).length<=base+t:=by
    have g4:(thOf b ⟨⟨n,w,(base:Int),((base+a:Nat):Int),((base+t:Nat):Int)⟩,p.1,p.2⟩).raw.length=t:=hrl;have g5:(thOf b ⟨⟨n,w,(base:Int),((base+a:Nat):Int),((base+t:Nat):Int)⟩,p.1,p.2⟩).val.length<=t:=hvl;have:=hkn n;omega
   obtain ⟨met2,q1,q2,q3,q4⟩:=hih met1 (mput kP n (gat1 (zt (zm s (k:Int)) p.1) ((mget kP n).getD []) (thOf b ⟨⟨n,w,(base:Int),((base+a:Nat):Int),((base+t:Nat):Int)⟩,p.1,p.2⟩))) kl k2 (fun j=>by
    rw [zfR];split
    ·exact hgl'
    ·exact yg (hkn j) (by omega)) (by omega)
   refine ⟨met2,?_,q2,k3.trans q3,fun r hr=>?_⟩
   ·have e1:kn18 (zm s k) b kP ⟨⟨n,w,(base:Int),((base+a:Nat):Int),((base+t:Nat):Int)⟩,p.1,p.2⟩=mput kP n (gat1 (zt (zm s (k:Int)) p.1) ((mget kP n).getD []) (thOf b ⟨⟨n,w,(base:Int),((base+a:Nat):Int),((base+t:Nat):Int)⟩,p.1,p.2⟩)):=by unfold kn18;rw [xq hf]
    have e2:∀X:List Th,unkO (thOf b ⟨⟨n,w,(base:Int),((base+a:Nat):Int),((base+t:Nat):Int)⟩,p.1,p.2⟩::X)=unkO X:=fun X=>by
     unfold unkO;rw [yD,xq (by show ¬decide (p.1<0)=true;simp;omega)]
    rw [e1,e2];refine (zix ?_).trans q1;obtain ⟨i,hi⟩:∃i:Nat,p.1=i:=⟨p.1.toNat,by omega⟩;have hix:idx (zm s (k:Int)).Fields p.1=some (zt (zm s (k:Int)) p.1):=by rw [hi,zP rfl (by omega),zbe (by omega)]
    unfold zbw;rw [uV,k1,sb,itF (by simpa using hf)];simp only;simp only at hgat;rw [hix,sb,hgat,sb]
   ·cases hr with
    | head=>rw [hvw];exact q3 _ _ k4
    | tail _ hr=>exact q4 r hr
theorem zyL {s:List Mes} {k:Nat} {m:Mes} {q:zih×ztc×List UInt8} {rf:RecF} {ks:List Int} {E:Int->List UInt8} {d:Nat} {m1:zih} (m0:zih) (hks:ks.length<=1048576)
  (hrow:∀n∈ks,∃i:Nat,i<m.Fields.length/\mget m1 ⟨k,n⟩=some (i:Int)/\∀(out:List UInt8) (met:zih),out.length+(E n).length+d*4194304<=35184372088832->zii s met->
   ∃kw,rf ⟨s,met⟩ out (zt m (i:Int)) ((mget q.2.1 n).getD [])=some (out++E n,kw)/\zii s kw/\zjW met kw):
  ∀(c i:Nat) (out:List UInt8) (met:zih),i+c=ks.length->out.length+((ks.drop i).flatMap E).length+d*4194304<=35184372088832->zii s met->zjW m1 met->
   ∃kw,zdl k q rf ks ⟨s,m0⟩ m met out i=some (kw,out++(ks.drop i).flatMap E)/\zii s kw/\zjW met kw
 | 0,i,out,met,hi,_,hm,_=>by
  have e:ks.drop i=[]:=yo (by omega);refine ⟨met,?_,hm,.refl _⟩;rw [e,yS,xQ];refine znZ ?_;unfold zci;rw [uW]
 | c+1,i,out,met,hi,ho,hm,hle=>by
  have hil:i<ks.length:=by omega
  rw [yf hil,xE,xz] at ho;obtain ⟨j,hj,hmet,kZ⟩:=hrow _ (xB hil);obtain ⟨met1,k1,k2,k3⟩:=kZ out met (by omega) hm;obtain ⟨met2,q1,q2,q3⟩:=zyL m0 hks hrow c (i+1) (out++E ks[i]) met1 (by omega) (by rw [xz];omega) k2 (hle.trans k3);refine ⟨met2,?_,q2,k3.trans q3⟩;have hx:idx ks (i:Int)=some ks[i]:=zP rfl hil;have hw:IntKind.i64.wrap ((i:Int)+1)=((i+1:Nat):Int):=by rw [uX];push_cast;rfl
  have hf:idx m.Fields (j:Int)=some (zt m (j:Int)):=by rw [zP rfl hj,zbe hj]
  rw [yf hil,xE,<-yj];refine (znY (wv4':=met1) (out2':=out++E ks[i]) (v5':=((i+1:Nat):Int)) ?_).trans q1;unfold zci;rw [uV,hx,sb,hle _ _ hmet,pl,hf,sb,k1,sb,hw]
theorem znU {α β:Type} (p:α->Bool) (g:α->List β):∀l:List α,(l.filter p).flatMap g=l.flatMap fun x=>if p x=true then g x else []
 | []=>rfl
 | x::l=>by
  rw [yD,xE];split
  ·rw [xE,znU p g l]
  ·rw [xH,znU p g l]
theorem zmI {α β:Type} (g:α->List β) {l k:List α} (h:l.Sublist k):(l.flatMap g).length<=(k.flatMap g).length:=by
 induction h with
 | slnil=>exact xx _
 | cons a _ ih=>rw [xE,xz];omega
 | cons_cons a _ ih=>rw [xE,xE,xz,xz];omega
theorem zBa {s:List Mes} (hs:zca s) {d k:Nat} {b:List UInt8} (hk:k<s.length) (hfi:zH s d k b=none) {ks:List Int} (hkp:ks.Pairwise (·<·)) (hkm:∀n,n∈ks↔∃v∈(zai (zm s (k:Int)) b).1,v.Field≠ -1/\v.R.Number=n):
  zbo s k b=(ks.flatMap fun n=>encT s (zt (zm s (k:Int)) (fldI (zm s (k:Int)) n)) ((zeq (zai (zm s (k:Int)) b).1 n).map (thOf b)))++(unkO ((zai (zm s (k:Int)) b).1.map (thOf b))).flatten:=by
 obtain ⟨hkn,hvals,hunk⟩:=zvJ hs hk hfi hkp hkm;unfold zbo;rw [zlA,hunk,hvals,zmm,znU,qm];congr 1;refine zie fun n hn=>?_
 obtain ⟨i,h1,h2,h3,_⟩:=hkn n hn;have hnum:∀T,(valT (ofM s) (zt (zm s (k:Int)) (i:Int)) T).Number=n:=fun T=>by
  unfold valT;split
  ·exact h2
  ·split<;>exact h2
 rw [h3];unfold encT;rw [hnum,h3];simp only [xT]
theorem zBo {s:List Mes} (hs:zca s) {d n:Nat} (kZ:∀e,d=e+1->zHE s e (zbV n)):zHE s d (zbV (n+3)):=by
 intro k b out met hk hb ho hfi hm;have hmi:idx s (k:Int)=some (zm s k):=by rw [zP rfl hk,zbq hk]
 have hmm:zm s (k:Int)∈s:=by rw [zbq hk];exact xB hk
 have hfld:=hs.fld _ hmm;have hall:=znl hfi;have hL1:(zai (zm s (k:Int)) b).1=(spl 0 b).1.map (vwOf (zm s k)):=by rw [hall];rfl
 have hths:ths (zm s (k:Int)) b=(zai (zm s (k:Int)) b).1.map (thOf b):=rfl;have hwt:=zod (zm s k) b;have hraws:=zQc hfi;have htw:=zpr hs _ b d k rfl hk hfi;have hfrom:=hfi;rw [zej,zbX] at hfrom;obtain ⟨met1,g1,g2,g3,g4⟩:=zGS hs hk hb met 0 b (xC _) rfl hfrom.2 (fun r hr=>zDs (hfrom.1 r hr)) met [] [] hm (fun n=>by simp [mget]) (by simp);have hvr:∀v∈(zai (zm s (k:Int)) b).1,mget met1 ⟨k,v.R.Number⟩=some v.Field:=fun v hv=>by
  rw [hL1] at hv;obtain ⟨r,hr,rfl⟩:=xA.1 hv;exact g4 r hr
 rw [<-hL1] at g1;have hLl:(zai (zm s (k:Int)) b).1.length<=1048576:=yg (zxy _ _) (by omega);have hwf:∀v∈(zai (zm s (k:Int)) b).1,v.Field≠ -1->(Lit.int .i64 v.R.Number).wf=true:=fun v hv hf=>by
  have h:=(zDD hv).2;rcases zdE (zm s (k:Int)) v.R.Number v.R.Wire with h1| ⟨h1,_⟩| ⟨i,run,h1,h2,h3⟩
  ·rw [h] at h1;cases h1
  ·rw [h] at h1;simp only [uM,yy] at h1;exact absurd h1.1 hf
  ·rcases zcX (zm s (k:Int)) v.R.Number with ⟨q1,_⟩| ⟨j,hj,q1,q2,_⟩
   ·omega
   ·have hfo:=hfld _ (xB hj);have:=hfo.lo;have:=hfo.hi;exact zGD (by omega)
 obtain ⟨ks,hks,hkp,hkm⟩:=zwr hwf hLl;obtain ⟨hkn,hvals,hunk⟩:=zvJ hs hk hfi hkp hkm;have hkeys:zoA ((zai (zm s (k:Int)) b).1.foldl (kn18 (zm s k) b) [])=some ks:=(zED (zBg _ b _ [] [] rfl)).trans hks;have hkl:ks.length<=1048576:=by
  have ku:ks.length=((zai (zm s (k:Int)) b).1.foldl kn14 []).length:=by
   unfold zoA at hks;rw [zHo] at hks;split at hks
   ·cases hks;simp
   ·cases hks
  have:=zGI (zai (zm s (k:Int)) b).1 [];simp only [yv] at this;omega
 have hrawl:(((zai (zm s (k:Int)) b).1.map (thOf b)).flatMap (·.raw)).length<=520000:=by
  have e:=zzH b 0 b rfl (xC _) hfrom.2;rw [hL1,yC,qm];have e2:(spl 0 b).1.flatMap (fun r=>((thOf b∘vwOf (zm s k)) r).raw)=(spl 0 b).1.flatMap (zFd b):=rfl;rw [e2,e];exact hb
 have hvall:(((zai (zm s (k:Int)) b).1.map (thOf b)).flatMap (·.val)).length<=520000:=by
  have h1:=zvy ((zai (zm s (k:Int)) b).1.map (thOf b));rw [hths] at hwt;omega
 -- the form, by numbers
 have hform:=zBa hs hk hfi hkp hkm;rw [hform,xz] at htw;have hsum:∀n∈ks,(encT s (zt (zm s (k:Int)) (fldI (zm s (k:Int)) n)) ((zeq (zai (zm s (k:Int)) b).1 n).map (thOf b))).length<=(ks.flatMap fun n=>encT s (zt (zm s (k:Int)) (fldI (zm s (k:Int)) n)) ((zeq (zai (zm s (k:Int)) b).1 n).map (thOf b))).length:=fun n hn=>by
  obtain ⟨x,y,e⟩:=List.append_of_mem hn;rw [e];simp only [ym,xE,xz];omega
 have hrw:∀n:Int,(mget ((zai (zm s (k:Int)) b).1.foldl (kn18 (zm s k) b) []) n).getD []=(zeq (zai (zm s (k:Int)) b).1 n).foldl (fun a v=>gat1 (zt (zm s k) v.Field) a (thOf b v)) []:=fun n=>zEG _ b n _ []
 obtain ⟨met2,q1,q2,q3⟩:=zyL (s:=s) (k:=k) (m:=zm s k) (q:=(met1,(zai (zm s (k:Int)) b).1.foldl (kn18 (zm s k) b) [],[]++(unkO ((zai (zm s (k:Int)) b).1.map (thOf b))).flatten)) (rf:=zeU (n+2)) (ks:=ks)
  (E:=fun n=>encT s (zt (zm s (k:Int)) (fldI (zm s (k:Int)) n)) ((zeq (zai (zm s (k:Int)) b).1 n).map (thOf b))) (d:=d) (m1:=met1) met hkl (fun w hw=>by
   obtain ⟨i,h1,h2,h3,h4,h5,h6⟩:=hkn w hw;have hfm:zt (zm s (k:Int)) (i:Int)∈(zm s (k:Int)).Fields:=by rw [zbe h1];exact xB h1
   have hfo:=hfld _ hfm;refine ⟨i,h1,?_,fun out met hol hmo=>?_⟩
   ·obtain ⟨v,hv,_,hnn⟩:=(hkm w).1 hw;have hb1:=hvr v hv;have hvb:v∈zeq (zai (zm s (k:Int)) b).1 w:=xW.2 ⟨hv,by
     rename_i hf;simp [hf,hnn]⟩
    rw [hnn,h5 v hvb] at hb1;exact hb1
   ·have hrow:(mget ((zai (zm s (k:Int)) b).1.foldl (kn18 (zm s k) b) []) w).getD []=((zeq (zai (zm s (k:Int)) b).1 w).map (thOf b)).foldl (gat1 (zt (zm s (k:Int)) (i:Int))) []:=by
     rw [hrw,zEj _ b _ [] h5]
    have hsub:∀t∈(zeq (zai (zm s (k:Int)) b).1 w).map (thOf b),t∈ths (zm s (k:Int)) b:=fun t ht=>by
     obtain ⟨v,hv,rfl⟩:=xA.1 ht;exact yP (xW.1 hv).1
    rw [h3] at hol|-;show∃kw,zeU (n+2) ⟨s,met⟩ out (zt (zm s k) (i:Int)) ((mget ((zai (zm s (k:Int)) b).1.foldl (kn18 (zm s k) b) []) w).getD [])=_/\_;rw [hrow];show∃kw,zeN (zeU (n+1)) (zbV (n+1)) (ziH (n+1)) ⟨s,met⟩ out (zt (zm s k) (i:Int)) _=_/\_;refine zNN hfo.lo hfo.hi hfo.kind (by simpa using h4) (fun t ht=>(h6 t ht).1) (fun hkk t ht=>?_) (fun t ht=>hraws t (hsub t ht)) ?_ ?_ (fun v out met hvl hol hsub17 hmo=>?_) (fun kq t ht=>?_) hol hmo
    ·obtain ⟨o1,o2,o3⟩:=h6 t ht;cases kF:t.run with
     | false=>rw [zsy hkk (o1.2 kF).2]
     | true=>
      have:=(o2.run (by omega) kF).2.2;rw [o3] at this;unfold zmn at this;rw [xq (by rw [hkk];simp)] at this;split at this
      ·rename_i h0;rw [zsx hkk h0]
      ·rename_i h0;exact absurd this h0
    ·exact yg (zmI _ (List.Sublist.map (thOf b) (List.filter_sublist (p:=fun v:Vw=>decide (v.Field≠ -1/\v.R.Number=w)) (l:=(zai (zm s (k:Int)) b).1)))) hrawl
    ·exact yg (zmI _ (List.Sublist.map (thOf b) (List.filter_sublist (p:=fun v:Vw=>decide (v.Field≠ -1/\v.R.Number=w)) (l:=(zai (zm s (k:Int)) b).1)))) hvall
    ·show∃kw,zeO (zeU n) (zbV n) (ziH n) ⟨s,met⟩ out (zt (zm s k) (i:Int)) v=_/\_;refine zJJ hs hfo.lo hfo.hi hvl hol (fun kq=>?_) hmo;have hof:=hfo.sub kq;obtain ⟨e,he,hf⟩:=hsub17 kq;exact ⟨hof.1,hof.2,e,he,kZ e he,hf⟩
    ·obtain ⟨o1,o2,o3⟩:=h6 t ht;have hr:t.run=false:=by
      cases hr:t.run
      ·rfl
      ·have:=(o1.1 hr).1;rw [kq] at this;cases this
     have:=(o2.one (by omega) hr).2.2.2;rw [o3] at this;exact this kq) ks.length 0 out met1 (xK _) (by rw [yc];omega) g2 (.refl _)
 rw [yc] at q1;refine ⟨met2,?_,q2,g3.trans q3⟩;show zeY (zeU (n+2)) (zbV (n+2)) (ziH (n+2)) ⟨s,met⟩ out k b=_;unfold zeY;have g1':zcj b k ⟨s,met⟩ (zm s k) met [] [] 0=_:=g1;have q1':zdl k (met1,(zai (zm s (k:Int)) b).1.foldl (kn18 (zm s k) b) [],[]++(unkO ((zai (zm s (k:Int)) b).1.map (thOf b))).flatten) (zeU (n+2)) ks ⟨s,met⟩ (zm s k) met1 out 0=_:=q1;rw [hmi,sb,g1',sb];simp only;rw [hkeys,sb,q1',sb,zaQ (by simp only [xz,xH];omega),sb,hform,yj];rfl
theorem zIv {s:List Mes} (hs:zca s):∀(d fuel:Nat),3*d+3<=fuel->zHE s d (zbV fuel)
 | 0,fuel,hf=>by
  obtain ⟨n,rfl⟩:∃n,fuel=n+3:=⟨fuel - 3,by omega⟩;exact zBo hs fun e he=>by omega
 | d+1,fuel,hf=>by
  obtain ⟨n,rfl⟩:∃n,fuel=n+3:=⟨fuel - 3,by omega⟩;exact zBo hs fun e he=>by
   have:e=d:=by omega
   subst this;exact zIv hs e n (by omega)
theorem zyM {s:List Mes} (hs:zca s) {fuel d k:Nat} {b:List UInt8} (hf:200<=fuel) (hd:d<=64) (hk:k<s.length) (hb:b.length<=520000) (hv:zH s d k b=none):zjb fuel s k b=some (zbo s k b):=by
 obtain ⟨kw,h,_⟩:=zIv hs d fuel (by omega) k b [] [] hk hb (by simp;omega) hv (fun M n i h=>by cases h);unfold zjb;rw [h,sb,xH]
theorem zHJ {s:List Mes} {root:Int} {b:List UInt8} {d:Int} (h0:(zaE s root b d).2=0):zca s/\d.toNat<=64/\∃k:Nat,root=k/\k<s.length/\zH s d.toNat k b=none:=by
 obtain ⟨hr,g1,g2,g3,g4⟩:=zol (zCp h0);obtain ⟨k,rfl⟩:∃k:Nat,root=k:=⟨root.toNat,by omega⟩;exact ⟨hr,by omega,k,rfl,by omega,(zEq.1 (by unfold is11;simpa using h0)).2⟩
theorem zyK {fuel:Nat} {s:List Mes} (root:Int) {b:List UInt8} (d:Int) (hf:300<=fuel) (hw:WS s) (hb:b.length<=520000):zja fuel s root b d=some (zxh s root b d):=by
 unfold zja zxh;rw [zBV hw root (by omega) d (by omega),sb];by_cases h0:(zaE s root b d).2=0
 ·have h0':¬(zaE s root b d).2≠0:=fun h=>h h0
  obtain ⟨hr,hd,k,rfl,hk,hv⟩:=zHJ h0;rw [itF (by simpa using h0),xq h0',zyM hr (by omega) hd hk hb hv,sb]
 ·rw [itT (by simpa using h0),xr h0]
theorem zPE {fuel:Nat} {s:List Mes} (root:Int) {b:List UInt8} (d:Int) (hf:300<=fuel) (hw:WS s) (hb:b.length<=520000):zsf fuel s root b d=some (decide ((zaE s root b d).2=0)&&(zbo s root b==b)):=by
 unfold zsf;rw [zyK root d hf hw hb,sb];by_cases h0:(zaE s root b d).2=0
 ·rw [ztk h0,uR];simp [h0,ziU,sb]
 ·rw [zqM h0,itF (by simpa using h0)];simp [h0,sb]
theorem zub {b f:List UInt8} (x:Int):∀(c i:Nat),i+c=min b.length f.length->b.length<=1048576->zht b (f,x) i=some ((i+cpl (b.drop i) (f.drop i):Nat):Int)
 | 0,i,hi,hb=>by
  have he:b.drop i=[]\/f.drop i=[]:=by
   rcases Nat.le_total b.length f.length with h| h
   ·exact .inl (yo (by omega))
   ·exact .inr (yo (by omega))
  have hc:cpl (b.drop i) (f.drop i)=0:=by
   rcases he with h| h<;>rw [h]
   ·rw [cpl];intro _ _ _ _ hh;cases hh
   ·cases b.drop i<;>(rw [cpl];intro _ _ _ _ _ hh;cases hh)
  rw [hc];refine znv ?_;unfold zgq;have hm:decide ((i:Int)<(if ((f.length:Nat):Int)<(b.length:Int) then (f.length:Int) else (b.length:Int)))=false:=by
   apply xU;split<;>omega
  rw [itF hm,sb];rfl
 | c+1,i,hi,hb=>by
  have hib:i<b.length:=by omega
  have hif:i<f.length:=by omega
  have hm:decide ((i:Int)<(if ((f.length:Nat):Int)<(b.length:Int) then (f.length:Int) else (b.length:Int)))=true:=by
   apply xO;split<;>omega
  have hdb:b.drop i=b[i]::b.drop (i+1):=yf hib;have hdf:f.drop i=f[i]::f.drop (i+1):=yf hif;rw [hdb,hdf,cpl];by_cases hx:b[i]=f[i]
  ·rw [xr hx];refine (zuv (place':=((i+1:Nat):Int)) ?_).trans ((zub x c (i+1) (by omega) hb).trans (by congr 2;omega));unfold zgq;rw [itT hm,zP rfl hib,sb,zP rfl hif,sb,sb,itT (by simp [hx]),uX];push_cast;rfl
  ·rw [xq hx];refine znv ?_;have kO:(b[i]).toNat≠(f[i]).toNat:=fun hh=>hx (UInt8.toNat_inj.1 hh)
   unfold zgq;rw [itT hm,zP rfl hib,sb,zP rfl hif,sb,sb,uW];rfl
theorem zJI {fuel:Nat} {s:List Mes} (root:Int) {b:List UInt8} (d:Int) (hf:300<=fuel) (hw:WS s) (hb:b.length<=520000):zmu fuel s root b d=some (zua s root b d):=by
 unfold zmu zua;rw [zyK root d hf hw hb,sb];by_cases h0:(zaE s root b d).2=0
 ·rw [ztk h0,uS,xq (show ¬(zaE s root b d).2≠0 from fun h=>h h0)];unfold zpp;have h:=zub (b:=b) (f:=zbo s root b) 0 (min b.length (zbo s root b).length) 0 (xK _) (by omega);have h':zht b (zbo s root b,0) 0=_:=h;simp only [ziU,sb];by_cases he:b=zbo s root b
  ·rw [xr he,itT (by simp [<-he])]
  ·rw [xq he,itF (by simp;exact fun e=>he e.symm),h',sb];simp
 ·rw [zqM h0,xr h0,itT (by simpa using h0)]
structure Qd where
 num:Int
 wire:Int
 val:List UInt8
 raw:List UInt8
def quad (b:List UInt8) (r:Rec):Qd:=⟨r.Number,r.Wire,valB b r,rawB b r⟩
def OkQ (q:Qd):Prop:=∃a,rec5 q.raw= .inr (q.num,q.wire,a,q.raw.length)/\q.val=q.raw.drop a
def thQ (m:Mes) (q:Qd):Th:=⟨(vwG m ⟨q.num,q.wire,0,0,0⟩).1,(vwG m ⟨q.num,q.wire,0,0,0⟩).2,q.val,q.raw⟩
def zin (b:List UInt8):List Qd:=(spl 0 b).1.map (quad b)
theorem zBL:∀(L:List Qd),(∀q∈L,OkQ q)->∀(base:Nat) (b:List UInt8),b.drop base=L.flatMap (·.raw)->base<=b.length->(spl base (L.flatMap (·.raw))).2=none/\(spl base (L.flatMap (·.raw))).1.map (quad b)=L
 | [],_,base,b,_,_=>by rw [yS,zdr];exact ⟨rfl,rfl⟩
 | q::L,h,base,b,hd,hb=>by
  obtain ⟨a,kZ,kX⟩:=h q xt;have kO:q.raw++L.flatMap (·.raw)≠[]:=fun e=>by
   have e0:=(List.append_eq_nil_iff.1 e).1;obtain ⟨c,hc,_⟩| ⟨n,w,k,a',t,hc,_,_,_,g1,g2,g3,g4,g5,_⟩:=zhf q.raw
   ·rw [kZ] at hc;cases hc
   ·rw [kZ] at hc;cases hc;rw [e0] at g2;simp only [yv] at g2;omega
  have hra:=zrs _ (L.flatMap (·.raw)) kZ;rw [xE] at hd|-;have ku:=congrArg List.length hd;simp only [xR,xz] at ku;have hd2:b.drop (base+q.raw.length)=L.flatMap (·.raw):=by rw [<-yb,hd,q8]
  obtain ⟨i1,i2⟩:=zBL L (fun u hu=>h u (xu _ hu)) (base+q.raw.length) b hd2 (by omega);rw [zbW kO hra,q8];refine ⟨i1,?_⟩;rw [xJ,i2];congr 1;have e1:rawB b ⟨q.num,q.wire,(base:Int),((base+a:Nat):Int),((base+q.raw.length:Nat):Int)⟩=q.raw:=by
   unfold rawB;simp only [xD];rw [hd,show base+q.raw.length - base=q.raw.length by omega,yY]
  have e2:valB b ⟨q.num,q.wire,(base:Int),((base+a:Nat):Int),((base+q.raw.length:Nat):Int)⟩=q.val:=by
   unfold valB;simp only [xD];have ha:a<=q.raw.length:=by
    obtain ⟨c,hc,_⟩| ⟨n,w,k,a',t,hc,_,_,_,g1,g2,g3,g4,g5,_⟩:=zhf q.raw
    ·rw [kZ] at hc;cases hc
    ·rw [kZ] at hc;cases hc;omega
   rw [<-yb,hd,pr ha,show base+q.raw.length - (base+a)=(q.raw.drop a).length by rw [xR];omega,yY,kX]
  unfold quad;rw [e1,e2]
theorem zLT {b:List UInt8}:∀q∈zin b,OkQ q:=fun q hq=>by
 obtain ⟨r,hr,rfl⟩:=xA.1 hq;obtain ⟨n,w,f,a,u,hre,kZ,h1,h2,h3⟩:=zDr b 0 b rfl (xC _) r hr;have hrl:((b.drop f).take u).length=u:=by simp;omega
 have hraw:rawB b r=(b.drop f).take u:=by
  unfold rawB;rw [hre];simp only [xD];rw [show f+u - f=u by omega]
 have kX:valB b r=((b.drop f).take u).drop a:=by
  unfold valB;rw [hre];simp only [xD];rw [qx,yb,show f+u - (f+a)=u - a by omega]
 refine ⟨a,?_,?_⟩
 ·show rec5 (rawB b r)= .inr (r.Number,r.Wire,a,(rawB b r).length);rw [hraw,hrl,hre];exact zsk kZ
 ·show valB b r=(rawB b r).drop a;rw [hraw,kX]
theorem zJQ {b:List UInt8} (h:(spl 0 b).2=none):(zin b).flatMap (·.raw)=b:=by
 unfold zin;rw [qm];exact zzH b 0 b rfl (xC _) h
theorem zFc {L:List Qd} (h:∀q∈L,OkQ q):(spl 0 (L.flatMap (·.raw))).2=none/\zin (L.flatMap (·.raw))=L:=zBL L h 0 _ rfl (xC _)
theorem zpo (n:Int) (b:List UInt8):∀l:List Rec,(l.filter fun r=>r.Number==n).flatMap (rawB b)=((l.map (quad b)).filter fun q=>q.num==n).flatMap (·.raw)
 | []=>rfl
 | r::l=>by
  rw [yD,xJ,yD];have e:(quad b r).num=r.Number:=rfl;rw [e];split
  ·rw [xE,xE,zpo n b l];rfl
  ·exact zpo n b l
theorem zwm {b:List UInt8} (h:(spl 0 b).2=none) (n:Int):zhH b n=((zin b).filter fun q=>q.num==n).flatMap (·.raw):=by
 unfold zhH splR;rw [h];exact zpo n b _
theorem zEf {s:List Mes} {d:Nat} {k:Int} {b c:List UInt8} (h:zH s d k b=none) (hc:(spl 0 c).2=none) (hs:∀q∈zin c,q∈zin b):zH s d k c=none:=by
 rw [zej,zbX] at h|-;refine ⟨fun r hr=>?_,hc⟩;have hq:=hs _ (yP (f:=quad c) hr);obtain ⟨r',hr',e⟩:=xA.1 hq;have e1:r'.Number=r.Number:=congrArg Qd.num e;have e2:r'.Wire=r.Wire:=congrArg Qd.wire e;have e3:valB b r'=valB c r:=congrArg Qd.val e;exact (zrD e1.symm e2.symm e3.symm).2 (h.1 r' hr')
theorem zyp {s:List Mes} (hs:zca s) {d k:Nat} {b:List UInt8} (hk:k<s.length) (hfi:zH s d k b=none) {ks:List Int} (hkp:ks.Pairwise (·<·)) (hkm:∀n,n∈ks↔∃q∈zin b,(thQ (zm s k) q).fi≠ -1/\q.num=n):
  zbo s k b=(ks.flatMap fun n=>encT s (zt (zm s (k:Int)) (fldI (zm s (k:Int)) n)) (((zin b).filter fun q=>decide ((thQ (zm s k) q).fi≠ -1/\q.num=n)).map (thQ (zm s k))))++((zin b).filter fun q=>decide ((thQ (zm s k) q).fi<0)).flatMap (·.raw):=by
 have hall:=znl hfi;have hL1:(zai (zm s (k:Int)) b).1=(spl 0 b).1.map (vwOf (zm s k)):=by rw [hall];rfl
 have hkm':∀n,n∈ks↔∃v∈(zai (zm s (k:Int)) b).1,v.Field≠ -1/\v.R.Number=n:=fun n=>by
  rw [hkm n,hL1];constructor
  ·rintro ⟨q,hq,h1,h2⟩;obtain ⟨r,hr,rfl⟩:=xA.1 hq;exact ⟨_,yP hr,h1,h2⟩
  ·rintro ⟨v,hv,h1,h2⟩;obtain ⟨r,hr,rfl⟩:=xA.1 hv;exact ⟨_,yP hr,h1,h2⟩
 rw [zBa hs hk hfi hkp hkm',hL1];have e1:∀n,(zeq ((spl 0 b).1.map (vwOf (zm s k))) n).map (thOf b)=((zin b).filter fun q=>decide ((thQ (zm s k) q).fi≠ -1/\q.num=n)).map (thQ (zm s k)):=fun n=>by
  unfold zeq zin;rw [qC,qC,yC,yC];rfl
 have e2:(unkO (((spl 0 b).1.map (vwOf (zm s k))).map (thOf b))).flatten=((zin b).filter fun q=>decide ((thQ (zm s k) q).fi<0)).flatMap (·.raw):=by
  unfold unkO zin;rw [yC,qC,qC,yC,qm,pO];rfl
 rw [e2];congr 1;exact zie fun n _=>by rw [e1]
theorem zCW {n w:Int} {v:List UInt8} (h:zaU n w=true) (hf:zbt w v=true) (hv:v.length<=1048576):∃q:Qd,OkQ q/\q.num=n/\q.raw=put5 n w v:=by
 have hr:=zFf [] h hf hv;rw [xQ] at hr;exact ⟨⟨n,w,(put5 n w v).drop ((put5 n w v).length - v.length),put5 n w v⟩,⟨_,hr,rfl⟩,rfl,rfl⟩
theorem zyR {α:Type} {n w:Int} (h:zaU n w=true) {g:α->List UInt8}:∀(l:List α),(∀x∈l,zbt w (g x)=true/\(g x).length<=1048576)->∃L:List Qd,(∀q∈L,OkQ q/\q.num=n)/\(l.flatMap fun x=>put5 n w (g x))=L.flatMap (·.raw)
 | [],_=>⟨[],(fun q hq=>by cases hq),rfl⟩
 | x::l,hl=>by
  obtain ⟨L,h1,h2⟩:=zyR h l fun y hy=>hl y (xu _ hy)
  obtain ⟨q,q1,q2,q3⟩:=zCW h (hl x xt).1 (hl x xt).2;refine ⟨q::L,fun u hu=>?_,by rw [xE,xE,h2,q3]⟩;cases hu with
  | head=>exact ⟨q1,q2⟩
  | tail _ hu=>exact h1 u hu
theorem zGx {s:List Mes} (hs:zca s) {d:Nat} {f:Fld} (n1:1<=f.Number) (n2:f.Number<=536870911) {T:List Th} (kz:∀t∈T,OkF f t) (hb2:(T.flatMap (·.val)).length<=520000)
  (kq:f.Kind=17->0<=f.Of/\f.Of<s.length/\∀t∈T,∃e,d=e+1/\zH s e f.Of t.val=none):∃L:List Qd,(∀q∈L,OkQ q/\q.num=f.Number)/\encT s f T=L.flatMap (·.raw):=by
 have hr2:zaU f.Number 2=true:=zcZ.2 ⟨n1,n2,by omega⟩;have hmul:∀t∈T,t.val.length<=(T.flatMap (·.val)).length:=fun t ht=>by
  obtain ⟨x,y,rfl⟩:=List.append_of_mem ht;simp only [ym,xE,xz];omega
 have hps:∀t∈zbc f T,t∈T:=fun t ht=>by
  unfold zbc at ht;split at ht
  ·exact ht
  ·exact pi ht
 unfold encT;split
 ·rename_i hmany;unfold valT at hmany|-;by_cases h:f.Kind=17
  ·obtain ⟨o1,o2,h3⟩:=kq h;obtain ⟨k,hk⟩:∃k:Nat,f.Of=k:=⟨f.Of.toNat,by omega⟩;have hsub:∀e v,zH s e f.Of v=none->v.length<=520000->(encM s (ofM s f.Of v) f.Of).length<=1048576:=fun e v hv hl=>by
    rw [hk] at hv|-;have:=zpr hs _ v e k rfl (by omega) hv;unfold zbo at this;omega
   have hkn:kNum f.Kind=false:=by rw [h];rfl
   rw [xr h,encV,xq (by rw [hkn];simp),yS,xH,zkk];refine zyR hr2 (g:=fun x=>encM s x f.Of) _ fun x hx=>⟨rfl,?_⟩
   split at hx
   ·obtain ⟨t,ht,rfl⟩:=xA.1 hx;obtain ⟨e,_,he⟩:=h3 t ht;exact hsub e t.val he (by have:=hmul t ht;omega)
   ·rw [xY.1 hx];by_cases hT:T=[]
    ·subst hT;rw [yS];exact hsub 0 [] (znp s 0 _) (by simp)
    ·obtain ⟨t0,r0,e0⟩:=ud hT;obtain ⟨e,he,_⟩:=h3 t0 (by rw [e0];exact xt);refine hsub e _ ?_ hb2;rw [pO];refine zpq _ fun v hv=>?_
     obtain ⟨t,ht,rfl⟩:=xA.1 hv;obtain ⟨e',he',hf⟩:=h3 t ht;have:e'=e:=by omega
     rw [<-this];exact hf
  ·rw [xq h] at hmany|-;by_cases hx:f.Kind=15\/f.Kind=16
   ·have hkn:kNum f.Kind=false:=by rcases hx with e| e<;>rw [e]<;>rfl
    rw [xr hx,encV,xq (by rw [hkn];simp),zgI,xQ];refine zyR hr2 (g:=fun x=>x) _ fun x hx=>⟨rfl,?_⟩
    obtain ⟨t,ht,rfl⟩:=xA.1 hx;have:=hmul t (hps t ht);omega
   ·rw [xq hx] at hmany|-;rw [encV];by_cases hk:kNum f.Kind=true
    ·rw [xr hk];have hwb:∀w∈(zbc f T).flatMap (fun t=>(zag f.Kind t.val).1),0<=w/\w<=18446744073709551615:=fun w hw=>by
      obtain ⟨t,_,hw⟩:=qh.1 hw;exact zAa _ _ w hw
     have htw:∀T':List Th,((T'.flatMap fun t=>(zag f.Kind t.val).1).flatMap (sPut f.Kind)).length<=2*(T'.flatMap (·.val)).length:=fun T'=>by
      induction T' with
      | nil=>simp
      | cons t T' ih=>
       have:=zrR hk t.val;rw [xE,xE,ym,xz,xz];omega
     split
     ·obtain ⟨q,q1,q2,q3⟩:=zCW hr2 (v:=((zbc f T).flatMap fun t=>(zag f.Kind t.val).1).flatMap (sPut f.Kind)) rfl (by
       have:=htw (zbc f T);have:((zbc f T).flatMap (·.val)).length<=(T.flatMap (·.val)).length:=zmI _ (by
        unfold zbc;by_cases hr:f.Repeated=true
        ·rw [xr hr];exact List.Sublist.refl _
        ·rw [xq hr];exact List.drop_sublist _ _)
       omega)
      exact ⟨[q],fun u hu=>by rw [xY.1 hu];exact ⟨q1,q2⟩,by simp [q3]⟩
     ·have hrw:zaU f.Number (zab f.Kind)=true:=znt (by
       have:1<=f.Kind/\f.Kind<=14:=yx hk;exact xO (by omega)) n1 n2
      have hx0:=zyt hwb;have hfit:zbt (zab f.Kind) (sPut f.Kind (((zbc f T).flatMap fun t=>(zag f.Kind t.val).1).headD 0))=true:=by
       have:=zrp hk [((zbc f T).flatMap fun t=>(zag f.Kind t.val).1).headD 0] (fun w hw=>by rw [xY.1 hw];exact hx0);refine (zro hk (([((zbc f T).flatMap fun t=>(zag f.Kind t.val).1).headD 0]:List Int).flatMap (sPut f.Kind)) _ ?_).1;rw [this];simp
      have hl:=zhS (k:=f.Kind) hx0;obtain ⟨q,q1,q2,q3⟩:=zCW hrw hfit (by omega);exact ⟨[q],fun u hu=>by rw [xY.1 hu];exact ⟨q1,q2⟩,by simp [q3]⟩
    ·rw [xq hk,zgI];exact ⟨[],fun q hq=>(by cases hq),rfl⟩
 ·exact ⟨[],fun q hq=>(by cases hq),rfl⟩
theorem zAT (g:Int->List UInt8) (n:Int):∀(ks:List Int),ks.Pairwise (·<·)->(ks.flatMap fun j=>if j=n then g j else [])=if n∈ks then g n else []
 | [],_=>by simp
 | j::ks,h=>by
  obtain ⟨h1,h2⟩:=yd.1 h;rw [xE,zAT g n ks h2];by_cases hj:j=n
  ·subst hj;rw [xr rfl,xq (fun hm=>by have:=h1 _ hm;omega),xQ,xr xt]
  ·rw [xq hj,xH];by_cases hm:n∈ks
   ·rw [xr hm,xr (xu _ hm)]
   ·rw [xq hm,xq (fun h=>by
     rcases xy.1 h with e| h
     ·exact hj e.symm
     ·exact hm h)]
theorem zyl (n:Int) (E:Int->List UInt8):∀(ks:List Int),(∀j∈ks,∃L:List Qd,(∀q∈L,OkQ q/\q.num=j)/\E j=L.flatMap (·.raw))->
  ∃L:List Qd,(∀q∈L,OkQ q)/\ks.flatMap E=L.flatMap (·.raw)/\(L.filter fun q=>q.num==n).flatMap (·.raw)=ks.flatMap fun j=>if j=n then E j else []
 | [],_=>⟨[],(fun q hq=>by cases hq),rfl,rfl⟩
 | j::ks,h=>by
  obtain ⟨L,l1,l2,l3⟩:=zyl n E ks fun i hi=>h i (xu _ hi)
  obtain ⟨K,k1,k2⟩:=h j xt;refine ⟨K++L,fun q hq=>?_,by rw [xE,ym,l2,k2],?_⟩
  ·rcases xF.1 hq with hq| hq
   ·exact (k1 q hq).1
   ·exact l1 q hq
  ·rw [uH,ym,xE,l3];congr 1;by_cases hj:j=n
   ·rw [xr hj,k2,List.filter_eq_self.2 fun q hq=>by rw [(k1 q hq).2,hj];simp]
   ·rw [xq hj,uI.2 fun q hq=>by rw [(k1 q hq).2];simpa using hj];rfl
theorem zGA {s:List Mes} (hs:zca s) {d k:Nat} {b:List UInt8} (hk:k<s.length) (hb:b.length<=520000) (hfi:zH s d k b=none) (n:Int):zH s d k (zhH b n)=none/\(zhH b n).length<=520000/\zbo s k (zhH b n)=zhH (zbo s k b) n:=by
 have hmm:zm s (k:Int)∈s:=by rw [zbq hk];exact xB hk
 have hfld:=hs.fld _ hmm;have hnone:(spl 0 b).2=none:=by
  have h:=hfi;rw [zej,zbX] at h;exact h.2
 have hall:=znl hfi;have hL1:(zai (zm s (k:Int)) b).1=(spl 0 b).1.map (vwOf (zm s k)):=by rw [hall];rfl
 have hOk:=zLT (b:=b);have hsub:∀q∈(zin b).filter (fun q=>q.num==n),OkQ q:=fun q hq=>hOk q (xW.1 hq).1
 obtain ⟨o1,o2⟩:=zFc hsub;have kQ:=zwm hnone n;rw [<-kQ] at o1 o2;have hv:zH s d k (zhH b n)=none:=zEf hfi o1 fun q hq=>by rw [o2] at hq;exact (xW.1 hq).1
 have ku:(zhH b n).length<=520000:=by
  rw [kQ];have:=zmI (fun q:Qd=>q.raw) (List.filter_sublist (p:=fun q:Qd=>q.num==n) (l:=zin b));rw [zJQ hnone] at this;omega
 refine ⟨hv,ku,?_⟩
 -- the numbers of the kP records
 have hwf:∀v∈(zai (zm s (k:Int)) b).1,v.Field≠ -1->(Lit.int .i64 v.R.Number).wf=true:=fun v hv hf=>by
  have h:=(zDD hv).2;rcases zdE (zm s (k:Int)) v.R.Number v.R.Wire with h1| ⟨h1,_⟩| ⟨i,run,h1,h2,h3⟩
  ·rw [h] at h1;cases h1
  ·rw [h] at h1;simp only [uM,yy] at h1;exact absurd h1.1 hf
  ·rcases zcX (zm s (k:Int)) v.R.Number with ⟨q1,_⟩| ⟨j,hj,q1,q2,_⟩
   ·omega
   ·have hfo:=hfld _ (xB hj);have:=hfo.lo;have:=hfo.hi;exact zGD (by omega)
 obtain ⟨ks,_,hkp,hkm⟩:=zwr hwf (yg (zxy _ _) (by omega));obtain ⟨hkn,_,_⟩:=zvJ hs hk hfi hkp hkm;have hkq:∀j,j∈ks↔∃q∈zin b,(thQ (zm s k) q).fi≠ -1/\q.num=j:=fun j=>by
  rw [hkm j,hL1];constructor
  ·rintro ⟨v,hv,h1,h2⟩;obtain ⟨r,hr,rfl⟩:=xA.1 hv;exact ⟨_,yP hr,h1,h2⟩
  ·rintro ⟨q,hq,h1,h2⟩;obtain ⟨r,hr,rfl⟩:=xA.1 hq;exact ⟨_,yP hr,h1,h2⟩
 have hF:=zyp hs hk hfi hkp hkq;have hO:=zyp hs (ks:=if n∈ks then [n] else []) hk hv (by split<;>simp) (fun j=>by
  rw [o2];constructor
  ·intro hj;split at hj
   ·rename_i hm;obtain rfl:=xY.1 hj;obtain ⟨q,hq,h1,h2⟩:=(hkq j).1 hm;exact ⟨q,xW.2 ⟨hq,by simpa using h2⟩,h1,h2⟩
   ·cases hj
  ·rintro ⟨q,hq,h1,h2⟩;obtain ⟨hq1,hq2⟩:=xW.1 hq;have hq2':q.num=n:=by simpa using hq2
   have:j=n:=by rw [<-h2,hq2']
   subst this;rw [xr ((hkq j).2 ⟨q,hq1,h1,h2⟩)];exact xY.2 rfl)
 -- the form's own records
 have hE:∀j∈ks,∃L:List Qd,(∀q∈L,OkQ q/\q.num=j)/\encT s (zt (zm s (k:Int)) (fldI (zm s (k:Int)) j)) (((zin b).filter fun q=>decide ((thQ (zm s k) q).fi≠ -1/\q.num=j)).map (thQ (zm s k)))=L.flatMap (·.raw):=fun j hj=>by
  obtain ⟨i,h1,h2,h3,h4,h5,h6⟩:=hkn j hj;have hfm:zt (zm s (k:Int)) (i:Int)∈(zm s (k:Int)).Fields:=by rw [zbe h1];exact xB h1
  have hfo:=hfld _ hfm;have eT:(zeq (zai (zm s (k:Int)) b).1 j).map (thOf b)=((zin b).filter fun q=>decide ((thQ (zm s k) q).fi≠ -1/\q.num=j)).map (thQ (zm s k)):=by
   rw [hL1];unfold zeq zin;rw [qC,qC,yC,yC];rfl
  rw [<-eT,h3,<-h2];rw [h2];have hb2:(((zeq (zai (zm s (k:Int)) b).1 j).map (thOf b)).flatMap (·.val)).length<=520000:=by
   have hwt:=zod (zm s k) b;have h1:=zvy ((zai (zm s (k:Int)) b).1.map (thOf b));have hths:ths (zm s (k:Int)) b=(zai (zm s (k:Int)) b).1.map (thOf b):=rfl;rw [hths] at hwt;exact yg (zmI _ (List.Sublist.map (thOf b) (List.filter_sublist (p:=fun v:Vw=>decide (v.Field≠ -1/\v.R.Number=j)) (l:=(zai (zm s (k:Int)) b).1)))) (by omega)
  obtain ⟨L,l1,l2⟩:=zGx (s:=s) (d:=d) hs hfo.lo hfo.hi (fun t ht=>(h6 t ht).1) hb2 (fun kq=>by
   have hof:=hfo.sub kq;refine ⟨hof.1,hof.2,fun t ht=>?_⟩;obtain ⟨p1,p2,p3⟩:=h6 t ht;have hr:t.run=false:=by
    cases hr:t.run
    ·rfl
    ·have:=(p1.1 hr).1;rw [kq] at this;cases this
   have:=(p2.one (by omega) hr).2.2.2;rw [p3] at this;exact this kq)
  exact ⟨L,fun q hq=>⟨(l1 q hq).1,by rw [(l1 q hq).2,h2]⟩,l2⟩
 obtain ⟨L,l1,l2,l3⟩:=zyl n _ ks hE;have hU:∀q∈(zin b).filter (fun q=>decide ((thQ (zm s k) q).fi<0)),OkQ q:=fun q hq=>hOk q (xW.1 hq).1
 have hall2:∀q∈L++(zin b).filter (fun q=>decide ((thQ (zm s k) q).fi<0)),OkQ q:=fun q hq=>by
  rcases xF.1 hq with hq| hq
  ·exact l1 q hq
  ·exact hU q hq
 obtain ⟨p1,p2⟩:=zFc hall2;rw [ym,<-l2,<-hF] at p1 p2;rw [zwm p1,p2,uH,ym,l3,zAT _ n ks hkp,hO,o2];congr 1
 ·by_cases hm:n∈ks
  ·rw [xr hm,xr hm,pB];congr 2;rw [List.filter_filter];refine uN fun q _=>?_
   by_cases hq:q.num=n
   ·simp [hq]
   ·simp [hq]
  ·rw [xq hm,xq hm];rfl
 ·rw [List.filter_filter,List.filter_filter];congr 1;refine uN fun q _=>Bool.and_comm _ _
theorem zPG {m:Mes} {b:List UInt8} {d:Nat} {s:List Mes} {k:Nat} (hm:m=zm s k) (hfi:zH s d k b=none) (n:Int):(of10 m b n).flatMap (fun v=>rawB b v.R)=zhH b n:=by
 subst hm;have hall:=znl hfi;have hL1:(zai (zm s (k:Int)) b).1=(spl 0 b).1.map (vwOf (zm s k)):=by rw [hall];rfl
 have hnone:(spl 0 b).2=none:=by
  have h:=hfi;rw [zej,zbX] at h;exact h.2
 unfold of10 zhH splR;rw [hL1,hnone,qC,qm];rfl
theorem zJH {fuel:Nat} {s:List Mes} (root:Int) {b:List UInt8} (d n:Int) (hf:300<=fuel) (hw:WS s) (hb:b.length<=520000):zmt fuel s root b d n=some (ztY s root b d n):=by
 unfold zmt ztY;rw [zBV hw root (by omega) d (by omega),sb];by_cases h0:(zaE s root b d).2=0
 ·have h0':¬(zaE s root b d).2≠0:=fun h=>h h0
  obtain ⟨hr,hd,k,rfl,hk,hv⟩:=zHJ h0;have hmm:zm s (k:Int)∈s:=by rw [zbq hk];exact xB hk
  have hfew:=hr.few _ hmm;obtain ⟨f1,f2,f3⟩:=zGA hr hk hb hv n;have hat:At14 b (of10 (zm s (k:Int)) b n):=fun v hv=>zxK (xW.1 hv).1
  have hofl:(of10 (zm s (k:Int)) b n).length<=1048576:=yg (pz _ _) (yg (zxy _ _) (by omega));have kQ:=zPG (m:=zm s k) rfl hv n;have key:∀(post pre:List Vw),of10 (zm s (k:Int)) b n=pre++post->zhs b ((of10 (zm s (k:Int)) b n).map prV) (pre.flatMap fun v=>rawB b v.R) pre.length=some ((of10 (zm s (k:Int)) b n).flatMap fun v=>rawB b v.R):=by
   intro post
   induction post with
   | nil=>
    intro pre e;rw [xQ] at e;rw [<-e];refine zuu ?_;unfold zgp;rw [uU]
   | cons v post ih=>
    intro pre e;have km:pre.length<(of10 (zm s (k:Int)) b n).length:=by rw [e];simp
    have hvm:v∈of10 (zm s (k:Int)) b n:=by rw [e];simp
    have hti:(of10 (zm s (k:Int)) b n)[pre.length]=v:=by simp [e]
    have hsum:(pre.flatMap fun v=>rawB b v.R).length+(rawB b v.R).length<=520000:=by
     rw [<-kQ,e] at f2;simp only [ym,xE,xz] at f2;omega
    have e1:(prV v).Record.From=v.R.From:=rfl;have e2:(prV v).Record.To=v.R.To:=rfl;refine (zut (own':=(pre++[v]).flatMap fun v=>rawB b v.R) (v':=(((pre++[v]).length:Nat):Int)) ?_).trans (ih (pre++[v]) (by rw [e];simp));unfold zgp;rw [uV,zNl km,sb,hti,e1,e2,zCu hat hvm,sb,zaQ (by omega),sb,uX];simp
  have hl:=key _ [] rfl;have hl':zhs b ((of10 (zm s (k:Int)) b n).map prV) [] 0=_:=hl;rw [itF (by simpa using h0),xq h0',zP rfl hk,sb,<-zbq hk,zQh (by omega) (by omega),sb,hl',sb,kQ,zyM hr (by omega) hd hk f2 f1,sb,f3]
 ·rw [itT (by simpa using h0),xr h0]
end Go.Proofs.YtaglemhabeipfaaGreat
