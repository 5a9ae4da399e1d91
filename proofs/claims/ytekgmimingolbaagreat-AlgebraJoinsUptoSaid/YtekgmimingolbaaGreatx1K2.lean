/-
  What every proof here stands on. No condition.
-/
import Derived.MapKept
import Derived.DeepKeys
import Derived.Lib.AppendZeros
import Derived.Lib.Bytealg
import Derived.Lib.AppendStr
import Derived.RangeFuncRecord
import Derived.RangeFuncSeq
import Derived.RangeFuncBound
import Derived.Lib.SlBytesConst
import Derived.Test.YtekgmimingolbaaGreatx1K1
set_option autoImplicit true
set_option relaxedAutoImplicit true
namespace Go.Proofs.YtekgmimingolbaaGreat
open Go Go.RowKit
set_option linter.unusedVariables false
set_option linter.unusedSectionVars false
theorem zfe {κ ν:Type} [DecidableEq κ] (m:List (κ×ν)) (k j:κ) (x:ν):mget (mput m k x) j=if j=k then some x else mget m j:=by
 induction m with
 | nil=>simp only [mput,mget]
 | cons p m ih=>
  rw [mput];by_cases h:k=p.1
  ·rw [xw h,mget,mget];by_cases hj:j=k
   ·rw [xw hj,xw hj]
   ·rw [xu hj,xu hj,xu (by rw [<-h];exact hj)]
  ·rw [xu h,mget,mget,ih];by_cases hj:j=p.1
   ·have:j≠k:=fun e=>h (by rw [<-e,hj])
    rw [xw hj,xw hj,xu this]
   ·rw [xu hj,xu hj]
theorem zuK {κ ν:Type} [DecidableEq κ] {m:List (κ×ν)} {k:κ} (h:mget m k=none):k∉m.map Prod.fst:=by
 induction m with
 | nil=>simp
 | cons p m ih=>
  rw [mget] at h;split at h
  ·cases h
  ·rename_i hk;simp only [ye,xz,not_or];exact ⟨hk,ih h⟩
theorem zmu {κ ν:Type} [DecidableEq κ] (m:List (κ×ν)) (k:κ) (x:ν):(mput m k x).map Prod.fst=match mget m k with
  | none=>m.map Prod.fst++[k]
  | some _=>m.map Prod.fst:=by
 induction m with
 | nil=>rfl
 | cons p m ih=>
  rw [mput,mget];by_cases hk:k=p.1
  ·rw [xw hk,xw hk];simp [hk]
  ·rw [xu hk,xu hk,ye,ih];cases mget m k<;>rfl
theorem zsV {κ ν:Type} [DecidableEq κ] {m:List (κ×ν)} (h:(m.map Prod.fst).Nodup) (k:κ) (x:ν):((mput m k x).map Prod.fst).Nodup:=by
 rw [zmu];cases hg:mget m k with
 | none=>exact List.nodup_append.2 ⟨h,by simp,fun a ha b hb e=>by
   simp only [yf] at hb;subst hb e;exact zuK hg ha⟩
 | some y=>exact h
theorem zHA {κ ν:Type} [DecidableEq κ] {m:List (κ×ν)} {k:κ} {x:ν} (h:mget m k=some x):k∈m.map Prod.fst:=by
 induction m with
 | nil=>cases h
 | cons p m ih=>
  rw [mget] at h;split at h
  ·rename_i e;rw [e];exact xx
  ·exact xy _ (ih h)
theorem zxK {κ ν:Type} :StOk ([]:List (κ×ν)) #[] cl:=⟨fun x hx=>by simp at hx,by simp,by simp⟩
def znz {κ ν:Type} [DecidableEq κ] (k:κ):List (κ×ν)->List MapEntry->Nat->Option (Nat×Value)
 | p::m,e::es,i=>if k=p.1 then some (i,e.val) else znz k m es (i+1)
 | _,_,_=>none
def asV {α:Type} (r:Rp α) (x:α) (D:List Nat) (a:AV):Prop:=∀γ w v,a.rel γ w v->VRel (γ.F D) w r x v
theorem zyv {v:Value} (h:v.oneCell'=true):v.cells=#[v]:=by cases v<;>first| rfl| cases h
theorem zvb {α:Type} {F:Fp} {w:World} {r:Rp α} {x:α} {l:LV} {v:Value} (hr:r.agg=false) (hl:r.lv x=[l]) (h:zbk F w l v):VRel F w r x v:=by
 have hc:=zyv h.one;refine ⟨?_,⟨fun e=>?_,fun _=>hc⟩⟩
 ·rw [hl,hc];exact .cons h .nil
 ·rw [hr] at e;cases e
theorem zum {α:Type} {F:Fp} {w:World} {r:Rp α} {x:α} {l:LV} {v:Value} (hr:r.agg=false) (hl:r.lv x=[l]) (h:VRel F w r x v):zbk F w l v:=by
 have h1:=h.1;rw [hl,h.2.2 hr] at h1;exact h1.2 0 l v rfl rfl
theorem zei {α:Type} {r:Rp α} {x:α} {l:LV} (hr:r.agg=false) (hl:r.lv x=[l]):asV r x [] (.lf l):=fun γ w v h=>zvb hr hl (h.2.plain h.1)
theorem zea {α:Type} {r:Rp α} {x:α} {C:List Nat} (hr:r.agg=true):asV r x C (.rc r C x):=fun γ w v ⟨cs,hv,hA⟩=>by
 subst hv;refine ⟨by simpa [Value.cells] using hA,⟨fun _=>⟨cs,rfl⟩,fun e=>?_⟩⟩;rw [hr] at e;cases e
theorem asV.sub {α:Type} {r:Rp α} {x:α} {D D':List Nat} {a:AV} (h:asV r x D a) (hs:subN D D'=true):asV r x D' a:=fun γ w v hv=>(h γ w v hv).mono fun b _ hb=>zaq hs _ hb
def elAV {α:Type} (r:Rp α) (C:List Nat) (x:α) (a:AV):Prop:=∀γ w v,VRel (γ.F C) w r x v->a.rel γ w v
theorem zzD {α:Type} {r:Rp α} {C:List Nat} {x:α} (hr:r.agg=true):elAV r C x (.rc r C x):=fun γ w v h=>by
 obtain ⟨cs,rfl⟩:=h.2.1 hr;exact ⟨cs,rfl,by simpa [Value.cells] using h.1⟩
theorem zpv {α:Type} {r:Rp α} {C:List Nat} {x:α} {l:LV} (hr:r.agg=false) (hl:r.lv x=[l]) (hp:l.plain=true):elAV r C x (.lf l):=fun γ w v h=>⟨hp,(zum hr hl h).plain hp⟩
theorem zIJ {α:Type} (r:Rp α) (C:List Nat) (xs:List α):elAV (Rp.list r) C xs (.sl r C xs):=fun γ w v h=>zum rfl rfl h
structure KeyT (P:Program) {κ:Type} [DecidableEq κ] (kt:TypeId) (r:Rp κ):Prop where
 check:∀(w:World) (e:Bool) (F:Fp) (k:κ) (v:Value),VRel F w r k v->(Instr.checkKey e 10000 kt v).run P w= .ok () w
 find:∀(w:World) (F F':Fp) (k:κ) (v:Value) (ν:Type) (rv:Rp ν) (m:List (κ×ν)) (es:List MapEntry),VRel F w r k v->zdY F' w r rv m es->(Instr.findKey kt v es).run P w= .ok (znz k m es 0) w
 stays:∀(w:World) (F F':Fp) (k:κ) (v v':Value),VRel F w r k v->VRel F' w r k v'->Instr.sameBits 10000 v v'=true
theorem zxU {α:Type} {F:Fp} {w:World} {r:Rp α} {x:α} {l:LV} {v:Value} (hr:r.agg=false) (hl:r.lv x=[l]) (hp:l.plain=true) (h:VRel F w r x v):v=zcE l:=zws (zum hr hl h) hp
theorem zGF {P:Program} {κ ν:Type} [DecidableEq κ] {kt:TypeId} {d:TypeDesc} {r:Rp κ} {rv:Rp ν} (hu:P.underlying kt=some d) (hs:∀(F F':Fp) (w:World) (a b:κ) (u v:Value),VRel F w r a u->VRel F' w r b v->Instr.sameNow d u v=some (decide (a=b)))
  (w:World) (F F':Fp) (k:κ) (v:Value) (m:List (κ×ν)) (es:List MapEntry) (hk:VRel F w r k v) (he:zdY F' w r rv m es):(Instr.findKey kt v es).run P w= .ok (znz k m es 0) w:=by
 have key:∀i,Instr.findNow d v es i=some (znz k m es i):=by
  induction he with
  | nil=>intro i;rfl
  | cons h1 h2 _ ih=>
   intro i;rw [Instr.findNow,hs _ _ w _ _ _ _ hk h1,znz];split
   ·rename_i h;rw [xw (by simpa using h)]
   ·rename_i h;rw [xu (by simpa using h),ih]
   ·rename_i h;cases h
 simp [Instr.findKey,run_underlying hu,key 0]
def zHL:TypeDesc->Bool
 | .int _| .bool| .string=>true
 | _=>false
theorem zis (hu:P.underlying t=some d) (hd:zHL d=true) (e:Bool) (n:Nat) (v:Value) (w:World):(Instr.checkKey e (n+1) t v).run P w= .ok () w:=by
 rw [Instr.checkKey];simp only [xO,yM hu,xM];cases d<;>first| (cases v<;>rfl;done)| cases hd
theorem zot (n:Nat) (h:l.plain=true) (hv:∀v,l≠ .val v):Instr.sameBits n (zcE l) (zcE l)=true:=by
 cases l with
 | int k a=>cases n<;>simp [Instr.sameBits,zcE]
 | bool b=>cases n<;>simp [Instr.sameBits,zcE]
 | str s=>
  have:(({data:=s.toArray}:ByteArray)=={data:=s.toArray})=true:=by rw [beq_toListBytes];simp
  cases n<;>simp [Instr.sameBits,zcE,this]
 | sl=>cases h
 | val v=>exact absurd rfl (hv v)
theorem zDb {P:Program} {κ:Type} [DecidableEq κ] {kt:TypeId} {d:TypeDesc} {r:Rp κ} (hu:P.underlying kt=some d) (hd:zHL d=true) (lf:κ->LV) (hr:r.agg=false) (hl:∀x,r.lv x=[lf x]) (hp:∀x,(lf x).plain=true) (hv:∀x v,lf x≠ .val v)
  (hs:∀a b,Instr.sameNow d (zcE (lf a)) (zcE (lf b))=some (decide (a=b))):KeyT P kt r:=by
 have hc:∀{F:Fp} {w:World} {x:κ} {v:Value},VRel F w r x v->v=zcE (lf x):=fun {F w x v} h=>zxU hr (hl x) (hp x) h
 refine ⟨fun w e F x v h=>zis hu hd e 9999 v w,fun w F F' x v ν rv m es h he=>zGF hu (fun F F' w a b u v h1 h2=>?_) w F F' x v m es h he,fun w F F' x v v' h h'=>?_⟩
 ·rw [hc h1,hc h2];exact hs a b
 ·rw [hc h,hc h'];exact zot _ (hp x) (hv x)
theorem zwQ {P:Program} {kt:TypeId} {k:IntKind} (hu:P.underlying kt=some (.int k)):KeyT P kt (Rp.int k):=
 zDb hu rfl (fun x=> .int k x) rfl (fun _=>rfl) (fun _=>rfl) (fun _ _=>nofun) fun a b=>by simp only [Instr.sameNow,zcE,yI,yj];by_cases h:a=b<;>simp [h]
theorem zxT {α:Type} {F:Fp} {w:World} {r:Rp α} {x:α} {v:Value} (hr:r.agg=true) (hp:(r.lv x).all LV.plain=true) (h:VRel F w r x v):v= .agg ((r.lv x).map zcE).toArray:=by
 obtain ⟨cs,rfl⟩:=h.2.1 hr;have h1:=h.1;simp only [Value.cells] at h1;rw [<-zAP h1 hp]
theorem zqO :∀(fs:List Field) (ls:List LV) (off:Nat),zpR P off fs ls=true->ls.all LV.plain=true/\∀l∈ls,∀v,l≠ .val v
 | [],[],_,_=>⟨rfl,nofun⟩
 | f::fs,l::ls,off,h=>by
  simp only [zpR,xA] at h;obtain ⟨⟨⟨⟨_,_⟩,_⟩,hk⟩,h2⟩:=h;obtain ⟨i1,i2⟩:=zqO fs ls _ h2;have:l.plain=true/\∀v,l≠ .val v:=by
   unfold zpy at hk;split at hk<;>first| exact ⟨rfl,nofun⟩| cases hk
  refine ⟨by simp [this.1,i1],fun x hx=>?_⟩;cases hx with
  | head=>exact this.2
  | tail _ hx=>exact i2 x hx
 | [],_::_,_,h=>by cases h
 | _::_,[],_,h=>by cases h
theorem zpV (e:Bool) (n:Nat) (w:World):∀(fs:List Field) (ls:List LV) (off:Nat),zpR P off fs ls=true->(∀i,i<ls.length->xs[off+i]? =(ls.map zcE)[i]?)->
  (forIn (m := Sem) fs PUnit.unit fun f _ => if f.name ≠ "_" then (do let p ← part f.type xs f.offset; Instr.checkKey e (n + 1) f.type p; pure (ForInStep.yield PUnit.unit)) else pure (ForInStep.yield PUnit.unit)).run P w = .ok PUnit.unit w
 | [],[],_,_,_=>rfl
 | f::fs,l::ls,off,h,hx=>by
  simp only [zpR,xA] at h;obtain ⟨⟨⟨⟨a1,a2⟩,a3⟩,a4⟩,a5⟩:=h;have hn : f.name ≠ "_" := by simpa using a1
  have ho:=xL a2;have p1:=qW a3 (xs:=xs) (off:=f.offset) (v:=zcE l) (w:=w) (by rw [ho];simpa using hx 0 (by simp));have hc:(Instr.checkKey e (n+1) f.type (zcE l)).run P w= .ok () w:=by
   generalize hu:P.underlying f.type=u at a4
   unfold zpy at a4;split at a4<;>first| (exact zis hu rfl e n _ w)| cases a4
  have ih:=zpV e n w fs ls (off+1) a5 (fun i hi=>by have:=hx (i+1) (by simpa using hi);simpa [Nat.add_assoc,Nat.add_comm 1 i] using this);simp only [List.forIn_cons,hn,ne_eq,not_false_eq_true,yI,xO,p1,hc,xM,yl];exact ih
 | [],_::_,_,h,_=>by cases h
 | _::_,[],_,h,_=>by cases h
theorem zsr (hu:P.underlying t=some (.struct fs)) (h:zpR P 0 fs.toList ls=true) (e:Bool) (n:Nat) (w:World):
  (Instr.checkKey e (n+1+1) t (.agg (ls.map zcE).toArray)).run P w= .ok () w:=by
 rw [Instr.checkKey];simp only [xO,yM hu,xM];rw [<-Array.forIn_toList];have:=zpV (P:=P) (xs:=(ls.map zcE).toArray) e n w fs.toList ls 0 h (fun i _=>by simp);rw [this];rfl
theorem zvi {P:Program} {κ ν:Type} [DecidableEq κ] {kt:TypeId} {r:Rp κ} {rv:Rp ν} {w:World} {F':Fp} {k:κ} {v:Value} {m:List (κ×ν)} {es:List MapEntry}
  (hq:∀(b:κ) (u:Value),VRel F' w r b u->(Op.equal kt v u).run P w= .ok (decide (k=b)) w) (he:zdY F' w r rv m es):∀i,(Instr.findAsking kt v es i).run P w= .ok (znz k m es i) w:=by
 induction he with
 | nil=>intro i;rfl
 | cons h1 h2 _ ih=>
  intro i;rw [Instr.findAsking,znz];simp only [xO,hq _ _ h1,xM];split
  ·rename_i h;rw [xw (by simpa using h)];rfl
  ·rename_i h;rw [xu (by simpa using h)];exact ih (i+1)
theorem zyM {P:Program} {κ:Type} [DecidableEq κ] {kt:TypeId} {fs:Array Field} {r:Rp κ} (hu:P.underlying kt=some (.struct fs)) (hp:P.stoodInHeld kt=false) (hr:r.agg=true) (hf:∀x,zpR P 0 fs.toList (r.lv x)=true)
  (he:∀a b,eqL (r.lv a) (r.lv b)=decide (a=b)):KeyT P kt r:=by
 have hv:∀{F:Fp} {w:World} {x:κ} {v:Value},VRel F w r x v->v= .agg ((r.lv x).map zcE).toArray:=fun {F w x v} h=>zxT hr (zqO _ _ _ (hf x)).1 h
 refine ⟨fun w e F x v h=>?_,fun w F F' x v ν rv m es h hes=>?_,fun w F F' x v v' h h'=>?_⟩
 ·rw [hv h];exact zsr hu (hf x) e 9998 w
 ·rw [hv h];cases hes with
  | nil=>simp [Instr.findKey,run_underlying hu,Instr.findNow,znz]
  | cons h1 h2 h3=>
   have hq:∀(b:κ) (u:Value),VRel F' w r b u->(Op.equal kt (.agg ((r.lv x).map zcE).toArray) u).run P w= .ok (decide (x=b)) w:=fun b u hu'=>by
    rw [hv hu'];exact eqT hu hp (hf x) (hf b) (he x b) w
   have:=zvi hq (.cons h1 h2 h3) 0;simp only [Instr.findKey,xO,yM hu,xM,Instr.findNow,Instr.sameNow];exact this
 ·rw [hv h,hv h'];obtain ⟨p1,p2⟩:=zqO _ _ _ (hf x);show Instr.sameBits (9999+1) _ _=true;simp only [Instr.sameBits,BEq.rfl,xR,xJ];intro p hp';have hz:∀(l:List Value) (q:Value×Value),q∈l.zip l->q.1=q.2/\q.1∈l:=by
   intro l
   induction l with
   | nil=>intro q hq;cases hq
   | cons a l ih=>
    intro q hq;cases hq with
    | head=>exact ⟨rfl,xx⟩
    | tail _ hq=>exact ⟨(ih q hq).1,xy _ (ih q hq).2⟩
  obtain ⟨e1,e2⟩:=hz _ p hp';obtain ⟨l,hl,e3⟩:=xP.1 (by simpa using e2);obtain ⟨pa,pb⟩:=p;simp only at e1 e3|-;subst e1;rw [<-e3];exact zot _ (by simp only [xJ] at p1;exact p1 l hl) (p2 l hl)
theorem zmU (h:w.heap[b]? =some (.map es cl)):(getObj b).run P w= .ok (.map es cl) w:=by simp [getObj,Sem.run,h]
theorem zxE (ob:Obj) (h:w.heap[b]? =some (.map es cl)):(setObj b ob).run P w= .ok () {w with heap:=w.heap.setIfInBounds b ob}:=by simp [setObj,Sem.run,h]
section
variable {P:Program} {o:Oper} {κ ν:Type} {rk:Rp κ} {rv:Rp ν} {C D:List Nat} {m:List (κ×ν)} {t kt et:TypeId}
def isMp (rk:Rp κ) (rv:Rp ν) (m:List (κ×ν)) (D:List Nat) (a:AV):Prop:=∀γ w v,a.rel γ w v->AV.rel γ w (.mp rk rv D m) v
theorem ztE (rk:Rp κ) (rv:Rp ν) (m:List (κ×ν)) (C:List Nat):isMp rk rv m C (.mp rk rv C m):=fun _ _ _ h=>h
theorem zEf (rk:Rp κ) (rv:Rp ν) (m:List (κ×ν)) (ℓ:Nat) (C:List Nat):isMp rk rv m (ℓ::C) (.om rk rv ℓ C m):=fun γ w v ⟨b,es,cl,hv,⟨g1,_⟩,hb,hh,hE,_⟩=>
 ⟨b,es,cl,hv,by rw [g1];exact xx,hb,hh,hE.mono fun _ _ h=>xy _ h⟩
theorem zJI (C C':List Nat) (m:List (κ×ν)) (h:subN C C'=true):AV.le (.mp rk rv C m) (.mp rk rv C' m):=fun _ _ _ ⟨b,es,cl,hv,hF,hb,hh,hE⟩=>⟨b,es,cl,hv,zaq h _ hF,hb,hh,hE.mono fun _ _ h'=>zaq h _ h'⟩
theorem zyN (ℓ:Nat) (C C':List Nat) (m:List (κ×ν)) (h:subN C C'=true) (hn:memN ℓ C'=false):AV.le (.om rk rv ℓ C m) (.om rk rv ℓ C' m):=fun _ _ _ ⟨b,es,cl,hv,g,hb,hh,hE,_⟩=>
 ⟨b,es,cl,hv,g,hb,hh,hE.mono fun _ _ h'=>zaq h _ h',fun hc=>by rw [zbt.2 hc] at hn;cases hn⟩
theorem zzE {F:Fp} {w:World} {es:List MapEntry} (h:zdY F w rk rv m es):m.length=es.length:=by
 induction h with
 | nil=>rfl
 | cons _ _ _ ih=>simp [ih]
theorem zEt {x:Operand} {a:AV} (ho:o.op= .call ⟨.builtin .len,#[x],#[t]⟩) (hu:P.underlying t=some (.map kt et)) (hm:isMp rk rv m D a):zA P o [(x,a)] [] [] [] (.lf (.int .i64 (m.length:Int))) []:=by
 refine zS fun γ ev w hi _=>?_
 obtain ⟨b',es,cl,hv,hF,hb,hh,hE⟩:=hm γ w _ (hi (x,a) (by simp));simp only at hv;refine ⟨.int .i64 (m.length:Int),w,γ,?_,Tr.refl _ _ _ _,zkF _ _ _ _,fun b hb=>by cases hb⟩;refine zdA (args:=[x]) (ts:=[t]) ho rfl rfl rfl fun consts=>?_
 simp [builtin,Builtin.len_,run_underlying hu,hv,zmU hh.1,goInt,zzE hE]
theorem ztL (ℓ:Nat) (ho:o.op= .makeMap t none):zA P o [] [] [] [ℓ] (.om rk rv ℓ [] []) []:=by
 refine zS fun γ ev w hi _=>?_
 refine ⟨.map (some w.heap.size),w.alloc (.map #[] 0),_,?_,zpN γ w ℓ _,⟨w.heap.size,#[],0,rfl,⟨zkr _ _ _ _,zfy _ _ _ _⟩,by simp,⟨yO w _,zxK⟩,.nil,by simp⟩,fun b hb=>by cases hb⟩;simp [execOp,ho,Instr.makeMap]
theorem zFu {x:Operand} {n:Int} {k:IntKind} (ℓ:Nat) (ho:o.op= .makeMap t (some x)) (hu:P.underlying t=some (.map kt et)):zA P o [(x,.lf (.int k n))] [] [] [ℓ] (.om rk rv ℓ [] []) []:=by
 refine zS fun γ ev w hi _=>?_
 have h2:=zfA (hi (x,.lf (.int k n)) (by simp));simp only at h2;refine ⟨.map (some w.heap.size),w.alloc (.map #[] 0),_,?_,zpN γ w ℓ _,⟨w.heap.size,#[],0,rfl,⟨zkr _ _ _ _,zfy _ _ _ _⟩,by simp,⟨yO w _,zxK⟩,.nil,by simp⟩,fun b hb=>by cases hb⟩;simp [execOp,ho,Instr.makeMap,run_underlying hu,h2,asInt,asIntOf]
end
structure MapT (P:Program) {κ ν:Type} [DecidableEq κ] (t kt et:TypeId) (rk:Rp κ) (rv:Rp ν) (x0:ν):Prop where
 u:P.underlying t=some (.map kt et)
 key:KeyT P kt rk
 zero:∃i z,P.info? et=some i/\i.zero=some z/\zokL (rv.lv x0) z.cells.toList=true/\(rv.agg=true->∃cs:List Value,z= .agg cs.toArray)/\(rv.agg=false->z.cells=#[z])
def aggB:Value->Bool
 | .agg _=>true
 | _=>false
def zvB (P:Program) {ν:Type} (et:TypeId) (rv:Rp ν) (x0:ν):Bool:=match P.info? et with
 | some i=>match i.zero with
  | some z=>zokL (rv.lv x0) z.cells.toList&&(if rv.agg then aggB z else z.oneCell')
  | none=>false
 | none=>false
theorem MapT.ofB {P:Program} {κ ν:Type} [DecidableEq κ] {t kt et:TypeId} {rk:Rp κ} {rv:Rp ν} {x0:ν} (hu:P.underlying t=some (.map kt et)) (hk:KeyT P kt rk) (h:zvB P et rv x0=true):MapT P t kt et rk rv x0:=by
 refine ⟨hu,hk,?_⟩;unfold zvB at h;split at h
 ·rename_i i hi;split at h
  ·rename_i z hz;simp only [xA] at h;refine ⟨i,z,hi,hz,h.1,fun e=>?_,fun e=>?_⟩
   ·have h2:=h.2;rw [e,xw rfl] at h2;cases z<;>first| cases h2;done| skip
    rename_i cs;exact ⟨cs.toList,by simp⟩
   ·have h2:=h.2;rw [e] at h2;exact zyv h2
  ·cases h
 ·cases h
section
variable {P:Program} {o:Oper} {κ ν:Type} [DecidableEq κ] {rk:Rp κ} {rv:Rp ν} {C D:List Nat} {m:List (κ×ν)} {t kt et:TypeId} {x0:ν}
theorem zwF (k:κ) (h:zdY F w rk rv m es):∀i,(mget m k=none/\znz k m es i=none)\/
  ∃x j e,mget m k=some x/\znz k m es i=some (i+j,e.val)/\es[j]? =some e/\VRel F w rk k e.key/\VRel F w rv x e.val/\
   ∀kv xv y,VRel F w rk k kv->VRel F w rv y xv->zdY F w rk rv (mput m k y) (es.modify j fun e=>{e with key:=kv,val:=xv}):=by
 induction h with
 | nil=>intro i;exact .inl ⟨rfl,rfl⟩
 | @cons p m e es h1 h2 h3 ih=>
  intro i;by_cases hk:k=p.1
  ·refine .inr ⟨p.2,0,e,by rw [mget,xw hk],by rw [znz,xw hk];rfl,rfl,by rw [hk];exact h1,h2,fun kv xv y g1 g2=>?_⟩;rw [mput,xw hk];simp only [List.modify_zero_cons];exact .cons g1 g2 h3
  ·rcases ih (i+1) with ⟨g1,g2⟩| ⟨x,j,e',g1,g2,g3,g4,g5,g6⟩
   ·exact .inl ⟨by rw [mget,xu hk,g1],by rw [znz,xu hk,g2]⟩
   ·refine .inr ⟨x,j+1,e',by rw [mget,xu hk,g1],by rw [znz,xu hk,g2];congr 2;omega,by simpa using g3,g4,g5,fun kv xv y q1 q2=>?_⟩;rw [mput,xu hk];simp only [List.modify_succ_cons];exact .cons h1 h2 (g6 kv xv y q1 q2)
theorem zdY.snoc (h:zdY F w rk rv m es) (hn:mget m k=none) (h1:VRel F w rk k e.key) (h2:VRel F w rv x e.val):zdY F w rk rv (mput m k x) (es++[e]):=by
 induction h with
 | nil=>exact .cons h1 h2 .nil
 | @cons p m e' es g1 g2 g3 ih=>
  rw [mget] at hn;split at hn
  ·cases hn
  ·rename_i hk;rw [mput,xu hk];exact .cons g1 g2 (ih hn)
theorem zmV (hT:MapT P t kt et rk rv x0) (hh:w.heap[b]? =some (.map es cl)) (hE:zdY F w rk rv m es.toList) (hk:VRel F' w rk k kv) (ok:Bool):
  ∃v,(Instr.lookup t (.map (some b)) kv ok).run P w= .ok (if ok then .tuple #[v,.bool (mget m k).isSome] else v) w/\VRel F w rv ((mget m k).getD x0) v:=by
 obtain ⟨i,z,hi,hz,hzo,hza,hzb⟩:=hT.zero;have hf:=hT.key.find w F' F k kv ν rv m es.toList hk hE;have hc:=hT.key.check w es.isEmpty F' k kv hk;have hzero:(zeroValue et).run P w= .ok z w:=by simp [zeroValue,typeInfo,hi,hz]
 rcases zwF k hE 0 with ⟨g1,g2⟩| ⟨x,j,e,g1,g2,g3,g4,g5,_⟩
 ·refine ⟨z,?_,?_⟩
  ·unfold Instr.lookup;simp only [xO,yM hT.u,xM,zmU hh,yl,hc,hf,g2,g1,hzero,Option.isSome_none]
  ·rw [g1];exact ⟨zuq hzo F w,hza,hzb⟩
 ·refine ⟨e.val,?_,?_⟩
  ·unfold Instr.lookup;simp only [xO,yM hT.u,xM,zmU hh,yl,hc,hf,g2,g1,Option.isSome_some]
  ·rw [g1];exact g5
theorem zEr (ea:AV) (ho:o.op= .lookup t x z false) (hT:MapT P t kt et rk rv x0) (hm:isMp rk rv m D a) (hk:asV rk k C b) (he:elAV rv D ((mget m k).getD x0) ea):
  zA P o [(x,a),(z,b)] [] [] [] ea []:=by
 refine zS fun γ ev w hi _=>?_
 obtain ⟨b',es,cl,hv,hF,hb,hh,hE⟩:=hm γ w _ (hi (x,a) (by simp));have h2:=hk γ w _ (hi (z,b) (by simp));simp only at hv h2;obtain ⟨v,hr,hV⟩:=zmV hT hh.1 hE h2 false;exact ⟨v,w,γ,by simp [execOp,ho,hv,hr],Tr.refl _ _ _ _,he γ w v hV,fun b hb=>by cases hb⟩
theorem zHx (ea:AV) (ho:o.op= .lookup t x z true) (hT:MapT P t kt et rk rv x0) (hm:isMp rk rv m D a) (hk:asV rk k C b) (he:elAV rv D ((mget m k).getD x0) ea):
  zA P o [(x,a),(z,b)] [] [] [] (.tup [ea,.lf (.bool (mget m k).isSome)]) []:=by
 refine zS fun γ ev w hi _=>?_
 obtain ⟨b',es,cl,hv,hF,hb,hh,hE⟩:=hm γ w _ (hi (x,a) (by simp));have h2:=hk γ w _ (hi (z,b) (by simp));simp only at hv h2;obtain ⟨v,hr,hV⟩:=zmV hT hh.1 hE h2 true;exact ⟨_,w,γ,by simp [execOp,ho,hv,hr],Tr.refl _ _ _ _,⟨[v,.bool (mget m k).isSome],rfl,v,_,rfl,he γ w v hV,_,_,rfl,zvV _ _ _,rfl⟩,fun b hb=>by cases hb⟩
theorem zxD {F F' F2:Fp} {w:World} {b:Nat} {es:Array MapEntry} {cl:Nat} {k:κ} {x:ν} {kv xv:Value} (hO:StOk m es cl) (hT:MapT P t kt et rk rv x0) (hh:w.heap[b]? =some (.map es cl)) (hE:zdY F w rk rv m es.toList) (hk:VRel F' w rk k kv) (hF':∀b,F' b->F b) (hx:VRel F2 w rv x xv) (hF2:∀b,F2 b->F b):
  ∃es' cl',(Instr.mapUpdate t (.map (some b)) kv xv).run P w= .ok () {w with heap:=w.heap.setIfInBounds b (.map es' cl')}/\zdY F w rk rv (mput m k x) es'.toList/\StOk (mput m k x) es' cl':=by
 have hk1:=hk.mono (G:=F) fun b _ h=>hF' b h
 have hx1:=hx.mono (G:=F) fun b _ h=>hF2 b h
 have hf:=hT.key.find w F' F k kv ν rv m es.toList hk hE;have hc:=hT.key.check w false F' k kv hk;rcases zwF k hE 0 with ⟨g1,g2⟩| ⟨y,j,e,g1,g2,g3,g4,g5,g6⟩
 ·refine ⟨es.push {key:=kv,val:=xv,born:=cl},cl+1,?_,?_,fun y hy=>?_,?_,zsV hO.2.2 _ _⟩
  ·unfold Instr.mapUpdate;simp only [xO,yM hT.u,xM,zmU hh,hc,hf,g2];exact zxE _ hh
  ·rw [up];exact hE.snoc g1 hk1 hx1
  ·rw [up] at hy;rcases xD.1 hy with hy| hy
   ·exact Nat.lt_succ_of_lt (hO.1 y hy)
   ·simp only [yf] at hy;subst hy;exact Nat.lt_succ_self _
  ·rw [up,qX];refine List.nodup_append.2 ⟨hO.2.1,by simp,fun a ha b hb e=>?_⟩;simp only [ye,qY,yf] at hb;subst hb e;obtain ⟨y,hy,e⟩:=xP.1 ha;exact pz _ (e▸hO.1 y hy)
 ·have hbs:((es.modify j fun e=>{e with key:=kv,val:=xv}).toList.map (·.born))=es.toList.map (·.born):=by
   rw [Array.toList_modify];apply pL;intro i;simp only [yB,List.getElem?_modify];cases es.toList[i]? with
   | none=>rfl
   | some e0=>simp only [pG];split<;>rfl
  refine ⟨es.modify j fun e=>{e with key:=kv,val:=xv},cl,?_,?_,fun y hy=>?_,by rw [hbs];exact hO.2.1,zsV hO.2.2 _ _⟩
  ·have hst:=hT.key.stays w F F' k e.key kv g4 hk;have hge:((es[j]?).map (·.key)).getD kv=e.key:=by
    have:es[j]? =some e:=by rw [<-g3];simp
    rw [this];rfl
   unfold Instr.mapUpdate;simp only [xO,yM hT.u,xM,zmU hh,hc,hf,g2,xE,hge,Instr.keyThatStays,hst,yI,yl];exact zxE _ hh
  ·rw [Array.toList_modify];exact g6 kv xv x hk1 hx1
  ·have:y.born∈es.toList.map (·.born):=by rw [<-hbs];exact ql hy
   obtain ⟨z,hz,e⟩:=xP.1 this;rw [<-e];exact hO.1 z hz
theorem zDD (hcol:γ.col b=ℓ) (ob:Obj):Tr [ℓ] [] γ w γ {w with heap:=w.heap.setIfInBounds b ob}:=
 ⟨rfl,rfl,rfl,by simp,fun c hb hn=>by
  have:b≠c:=fun e=>hn (by rw [<-e,hcol];exact xx)
  simp [this],fun _ _=>rfl,fun _ _=>rfl,fun b h1 h2=>absurd h2 (by simp;omega)⟩
theorem zfV 
  (ks:List Nat) (k:κ) (x:ν) (C2:List Nat) (hT:MapT P t kt et rk rv x0) (hg:zgN ops E o=some true) (ho:o.op= .mapUpdate t y z u\/o.op= .insert t y z u) (hd:o.dst=none) (hy:E.opd y=some (.om rk rv ℓ C m)) (hz:E.opd z=some ak) (hu:E.opd u=some av)
  (hka:asV rk k C1 ak) (hva:asV rv x D av) (hk:E.pick ks []=some ⟨ks.map fun k=>(k,.om rk rv ℓ C m),[]⟩) (hC:(subN C C2&&subN C1 C2&&subN D C2&& !memN ℓ C2&&Nat.ble 2 ℓ)=true)
  (k2:zcM P N ops rest ⟨(ks.map fun j=>(j,.om rk rv ℓ C2 (mput m k x)))++(E.step [ℓ] [] none .any []).sl,(E.step [ℓ] [] none .any []).bx⟩ E'):zcM P N ops (o::rest) E E':=by
 intro cx a' w Q hn hs hQ;simp only [xA] at hC;obtain ⟨⟨⟨⟨hC1,hC2⟩,hC3⟩,hC4⟩,hC5⟩:=hC;obtain ⟨γ,hB,hS,hX⟩:=hs;have hsl:∀kk∈ks,AV.rel γ w (.om rk rv ℓ C m) (a'.tmps.getD kk undef):=by
  have hS1:Sl γ w a' (ks.map fun k=>(k,AV.om rk rv ℓ C m)):=by
   have hk':=hk;unfold Env.pick at hk';split at hk'
   ·rename_i s b h1 h2;simp only [yj,Env.mk.injEq] at hk';rw [<-hk'.1];exact fun p hp=>hS p (zmR _ _ h1 p hp)
   ·cases hk'
  intro kk hkk;exact hS1 (kk,.om rk rv ℓ C m) (xP.2 ⟨kk,hkk,rfl⟩)
 obtain ⟨b,es,cl,hv,⟨g1,g2⟩,hb,hh,hE,hnC⟩:=Env.opd_rel hy hS;have hkr:=hka γ w _ (Env.opd_rel hz hS);have hxr:=hva γ w _ (Env.opd_rel hu hS);have hE2:zdY (γ.F C2) w rk rv m es.toList:=hE.mono fun b _ h=>zaq hC1 _ h
 obtain ⟨es',cl',hrun,hE',hO'⟩:=zxD hh.2 hT hh.1 hE2 hkr (fun b h=>zaq hC2 _ h) hxr (fun b h=>zaq hC3 _ h);have hrun':(execOp a'.eval o).run P w= .ok .skip {w with heap:=w.heap.setIfInBounds b (.map es' cl')}:=by
  rcases ho with ho| ho<;>simp [execOp,ho,hv,hrun]
 have ht:=zDD (w:=w) g1 (.map es' cl');have hnot:∀c∈C2,c∉[ℓ]:=fun c hc h=>by
  simp only [xz,xF,xG] at h;subst h;exact zds hC4 hc
 refine zhJ (zfG hg hS) (zmP hrun' ?_);rw [hd];refine k2 cx _ _ Q hn ⟨γ,(hB.tr ht (W:=[ℓ]) (V:=[]) (by simp [okW,hC5]) rfl).put _ _ (fun k hk=>by first| cases hk| (rw [hd] at hk;cases hk)),?_,hX.tr ht⟩ hQ;intro p hp;rcases xD.1 hp with hp| hp
 ·obtain ⟨kk,hkk,rfl⟩:=xP.1 hp;obtain ⟨b',es2,cl2,hv2,⟨q1,q2⟩,_⟩:=hsl kk hkk;have hbb:b'=b:=by rw [<-q2,g2]
  subst hbb;exact ⟨b',es',cl',hv2,⟨q1,q2⟩,by simpa using hb,⟨by simp [hb],hO'⟩,ht.es hnot hE',fun hc=>zds hC4 hc⟩
 ·exact ((hS.tr ht):Sl _ _ _ _) p hp
theorem zdY.app (h:zdY F w rk rv m1 l1) (k:zdY F w rk rv m2 l2):zdY F w rk rv (m1++m2) (l1++l2):=by
 induction h with
 | nil=>exact k
 | cons h1 h2 _ ih=>exact .cons h1 h2 ih
theorem zdY.split :∀{l1:List MapEntry} {m:List (κ×ν)},zdY F w rk rv m (l1++e::l2)->∃m1 p m2,m=m1++p::m2/\zdY F w rk rv m1 l1/\VRel F w rk p.1 e.key/\VRel F w rv p.2 e.val/\zdY F w rk rv m2 l2
 | [],_,h=>by cases h with| cons h1 h2 h3=>exact ⟨[],_,_,rfl,.nil,h1,h2,h3⟩
 | _::l1,_,h=>by
  cases h with
  | cons h1 h2 h3=>
   obtain ⟨m1,p,m2,rfl,g1,g2,g3,g4⟩:=h3.split (l1:=l1);exact ⟨_::m1,p,m2,rfl,.cons h1 h2 g1,g2,g3,g4⟩
end
theorem zmt (ho:o.op= .call ⟨.builtin .cap,#[x],#[t]⟩) (hu:P.underlying t=some (.slice e)):
  zA P o [(x,.lf (.val (.slice none n 0)))] [] [] [] (.lf (.int .i64 0)) []:=by
 refine zS fun γ ev w hi _=>?_
 have h1:=zsM (hi (x,.lf (.val (.slice none n 0))) (by simp));simp only at h1;refine ⟨.int .i64 0,w,γ,zdA (args:=[x]) (ts:=[t]) ho rfl rfl rfl fun consts=>?_,Tr.refl _ _ _ _,zkF _ _ _ _,fun b hb=>by cases hb⟩;simp [builtin,h1,Builtin.cap_,run_underlying hu,goInt]
theorem zBH {w:World} {e:TypeId} {size n:Nat} {v:Value} {cs:List Value} (h:w.ownsRow 0 e size v n cs) {j:Nat} (hj:j<=n):
  ∃A c,v= .slice A n c/\n<=c/\w.ownsRow 0 e size (.slice (if c=0 then A else A.map (·.add (0*size))) j (c - 0)) j (cs.take (j*size))/\
   Value.ownBlock (.slice (if c=0 then A else A.map (·.add (0*size))) j (c - 0))=v.ownBlock:=by
 have hle:j*size<=n*size:=yg _ hj;rcases h.2 with ⟨rfl,hz⟩| ⟨g,cap,cur,rfl,hg,hh,hnc,hcm,hcs,htake⟩
 ·subst hz;have:j=0:=by omega
  subst this;exact ⟨none,0,rfl,xB _,⟨by simp,.inl ⟨rfl,rfl⟩⟩,rfl⟩
 ·have e1:(if cap=0 then (some ⟨g,0,none⟩:Option Addr) else (some (⟨g,0,none⟩:Addr)).map (·.add (0*size)))=some ⟨g,0,none⟩:=by
   split
   ·rfl
   ·simp [zlo]
  refine ⟨_,cap,rfl,hnc,?_,by rw [e1];rfl⟩;rw [e1];refine ⟨by rw [xK,h.1];omega,.inr ⟨g,cap,cur,rfl,hg,hh,by omega,hcm,hcs,?_⟩⟩;rw [<-htake,qZ,yN hle]
theorem zzX {P:Program} {o:Oper} {α:Type} {r:Rp α} {xs ys:List α} {C:List Nat} {j:Int} {k:IntKind} {t e:TypeId} {x y:Operand} {bytes ℓ:Nat}
  (ho:o.op= .slice t x none (some y) none) (hT:ElT P t e r.size bytes) (hy:cut xs 0 j=some ys):
  zA P o [(x,.own r e ℓ C xs),(y,.lf (.int k j))] [] [ℓ] [] (.own r e ℓ C ys) []:=by
 refine zS fun γ ev w hin _=>?_
 obtain ⟨cs,hown,hgb,hA,hnC⟩:=hin (x,.own r e ℓ C xs) (by simp);have h2:=zfA (hin (y,.lf (.int k j)) (by simp));simp only at hown hgb h2;obtain ⟨c0,c1,c2,rfl⟩:=ztv hy;have hl:=zDS hy;obtain ⟨A,c,hv,hc,hown',hblk⟩:=zBH hown (j:=j.toNat) (by omega);have hr:=zAl hT w A xs.length c hc none (some (.int k j)) 0 j (.inl ⟨rfl,rfl⟩) (.inr ⟨k,rfl⟩) (by omega) c1 c2;rw [show (0:Int).toNat=0 from rfl,qE j.toNat] at hr;refine ⟨_,w,γ,by simp only [execOp,ho,hv,h2,Option.map_none,pG,xO,hr];rfl,Tr.refl _ _ _ _,⟨cs.take (j.toNat*r.size),?_,fun g hg=>hgb g ?_,?_,hnC⟩,fun b hb=>by cases hb⟩
 ·rw [hl,show (0:Int).toNat=0 from rfl,qE];exact hown'
 ·rw [<-hblk];exact hg
 ·have:=hA.take (j.toNat*r.size);rw [show (0:Int).toNat=0 from rfl,qE,xX,r.flat_take];exact this
theorem zuG {P:Program} {o:Oper} {k:IntKind} {t e:TypeId} {x y:Operand} {size bytes:Nat} (ho:o.op= .slice t x none (some y) none) (hT:ElT P t e size bytes):
  zA P o [(x,.lf (.val (.slice none 0 0))),(y,.lf (.int k 0))] [] [] [] (.lf (.val (.slice none 0 0))) []:=by
 refine zS fun γ ev w hin _=>?_
 have h1:=zsM (hin (x,.lf (.val (.slice none 0 0))) (by simp));have h2:=zfA (hin (y,.lf (.int k 0)) (by simp));simp only at h1 h2;have hr:=zAl hT w none 0 0 (xB _) none (some (.int k 0)) 0 0 (.inl ⟨rfl,rfl⟩) (.inr ⟨k,rfl⟩) (by omega) (by omega) (by omega);exact ⟨_,w,γ,by simp only [execOp,ho,h1,h2,Option.map_none,pG,xO,hr];rfl,Tr.refl _ _ _ _,⟨rfl,.val _ rfl⟩,fun b hb=>by cases hb⟩
theorem zxW (z:Array Value) (n:Nat):Builtin.zeroCells z n=madeCells z (n*z.size):=rfl
theorem zzW {P:Program} {o:Oper} {α:Type} {r:Rp α} {x0:α} {k kn:IntKind} {n:Int} {xs:List α} {t tn e:TypeId} {x y:Operand} {bytes:Nat} (ℓ:Nat)
  (ho:o.op= .call ⟨.builtin .append,#[x,y],#[t,tn]⟩) (htn:P.underlying tn=some (.int kn)) (hT:ZeT P t e r bytes x0) (hb:Nat.blt 0 bytes=true) (hm:mkO bytes x0 n n=some xs):
  zA P o [(x,.lf (.val (.slice none 0 0))),(y,.lf (.int k n))] [] [] [ℓ] (.own r e ℓ [] xs) []:=by
 refine zS fun γ ev w hin _=>?_
 have h1:=zsM (hin (x,.lf (.val (.slice none 0 0))) (by simp));have h2:=zfA (hin (y,.lf (.int k n)) (by simp));simp only at h1 h2;unfold mkO at hm;split at hm
 case isFalse=>cases hm
 rename_i hh;obtain ⟨h0,_,hlim⟩:=hh;cases hm;obtain ⟨m,rfl⟩:∃m:Nat,n=m:=⟨n.toNat,by omega⟩;obtain ⟨i,z,hi',hz,hs,hby,hzs,hzo⟩:=hT.ex;have hbp:0<bytes:=qa (xW hb);have hL:(LIM:Int)=140737488355328:=rfl;have hlim':m*bytes<=140737488355328:=by
  have:((m*bytes:Nat):Int)<=140737488355328:=by rw [Int.natCast_mul];omega
  omega
 have hmb:m<=m*bytes:=Nat.le_mul_of_pos_right _ hbp;rcases pj m with rfl| hpos
 ·refine ⟨.slice none 0 0,w,{γ with box:=fun q=>γ.box q},zdA (args:=[x,y]) (ts:=[t,tn]) ho rfl rfl rfl fun consts=>?_,⟨rfl,rfl,rfl,xB _,fun _ _ _=>rfl,fun _ _=>rfl,fun _ _=>rfl,fun b h1 h2=>absurd h2 (qh.2 h1)⟩,⟨[],pA w 0 e r.size,(fun g hg=>nomatch hg),zW.nil,by simp⟩,fun b hb=>by cases hb⟩;have hw:IntKind.i64.wrap 0=0:=rfl;simp [builtin,h1,h2,Builtin.append_,run_underlying hT.u,run_underlying htn,sizeOf,typeInfo,hi',asInt,asIntOf,hw]
 ·have hr:=Go.Lib.run_append_nil_zeros (P:=P) w t tn o.type e i z k kn hT.u htn hi' hz m hpos (by rw [hs];exact r.pos) (by omega) (by rw [hby];omega);have hge:=grownCap_ge w m 0 e;have hcm:grownCap w m 0 e<=maxLen:=grownCap_le_maxLen w m 0 e (by unfold maxLen;omega);have hnew:=yO w.drew (.cells (Builtin.zeroCells z.cells m++Builtin.zeroCells z.cells (grownCap w m 0 e - m)) e);have hzl:(Builtin.zeroCells z.cells m).toList.length=m*r.size:=by rw [yF,uq,hzs]
  refine ⟨.slice (some ⟨w.heap.size,0,none⟩) m (grownCap w m 0 e),w.drew.alloc (.cells (Builtin.zeroCells z.cells m++Builtin.zeroCells z.cells (grownCap w m 0 e - m)) e),zdL γ w.heap.size ℓ w.heap.size,
   zdA (args:=[x,y]) (ts:=[t,tn]) ho rfl rfl rfl fun consts=>by simp only [builtin,ye,qY,h1,h2,xO,hr];rfl,
   ⟨rfl,rfl,rfl,by simp,fun b hb _=>heap_alloc_old w.drew _ hb,fun b hb=>by simp [zdL,hb],fun k hk=>?_,fun b hb _ h=> .inr (by simp [zdL,Nat.not_lt.2 hb] at h;simp [h])⟩,⟨(Builtin.zeroCells z.cells m).toList,?_,fun g hg=>?_,?_,by simp⟩,fun b hb=>by cases hb⟩
  ·simp only [xz,xF,xG] at hk;simp [zdL,hk]
  ·rw [pn,yp];refine ⟨hzl,.inr ⟨w.heap.size,_,_,rfl,xI _,hnew,hge,hcm,?_,?_⟩⟩
   ·rw [Array.size_append,uq,uq,hzs,<-Nat.add_mul];congr 1;omega
   ·rw [Array.toList_append,<-hzl];exact List.take_left
  ·cases hg;simp [zdL]
  ·rw [yp];have:=zwW hzs hzo ((zdL γ w.heap.size ℓ w.heap.size).F []) (w.drew.alloc (.cells (Builtin.zeroCells z.cells m++Builtin.zeroCells z.cells (grownCap w m 0 e - m)) e)) m m (xB _);rw [yP (by rw [yF,pm];exact xB _)] at this;have e:(Builtin.zeroCells z.cells m).toList=(madeCells z.cells (m*r.size)).toList:=by rw [zxW,hzs]
   rw [e];exact this
structure ByT (P:Program) (t e:TypeId):Prop where
 u:P.underlying t=some (.slice e)
 ex:∃i,P.info? e=some i/\i.zero=some (.int .u8 0)/\i.size=1/\i.bytes=1
def byB (P:Program) (e:TypeId):Bool:=match P.info? e with
 | some i=>(match i.zero with
  | some (.int .u8 n)=>decide (n=0)
  | _=>false)&&Nat.beq i.size 1&&Nat.beq i.bytes 1
 | none=>false
theorem ByT.ofB (hu:P.underlying t=some (.slice e)) (h:byB P e=true):ByT P t e:=by
 unfold byB at h;split at h
 ·rename_i i hi;simp only [xA] at h;obtain ⟨⟨h1,h2⟩,h3⟩:=h;split at h1
  ·rename_i n hz;have:=qm h1;subst this;exact ⟨hu,i,hi,hz,xL h2,xL h3⟩
  ·cases h1
 ·cases h
theorem zqW {P:Program} {o:Oper} {α:Type} {r:Rp α} {D:List Nat} {x:α} {t:TypeId} {y:Operand} {off:Nat} (l:LV)
  (ho:o.op= .load t y) (hT:zfk P t=true) (hs:(r.lv x)[off]? =some l) (hp:l.plain=true):zA P o [(y,.ep r D x off)] [] [] [] (.lf l) []:=by
 refine zS fun γ ev w hi _=>?_
 obtain ⟨b,o',cs,hv,hF,hb,hA,hc⟩:=hi (y,.ep r D x off) (by simp);simp only at hv;have hlen:off<cs.length:=by rw [<-hA.1];exact (xZ.1 hs).1
 have hr:=hA.2 off _ _ hs (xH hlen);have hcell:=hc off hlen;rw [xH hlen] at hcell;exact ⟨_,w,γ,by simp [execOp,ho,hv,ziY hT hcell],Tr.refl _ _ _ _,⟨hp,hr.plain hp⟩,fun b hb=>by cases hb⟩
theorem zA.withBx (h:zA P o ins bxs W V av bs) (b:Bx) (hW:memN b.lab W=false) (hV:memN b.lab V=false):
  zA P o ins (b::bxs) (b.lab::W) V av (⟨b.lab,b.typ,b.avs.map (AV.clear W V)⟩::bs):=by
 intro γ a w hi hb next Q hk;refine h γ a w hi (fun c hc=>hb c (xy _ hc)) next Q fun γ' w' v t hv hbs=>hk γ' w' v ?_ hv fun c hc=>?_
 ·exact ⟨t.os,t.tape,t.output,t.size,fun b' hb' hn=>t.block b' hb' (fun hm=>hn (xy _ hm)),t.col,t.box,fun b' h1 h2 h0=>(t.fresh b' h1 h2 h0).imp (xy _) id⟩
 ·rcases xz.1 hc with rfl| hc
  ·obtain ⟨hcol,cs,hh,hL,hone⟩:=hb b xx;have nW:b.lab∉W:=fun hm=>by rw [zbt.2 hm] at hW;cases hW
   have nV:b.lab∉V:=fun hm=>by rw [zbt.2 hm] at hV;cases hV
   have hlt:γ.box b.lab<w.heap.size:=(xY.1 hh).1;have hbx:γ'.box b.lab=γ.box b.lab:=t.box _ nV;refine ⟨?_,cs,?_,zmS hL t,hone⟩
   ·simp only;rw [hbx,t.col _ hlt,hcol]
   ·simp only;rw [hbx,t.block _ hlt (by rw [hcol];exact nW)];exact hh
  ·exact hbs c hc
theorem zmd {a b c:AV} (h:a.le b) (k:b.le c):a.le c:=fun γ w v hv=>k γ w v (h γ w v hv)
theorem zaE {α:Type} (r:Rp α) (C:List Nat) (x:α) (l:List AV) (h:zjc l=some (r.lv x)) (hC:subN (AV.colsL l) C=true):AV.le (.ag l) (.rc r C x):=fun _ _ _ ⟨vs,hv,hL,_⟩=>
 ⟨vs,hv,zkx h hL (zaq hC)⟩
theorem zIV {α:Type} (r:Rp α) (C:List Nat) (x:α) (l:List AV) (h:zjc l=some (r.lv x)) (hC:l.all (ztJ C)=true):AV.le (.rc r C x) (.ag l):=fun _ _ _ ⟨vs,hv,hA⟩=>
 ⟨vs,hv,zll h hA hC,hA.one⟩
theorem zks (h:leL l m):AV.le (.ag l) (.ag m):=fun _ _ _ ⟨vs,hv,hL,h1⟩=>⟨vs,hv,ztH h hL,h1⟩
def zGr:AV->Option (List AV)
 | .ag l=>some l
 | a=>match zpB a with
  | true=>some [a]
  | false=>none
theorem zCJ (h:zGr a=some l) (hr:a.rel γ w v):AV.relL γ w l v.cells.toList/\∀u∈v.cells.toList,u.oneCell'=true:=by
 have one:zpB a=true->a.rel γ w v->AV.relL γ w [a] v.cells.toList/\∀u∈v.cells.toList,u.oneCell'=true:=fun h1 h2=>by
  obtain ⟨g1,g2⟩:=ztK h1 h2;rw [g2];exact ⟨⟨v,[],rfl,h2,rfl⟩,fun u hu=>by simp at hu;subst hu;exact g1⟩
 cases a with
 | ag m=>cases h;obtain ⟨vs,rfl,hL,h1⟩:=hr;exact ⟨hL,h1⟩
 | any=>cases h
 | lf l=>cases h;exact one rfl hr
 | sl r C xs=>cases h;exact one rfl hr
 | own r e ℓ C xs=>cases h;exact one rfl hr
 | rc=>cases h
 | ep r C x off=>cases h;exact one rfl hr
 | ptr ℓ off=>cases h;exact one rfl hr
 | bs ℓ n=>cases h;exact one rfl hr
 | tl=>cases h
 | qp r C o=>cases h;exact one rfl hr
 | em rk rv C m=>cases h;exact one rfl hr
 | mo=>cases h
 | cu c ℓ C1 C2=>cases h;exact one rfl hr
 | mp rk rv C m=>cases h;exact one rfl hr
 | om rk rv ℓ C m=>cases h;exact one rfl hr
 | tup=>cases h
 | fv g l=>cases h;exact one rfl hr
 | bp=>cases h
 | it=>cases h
def setA (cs:List AV) (off:Nat) (l:List AV):List AV:=cs.take off++l++cs.drop (off+l.length)
def zDZ (place:Nat->Option (Nat×Nat)) (cs:List AV):List (Nat×Operand)->List AV->Option (List AV)
 | [],[]=>some cs
 | (i,_)::ps,a::as=>match zGr a,place i with
  | some l,some (off,size)=>match Nat.beq l.length size&&Nat.ble (off+l.length) cs.length with
   | true=>zDZ place (setA cs off l) ps as
   | false=>none
  | _,_=>none
 | _,_=>none
theorem zyB {γ:Gh} {w:World} {ev:Operand->Value} {place:Nat->Option (Nat×Nat)}:∀(ps:List (Nat×Operand)) (as cs:List AV) (cells:Array Value) (out:List AV),zDZ place cs ps as=some out->
  AV.relL γ w cs cells.toList->(∀u∈cells.toList,u.oneCell'=true)->(∀p∈(ps.map (·.2)).zip as,p.2.rel γ w (ev p.1))->
  ∃cells',Instr.fill place cells (ps.map fun p=>(p.1,ev p.2))=some cells'/\AV.relL γ w out cells'.toList/\∀u∈cells'.toList,u.oneCell'=true
 | [],[],cs,cells,out,h,hA,h1,_=>by cases h;exact ⟨cells,rfl,hA,h1⟩
 | (i,x)::ps,a::as,cs,cells,out,h,hA,h1,hp=>by
  rw [zDZ] at h;split at h
  ·rename_i l off size hl hpl;split at h
   ·rename_i hb;simp only [xA] at hb;have e1:=xL hb.1;have e2:=xW hb.2;obtain ⟨g1,g2⟩:=zCJ hl (hp (x,a) (by simp));have hvl:(ev x).cells.toList.length=l.length:=zdc g1;have hcl:cells.size=cs.length:=by rw [<-yF];exact zdc hA
    have hset:=zwI off (ev x).cells.toList 0 cells (by simp at hvl|-;omega);simp only [yL] at hset;have hA2:AV.relL γ w (setA cs off l) ((ev x).cells.toList.zipIdx.foldl (fun (cs:Array Value) (p:Value×Nat)=>cs.setIfInBounds (off+p.2) p.1) cells).toList:=by
     rw [hset];unfold setA;rw [hvl];exact zkw (zkw (zoV _ _ _ hA) g1) (zoU _ _ _ hA)
    have h1':∀u∈((ev x).cells.toList.zipIdx.foldl (fun (cs:Array Value) (p:Value×Nat)=>cs.setIfInBounds (off+p.2) p.1) cells).toList,u.oneCell'=true:=by
     rw [hset];intro u hu;simp only [xD] at hu;rcases hu with (hu| hu)| hu
     ·exact h1 u (pI hu)
     ·exact g2 u hu
     ·exact h1 u (pJ hu)
    obtain ⟨cells',hf,hr,hr1⟩:=zyB ps as _ _ out h hA2 h1' (fun p hp'=>hp p (by simp [hp']));refine ⟨cells',?_,hr,hr1⟩;rw [ye,Instr.fill,hpl];simp only;rw [xu (by simp at hvl|-;omega)];rw [<-hf];congr 1;rw [<-uh];simp
   ·cases h
  ·cases h
 | [],_::_,_,_,_,h,_,_,_=>by cases h
 | _::_,[],_,_,_,h,_,_,_=>by cases h
structure StA (P:Program) (t:TypeId) (places:List (Nat×Nat)) (zs:List AV):Prop where
 ex:∃fs z,P.underlying t=some (.struct fs)/\(∀w,(zeroValue t).run P w= .ok z w)/\(∀w,(fs.mapM (m:=Sem) fun (f:Field)=>do pure (f.offset,<-sizeOf f.type)).run P w= .ok places.toArray w)/\zzr zs z.cells.toList=true
def staB (P:Program) (t:TypeId) (fs:Array Field) (places:List (Nat×Nat)) (zs:List AV):Bool:=zxH P fs.toList places&&match P.info? t with
 | some i=>match i.zero with
  | some z=>zzr zs z.cells.toList
  | none=>false
 | none=>false
theorem StA.ofB (hu:P.underlying t=some (.struct fs)) (h:staB P t fs places zs=true):StA P t places zs:=by
 simp only [staB,xA] at h;obtain ⟨h1,h2⟩:=h;split at h2
 ·rename_i i hi;split at h2
  ·rename_i z hz;refine ⟨fs,z,hu,fun w=>by simp [zeroValue,typeInfo,hi,hz],fun w=>?_,h2⟩;have:=ztf fs.toList places h1 w;rw [<-qz (xs:=fs),ue,Sem.run_map];rw [this];rfl
  ·cases h2
 ·cases h2
theorem zbK {P:Program} {o:Oper} {t:TypeId} {parts:List (Nat×Operand)} {places:List (Nat×Nat)} {zs:List AV} (as l:List AV)
  (ho:o.op= .build t parts.toArray) (hT:StA P t places zs) (hf:zDZ (fun i=>places[i]?) zs parts as=some l):
  zA P o ((parts.map (·.2)).zip as) [] [] [] (.ag l) []:=by
 refine zS fun γ ev w hi _=>?_
 obtain ⟨fs,z,hu,hz,hpl,hzo⟩:=hT.ex;obtain ⟨z1,z2⟩:=zzs hzo γ w;obtain ⟨cells',hfill,hA,h1⟩:=zyB (γ:=γ) (w:=w) (ev:=ev) parts as zs z.cells _ hf z1 z2 hi;have hfill':Instr.fill (fun i=>places.toArray[i]?) z.cells (parts.map fun p=>(p.1,ev p.2))=some cells':=by
  rw [<-hfill];congr 1;funext i;simp
 refine ⟨.agg cells',w,γ,?_,Tr.refl _ _ _ _,⟨cells'.toList,by simp,hA,h1⟩,fun b hb=>by cases hb⟩;simp only [execOp,ho,Instr.build,xO,hz,yM hu,xM,hpl,pi];have e:(List.map (fun (x:Nat×Operand)=>(x.1,ev x.2)) parts)=parts.map fun p=>(p.1,ev p.2):=rfl
 simp only [hfill',yl,xM]
theorem zIY {P:Program} {o:Oper} {t f:Nat} {fs:Array Field} {fd:Field} {y:Operand} {l:List AV} (a:AV) (ho:o.op= .field t y f) (hu:P.underlying t=some (.struct fs)) (hf:fs[f]? =some fd) (hT:∀w,(isAgg fd.type).run P w= .ok false w)
  (hs:l[fd.offset]? =some a):zA P o [(y,.ag l)] [] [] [] a []:=by
 refine zS fun γ ev w hi _=>?_
 obtain ⟨cs,hv,hL,_⟩:=hi (y,.ag l) (by simp);simp only at hv;obtain ⟨v,hv',hr⟩:=ztW hL hs;have hlen:fd.offset<cs.length:=(xZ.1 hv').1;have e:cs[fd.offset]=v:=(xZ.1 hv').2;exact ⟨v,w,γ,by simp [execOp,ho,hv,Instr.field,run_underlying hu,hf,asAgg,part,hT,hlen,e],Tr.refl _ _ _ _,hr,fun b hb=>by cases hb⟩
theorem zIX (ℓ:Nat) (ho:o.op= .box t x) (hf:AV.free [] [ℓ] (.ag l)=true):zA P o [(x,.ag l)] [] [] [ℓ] (.ptr ℓ 0) [⟨ℓ,t,l⟩]:=by
 refine zS fun γ ev w hi _=>?_
 have h0:=hi (x,.ag l) (by simp);obtain ⟨f1,f2⟩:=AV.free_spec hf;have h0':=(AV.ag l).keep (zpN γ w ℓ (.cells (ev x).cells t)) f1 f2 h0;obtain ⟨vs,hv,_,_⟩:=h0;obtain ⟨vs',hv',hL,h1⟩:=h0';simp only at hv hv';refine ⟨.pointer (some ⟨w.heap.size,0,none⟩),w.alloc (.cells (ev x).cells t),_,?_,zpN γ w ℓ _,?_,fun b hb=>?_⟩
 ·simp [execOp,ho,Instr.box,newVar,newRow]
 ·show _=_;rw [zfy]
 ·simp only [xz,xF,xG] at hb;subst hb;refine ⟨by rw [zfy,zkr],vs',?_,hL,h1⟩;rw [zfy];have:(ev x).cells=vs'.toArray:=by rw [hv'];rfl
  rw [this];exact yO w _
theorem zdg (m:List AV) (ho:o.op= .load t y) (hT:AggT P t n) (hs:(b.avs.drop off).take n=m) (hn:Nat.beq m.length n=true):
  zA P o [(y,.ptr b.lab off)] [b] [] [] (.ag m) []:=by
 refine zS fun γ ev w hi hb=>?_
 have h1:ev y=_:=hi (y,.ptr b.lab off) (by simp);obtain ⟨hcol,cs,hh,hL,hone⟩:=hb b (by simp);subst hs;have hL':=zoV _ _ n (zoU _ _ off hL);have hlen:((cs.drop off).take n).length=n:=by rw [zdc hL'];exact xL hn
 have hl:=zfl hT (w:=w) (b:=γ.box b.lab) (o:=off) (cs:=(cs.drop off).take n) hlen fun i hi=>by
  rw [hlen] at hi;rw [yv w _ _ _ _ _ hh,yk,xw hi,yG];simp
 exact ⟨_,w,γ,by simp [execOp,ho,h1,Instr.loadAt,Instr.sureAddr,hl],Tr.refl _ _ _ _,⟨_,rfl,hL',fun u hu=>hone u (pJ (pI hu))⟩,fun b hb=>by cases hb⟩
theorem zim (l:List AV) (ho:o.op= .store t y z) (hsz:∀w,(sizeOf t).run P w= .ok n w) (hn:Nat.beq l.length n=true)
  (hoff:Nat.ble (off+n) b.avs.length=true) (hf:AV.free [b.lab] [] (.ag l)=true):
  zA P o [(y,.ptr b.lab off),(z,.ag l)] [b] [b.lab] [] .any [⟨b.lab,b.typ,(b.avs.map (AV.clear [b.lab] [])).take off++l++(b.avs.map (AV.clear [b.lab] [])).drop (off+n)⟩]:=by
 intro γ av w hi hb next Q hk;have h1:av.eval y=_:=hi (y,.ptr b.lab off) (by simp);have h0:=hi (z,.ag l) (by simp);obtain ⟨us,hv,hA,hA1⟩:=h0;simp only at hv;obtain ⟨hcol,cs,hh,hL,hone⟩:=hb b (by simp);have hus:us.length=n:=by rw [zdc hA];exact xL hn
 have hoff':off+n<=cs.length:=by rw [zdc hL];exact xW hoff
 have hst:=qC P (γ.box b.lab) off b.typ us 0 cs.toArray w hh (by simp;omega) hA1;simp only [yL,hus] at hst;have hrun:(execOp av.eval o).run P w= .ok .skip (w.setRow (γ.box b.lab) (cs.take off++us++cs.drop (off+n)).toArray):=by
  simp [execOp,ho,h1,hv,Instr.storeAt,Instr.sureAddr,storeVar,hsz,Value.cells,hus,hst]
 unfold Oper.wp;rw [hrun,ul];have ht:=zuY (w:=w) hcol (cs.take off++us++cs.drop (off+n)).toArray;obtain ⟨f1,f2⟩:=AV.free_spec hf;obtain ⟨us',hv',hA',_⟩:=(AV.ag l).keep ht f1 f2 (show AV.rel γ w (.ag l) (av.eval z) from ⟨us,hv,hA,hA1⟩);have eu:us'=us:=by rw [hv] at hv';simpa using hv'.symm
 subst eu;have hL':=zmS hL ht;refine hk γ _ undef ht trivial fun b' hb'=>?_
 simp only [xz,xF,xG] at hb';subst hb';refine ⟨hcol,cs.take off++us'++cs.drop (off+n),qf w _ _ _ _ _ hh,zkw (zkw (zoV _ _ _ hL') hA') (zoU _ _ _ hL'),fun u hu=>?_⟩;simp only [xD] at hu;rcases hu with (h| h)| h
 ·exact hone u (pI h)
 ·exact hA1 u h
 ·exact hone u (pJ h)
def zCI:List Bx->List AV->Prop
 | [],[]=>True
 | b::bs,.bp r t ℓ C x::cs=>(ℓ=b.lab/\t=b.typ/\zjc b.avs=some (r.lv x)/\subN (AV.colsL b.avs) C=true)/\zCI bs cs
 | _,_=>False
theorem zwr :∀(xs:List Operand) (bs:List Bx) (cs:List AV),zCI bs cs->xs.length=bs.length->(∀p∈xs.zip (bs.map fun b=>AV.ptr b.lab 0),p.2.rel γ w (ev p.1))->Bxs γ w bs->AV.relL γ w cs (xs.map ev)
 | [],[],[],_,_,_,_=>rfl
 | [],[],_::_,h,_,_,_=>h.elim
 | x::xs,b::bs,.bp r t ℓ C y::cs,h,hl,hi,hb=>by
  obtain ⟨⟨rfl,rfl,h1,h2⟩,h3⟩:=h;refine ⟨ev x,xs.map ev,rfl,?_,zwr xs bs cs h3 (by simpa using hl) (fun p hp=>hi p (xy _ hp)) (fun c hc=>hb c (xy _ hc))⟩;have hv:=hi (x,.ptr b.lab 0) xx;obtain ⟨hc,cells,hh,hL,hone⟩:=hb b xx;exact ⟨γ.box b.lab,cells.toArray,hv,⟨hc,rfl⟩,(xY.1 hh).1,hh,by simpa using hone,by simpa using zkx h1 hL (zaq h2)⟩
 | _::_,_::_,[],h,_,_,_=>h.elim
 | _::_,_::_,.any::_,h,_,_,_=>h.elim
 | _::_,_::_,.lf _::_,h,_,_,_=>h.elim
 | _::_,_::_,.sl ..::_,h,_,_,_=>h.elim
 | _::_,_::_,.own ..::_,h,_,_,_=>h.elim
 | _::_,_::_,.rc ..::_,h,_,_,_=>h.elim
 | _::_,_::_,.ep ..::_,h,_,_,_=>h.elim
 | _::_,_::_,.ptr ..::_,h,_,_,_=>h.elim
 | _::_,_::_,.bs ..::_,h,_,_,_=>h.elim
 | _::_,_::_,.tl ..::_,h,_,_,_=>h.elim
 | _::_,_::_,.qp ..::_,h,_,_,_=>h.elim
 | _::_,_::_,.em ..::_,h,_,_,_=>h.elim
 | _::_,_::_,@AV.mo _ _ _ _ _ _ _ _ _::_,h,_,_,_=>h.elim
 | _::_,_::_,.cu ..::_,h,_,_,_=>h.elim
 | _::_,_::_,.mp ..::_,h,_,_,_=>h.elim
 | _::_,_::_,.om ..::_,h,_,_,_=>h.elim
 | _::_,_::_,.tup ..::_,h,_,_,_=>h.elim
 | _::_,_::_,.ag ..::_,h,_,_,_=>h.elim
 | _::_,_::_,.fv ..::_,h,_,_,_=>h.elim
 | _::_,_::_,.it ..::_,h,_,_,_=>h.elim
 | [],_::_,_,_,hl,_,_=>by simp at hl
 | _::_,[],_,_,hl,_,_=>by simp at hl
theorem zIZ (xs:List Operand) (bs:List Bx) (cs:List AV) (ho:o.op= .makeFunc (.func g) #[] xs.toArray) (hc:zCI bs cs) (hl:xs.length=bs.length):
  zA P o (xs.zip (bs.map fun b=>AV.ptr b.lab 0)) bs [] [] (.fv g cs) []:=by
 refine zS fun γ ev w hi hb=>?_
 exact ⟨.func (.func g) #[] (xs.map ev).toArray,w,γ,by simp [execOp,ho,Instr.makeFunc],Tr.refl _ _ _ _,⟨xs.map ev,rfl,zwr xs bs cs hc hl hi hb⟩,fun b hb=>by cases hb⟩
theorem zbk.regh {γ γ':Gh} {w:World} {C:List Nat} (h:∀b,b<w.heap.size->γ.col b∈C->γ'.col b=γ.col b) {l:LV} {v:Value} (hr:zbk (γ.F C) w l v):zbk (γ'.F C) w l v:=
 hr.mono fun b hl hb=>by show γ'.col b∈C;rw [h b hl hb];exact hb
theorem zW.regh {γ γ':Gh} {w:World} {C:List Nat} (h:∀b,b<w.heap.size->γ.col b∈C->γ'.col b=γ.col b) {ls:List LV} {cs:List Value} (hr:zW (γ.F C) w ls cs):zW (γ'.F C) w ls cs:=
 hr.mono fun b hl hb=>by show γ'.col b∈C;rw [h b hl hb];exact hb
mutual
theorem AV.regh {γ γ':Gh} {w:World} (a:AV) {v:Value} (h:∀b,b<w.heap.size->γ.col b∈a.cols->γ'.col b=γ.col b) (hb:∀ℓ∈a.labs,γ'.box ℓ=γ.box ℓ) (hr:a.rel γ w v):a.rel γ' w v:=by
 match a with
 | .any=>trivial
 | .lf l=>exact hr
 | .sl r C xs=>exact zbk.regh h hr
 | .own r e ℓ C xs=>
  obtain ⟨cs,ho,hg,hA,hn⟩:=hr;refine ⟨cs,ho,fun g hgb=>?_,hA.regh (fun b hl hc=>h b hl (xy _ hc)),hn⟩;obtain ⟨g1,g2⟩:=hg g hgb;exact ⟨(h g (ho.lt g hgb).2 (by rw [g1];exact xx)).trans g1,(hb ℓ xx).trans g2⟩
 | .rc r C x=>obtain ⟨cs,hv,hA⟩:=hr;exact ⟨cs,hv,hA.regh h⟩
 | .ep r C x off=>
  obtain ⟨b,o,cs,hv,hF,hlt,hA,hcell⟩:=hr;exact ⟨b,o,cs,hv,by rw [h b hlt hF];exact hF,hlt,hA.regh h,hcell⟩
 | .ptr ℓ off=>show v=_;rw [hb ℓ xx];exact hr
 | .bs ℓ n=>show v=_;rw [hb ℓ xx];exact hr
 | .tl ℓ off n=>obtain ⟨A,c,hv,hA⟩:=hr;exact ⟨A,c,hv,fun hn=>by rw [hb ℓ xx];exact hA hn⟩
 | .qp r C none=>exact hr
 | .qp r C (some x)=>
  obtain ⟨b,cs,hv,hF,hlt,hA,hcell⟩:=hr;exact ⟨b,cs,hv,by rw [h b hlt hF];exact hF,hlt,hA.regh h,hcell⟩
 | .mp rk rv C m=>
  obtain ⟨b,es,cl,hv,hF,hlt,hh,hE⟩:=hr;exact ⟨b,es,cl,hv,by rw [h b hlt hF];exact hF,hlt,hh,hE.mono fun b hl hc=>by show γ'.col b∈C;rw [h b hl hc];exact hc⟩
 | .em rk rv C m=>
  obtain ⟨a,b,es,cl,hv,hFa,ha,hc1,hF,hlt,hh,hE⟩:=hr;exact ⟨a,b,es,cl,hv,by rw [h a ha hFa];exact hFa,ha,hc1,by rw [h b hlt hF];exact hF,hlt,hh,hE.mono fun b hl hc=>by show γ'.col b∈C;rw [h b hl hc];exact hc⟩
 | .om rk rv ℓ C m=>
  obtain ⟨b,es,cl,hv,⟨g1,g2⟩,hlt,hh,hE,hn⟩:=hr;exact ⟨b,es,cl,hv,⟨(h b hlt (by rw [g1];exact xx)).trans g1,(hb ℓ xx).trans g2⟩,hlt,hh,hE.mono (fun b hl hc=>by show γ'.col b∈C;rw [h b hl (xy _ hc)];exact hc),hn⟩
 | @AV.mo _ _ _ rk r e ℓ C m=>
  obtain ⟨b,n,hv,hm⟩:=hr;exact ⟨b,n,hv,hm.regh (fun b hl hc=>(h b hl (by rw [hc];exact xx)).trans hc) (fun b hl hc=>by rw [h b hl (xy _ hc)];exact hc) (hb ℓ xx) hm.off⟩
 | .cu c ℓ C1 C2=>
  refine c.move (xB _) (fun _ _ _=>rfl) (fun b hl e=>(h b hl (by rw [e];exact xx)).trans e) (fun b hl hc=>?_) (fun b hl hc=>?_) (hb ℓ xx) hr
  ·show γ'.col b∈C1;rw [h b hl (xy _ (xU _ hc))];exact hc
  ·show γ'.col b∈C2;rw [h b hl (xy _ (xV _ hc))];exact hc
 | .tup l=>obtain ⟨vs,hv,hL⟩:=hr;exact ⟨vs,hv,AV.reghL l h hb hL⟩
 | .ag l=>obtain ⟨vs,hv,hL,h1⟩:=hr;exact ⟨vs,hv,AV.reghL l h hb hL,h1⟩
 | .fv g l=>obtain ⟨vs,hv,hL⟩:=hr;exact ⟨vs,hv,AV.reghL l h hb hL⟩
 | .bp r t ℓ C x=>
  obtain ⟨b,cs,hv,⟨g1,g2⟩,hlt,hh,h1,hA⟩:=hr;exact ⟨b,cs,hv,⟨(h b hlt (by rw [g1];exact xx)).trans g1,(hb ℓ xx).trans g2⟩,hlt,hh,h1,hA.regh (fun b hl hc=>h b hl (xy _ hc))⟩
 | .it rk rv ℓ C last left=>
  obtain ⟨r,b,hv,⟨g1,g2⟩,hr',hF,hlt,⟨es,cl,seen,since,c0,ls,la,i1,i2,i3,i4,i5,i6,i7,i8,i9,i10⟩,hn⟩:=hr;have key:∀b,b<w.heap.size->γ.F C b->γ'.F C b:=fun b hl hc=>by show γ'.col b∈C;rw [h b hl (xy _ hc)];exact hc
  exact ⟨r,b,hv,⟨(h r hr' (by rw [g1];exact xx)).trans g1,(hb ℓ xx).trans g2⟩,hr',key b hlt hF,hlt,
   ⟨es,cl,seen,since,c0,ls,la,i1,i2,i3,i4,i5,i6,i7,i8.mono key,i9.mono key,i10⟩,hn⟩
theorem AV.reghL (l:List AV) (h:∀b,b<w.heap.size->γ.col b∈AV.colsL l->γ'.col b=γ.col b) (hb:∀ℓ∈AV.labsL l,γ'.box ℓ=γ.box ℓ) (hr:AV.relL γ w l vs):AV.relL γ' w l vs:=by
 match l with
 | []=>exact hr
 | a::l=>
  obtain ⟨v,vs',rfl,h1,h2⟩:=hr
  exact ⟨v,vs',rfl,AV.regh a (fun b hl hc=>h b hl (xU _ hc)) (fun c hc=>hb c (xU _ hc)) h1,
   AV.reghL l (fun b hl hc=>h b hl (xV _ hc)) (fun c hc=>hb c (xV _ hc)) h2⟩
end
structure Lets (own:Nat->Prop) (A B:World):Prop where
 os:B.os=A.os
 tape:B.tape=A.tape
 output:B.output=A.output
 size:A.heap.size<=B.heap.size
 block:∀b,b<A.heap.size->¬own b->B.heap[b]? =A.heap[b]?
structure zCx (K:Nat->Prop) (A B:World):Prop where
 os:B.os=A.os
 tape:B.tape=A.tape
 output:B.output=A.output
 size:A.heap.size<=B.heap.size
 block:∀b,b<A.heap.size->K b->B.heap[b]? =A.heap[b]?
structure ItG (F:Fp) (own:Nat->Prop) (γ:Gh) (w:World):Prop where
 zero:∀b,b<w.heap.size->γ.col b=0->F b
 mine:∀b,b<w.heap.size->2<=γ.col b->own b
 lt:∀b,own b->b<w.heap.size
def Abid {σ:Type} (I:σ->(Nat->Prop)->World->Prop):Prop:=∀s own A B,I s own A->Lets own A B->I s (fun b=>own b\/(A.heap.size<=b/\b<B.heap.size)) B
def zDL (P:Program) (l:Nat) {σ χ:Type} (ps:χ->List AV) (F:Fp) (k:Rnd σ χ) (I:σ->(Nat->Prop)->World->Prop):Prop:=
 ∀s own A x b s' us,I s own A->(∀c,own c->c<A.heap.size)->k s x=some (b,s')->(∀γ:Gh,(∀c,c<A.heap.size->F c->γ.col c=0)->AV.relL γ A (ps x) us)->
  YieldAt (RF none) 0 P l us.toArray A fun e B=>e= .returned (.bool b)/\I s' own B/\zCx (fun c=>own c\/F c) A B
def ItOk (P:Program) (g:FuncId) {χ:Type} (caps:List AV) (ps:χ->List AV) (it:{σ:Type}->Rnd σ χ->σ->Option σ):Prop:=
 ∀(σ:Type) (k:Rnd σ χ) (s0 s1:σ),it k s0=some s1->∀(l:Nat) (γ:Gh) (w:World) (F:Fp) (own:Nat->Prop) (vs:List Value) (I:σ->(Nat->Prop)->World->Prop),
  AV.relL γ w caps vs->ItG F own γ w->Abid I->zDL P l ps F k I->I s0 own w->
  Calls P g (.func (.yield l) #[] #[]::vs).toArray w fun e B=>(∃v,e= .returned v)/\∃own',I s1 own' B
def itX {σ:Type} (I:σ->(Nat->Prop)->World->Prop) (hI:Abid I) (F:Fp) (s:σ):Ext where
 X γ w:=∃own,I s own w/\ItG F own γ w
 tr:=fun {γ γ' w w' W V} ⟨own,hj,hg⟩ t hW hV=>by
  have hl:Lets own w w':=⟨t.os,t.tape,t.output,t.size,fun b hb hn=>t.block b hb fun hc=>hn (hg.mine b hb (hW _ hc))⟩;refine ⟨_,hI s own w w' hj hl,fun b hb h0=>?_,fun b hb h2=>?_,fun b hb=>?_⟩
  ·by_cases hlt:b<w.heap.size
   ·exact hg.zero b hlt (by rw [<-t.col b hlt];exact h0)
   ·rcases t.fresh b (qR hlt) hb h0 with e| e
    ·have:=hW _ e;omega
    ·have:=hV _ e;omega
  ·by_cases hlt:b<w.heap.size
   ·exact .inl (hg.mine b hlt (by rw [<-t.col b hlt];exact h2))
   ·exact .inr ⟨qR hlt,hb⟩
  ·rcases hb with hb| hb
   ·exact xT (hg.lt b hb) t.size
   ·exact hb.2
 ren:=fun {γ γ' w} ⟨own,hj,hg⟩ k=>⟨own,hj,fun b hb h0=>hg.zero b hb (k.back b h0),fun b hb h2=>hg.mine b hb (by
  rcases qd (γ.col b) 2 with h| h
  ·have h01:γ.col b=0\/γ.col b=1:=by omega
   rcases h01 with e| e
   ·have:=k.zero b e;omega
   ·have:=k.one b e;omega
  ·exact h),hg.lt⟩
 base:=0
 le:=fun _=>xI _
theorem zKq {P:Program} {o:Oper} {ro:Option Nat} {a:Act} {w:World} {next M:Act->World->Prop} {Q:Exit->Act->World->Prop} (h:o.wpIn (RF ro) 0 P a w next (Exit.then M Q)):o.wpIn (RF ro) 0 P a w next Q:=by
 refine ⟨h.1,?_⟩;have h:=h.2
 generalize (o.semAt (RF ro).round a.eval).run P w=r at h
 cases r with
 | ok x w1=>
  cases x with
  | enter f args=>exact ⟨h.1,h.2.mono fun e w2 hq=>by cases e<;>exact hq⟩
  | round l f tmps asg body=>exact ⟨h.1,h.2.mono fun e w2 hq=>by cases e<;>exact hq⟩
  | _=>exact h
 | halt x w1=>cases x<;>exact h
theorem zzV :∀{l1 l2:List Oper} {a:Act} {w:World},zkt P ops (Exit.then (zkt P ops Q l2) Q) l1 a w->zkt P ops Q (l1++l2) a w:=by
 intro l1 l2 a w h0 ro;have key:∀(l1:List Oper) (a:Act) (w:World),wpListIn (RF ro) 0 P ops (Exit.then (zkt P ops Q l2) Q) l1 a w->wpListIn (RF ro) 0 P ops Q (l1++l2) a w:=by
  intro l1
  induction l1 with
  | nil=>intro a w h;exact h ro
  | cons o l1 ih=>
   intro a w h;rw [yz];unfold wpListIn at h|-;split
   ·rename_i hw;rw [xw hw] at h;exact ud (fun a w h=>ih a w h) (zKq h)
   ·rename_i hw;rw [xu hw] at h;exact ⟨h.1,ih _ _ h.2⟩
 exact key l1 a w (h0 ro)
def zda (γ:Gh) (n:Nat):Gh:=⟨fun b=>if b<n then γ.col b else 1,γ.box⟩
section
variable {σ χ:Type} {P:Program} {I:σ->(Nat->Prop)->World->Prop} {hI:Abid I} {F:Fp} {ps:χ->List AV} {k:Rnd σ χ} {l:Nat}
theorem zHd {m:Bool} {N:Lim} {id:Nat} {ops:List Oper} {its:List It} {E E':Env} {Q:Exit->Act->World->Prop} {s s':σ} {x:χ} {b:Bool} {o:Oper} {y:Operand} {ts:Array TypeId} (n:Nat) (d:Option Nat) (args:List Operand) (as0 as:List AV) (E1:Env)
  (ht:zDL P l ps F k I) (ho:ops.drop n=o::ops.drop (n+1)) (hop:o.op= .call ⟨.value y,args.toArray,ts⟩) (hg:o.guard=none) (hd:o.dst=d) (hN:zjS N d=true)
  (h1:zcM P N ops.toArray (ops.take n) E E1) (hy:E1.opd y=some (.lf (.val (.func (.yield l) #[] #[])))) (hi:zqx E1 (args.zip as0)) (hl:args.length=as0.length) (hle:leL as0 as) (hx:ps x=as)
  (hc:((AV.colsL as).all (fun c=>Nat.beq c 0)&&(AV.labsL as).isEmpty)=true) (hk:k s x=some (b,s'))
  (h2:zcM P N ops.toArray (ops.drop (n+1)) ⟨zif d (.lf (.bool b)) (zqS [1] [] E1.sl),zil [1] [] E1.bx⟩ E') (kk:JI m P its (Sx ⟨N,itX I hI F s',false,#[]⟩ E') Q):
  JI m P (.c (.region id ops.toArray false)::its) (Sx ⟨N,itX I hI F s,false,#[]⟩ E) Q:=by
 intro a w hs;rw [zrG];refine zcA ?_;have hsplit:ops=ops.take n++o::ops.drop (n+1):=by rw [<-ho,qF]
 rw [hsplit];refine zzV ?_;rw [<-hsplit];refine h1 ⟨N,itX I hI F s,false,#[]⟩ a w _ rfl hs fun a1 w1 hs1=>?_
 obtain ⟨γ,hB,hS,hX⟩:=hs1;obtain ⟨own,hj,hG⟩:=hB.ext;have hv:=Env.opd_rel hy hS;have hyv:a1.eval y= .func (.yield l) #[] #[]:=by
  generalize a1.eval y=u at hv|-
  cases hv.2;rfl
 have hargs:AV.relL γ w1 as (args.map a1.eval):=by
  have hr:=hi.rel hS;refine ztH hle ?_;clear hi hx hc h1 h2 hop hle
  induction args generalizing as0 with
  | nil=>cases as0 with
   | nil=>rfl
   | cons=>simp at hl
  | cons z args ih=>cases as0 with
   | nil=>simp at hl
   | cons c as0=>exact ⟨_,_,rfl,hr (z,c) xx,ih as0 (by simpa using hl) (fun p hp=>hr p (xy _ hp))⟩
 simp only [xA,xJ,pl] at hc;obtain ⟨fn,tmps,asg,body,hrun,hR⟩:=ht s own w1 x b s' (args.map a1.eval) hj hG.lt hk fun γ' hγ'=>by
  rw [hx];refine AV.reghL as (fun c hcl hcm=>?_) (fun ℓ hℓ=>by rw [hc.2] at hℓ;cases hℓ) hargs;have h0:γ.col c=0:=xL (hc.1 _ hcm);rw [h0];exact hγ' c hcl (hG.zero c hcl h0)
 refine zhJ (by simp [Region.wanted,hg]) (fun ro=>⟨fun _ _=>trivial,?_⟩);have hrun':(execOp a1.eval o).run P w1= .ok (.round l fn tmps asg body) w1:=by
  simp [execOp,hop,resolve,hyv,Deferred.ofValue,invoke,hrun]
 rw [Oper.semAt_eq _ _ _ (by rw [hop];nofun),hrun'];refine ⟨nofun,RoundIn.mono hR (fun e B hq=>?_)⟩;obtain ⟨rfl,hj',hsp⟩:=hq;have hown:∀c,c<w1.heap.size->γ.col c∉[1]->own c\/F c:=fun c hcl hcn=>by
  rcases qd (γ.col c) 2 with h| h
  ·have h01:γ.col c=0\/γ.col c=1:=by omega
   rcases h01 with e| e
   ·exact .inr (hG.zero c hcl e)
   ·exact absurd (by rw [e];exact xx) hcn
  ·exact .inl (hG.mine c hcl h)
 have hT:Tr [1] [] γ w1 (zda γ w1.heap.size) B:=⟨hsp.os,hsp.tape,hsp.output,hsp.size,fun c hcl hcn=>hsp.block c hcl (hown c hcl hcn),fun c hcl=>by simp [zda,hcl],fun _ _=>rfl,fun c h1 _ h0=>by simp [zda,Nat.not_lt.2 h1] at h0⟩;refine h2 ⟨N,itX I hI F s',false,#[]⟩ _ B (zjC m P Q its) rfl ⟨zda γ w1.heap.size,⟨⟨[],?_,qA,fun D hD=>by cases hD⟩,fun _=>?_,?_,?_,own,hj',fun c hcl h0=>?_,fun c hcl h2=>?_,fun c hcc=>xT (hG.lt c hcc) hsp.size⟩,?_,hX.tr hT⟩ (fun a' w' hs'=>kk a' w' hs')
 ·rw [zke];exact hB.clean rfl
 ·rw [zke];exact hB.clean rfl
 ·rw [zrl];exact hB.size
 ·rw [hd];exact (hB.put d (.bool b) (zeU hN)).kept
 ·by_cases hlt:c<w1.heap.size
  ·exact hG.zero c hlt (by simpa [zda,hlt] using h0)
  ·simp [zda,hlt] at h0
 ·by_cases hlt:c<w1.heap.size
  ·exact hG.mine c hlt (by simpa [zda,hlt] using h2)
  ·simp [zda,hlt] at h2
 ·rw [hd];exact (hS.tr hT).put (fun k hk=>by rw [hB.size];exact zhu hN _ hk) ⟨rfl,.bool b⟩
end
inductive zqu:Nat->List AV->List (Nat×AV)->List Bx->Prop
 | nil (n:Nat):zqu n [] [] []
 | cons {α:Type} {n:Nat} (r:Rp α) (t:TypeId) (ℓ:Nat) (C:List Nat) (x:α) (avs:List AV) {cs:List AV} {sl:List (Nat×AV)} {bx:List Bx} (h1:zjc avs=some (r.lv x)) (h2:avs.all (ztJ C)=true)
   (h:zqu (n+1) cs sl bx):zqu n (.bp r t ℓ C x::cs) ((n,.ptr ℓ 0)::sl) (⟨ℓ,t,avs⟩::bx)
 | ep {α:Type} {n:Nat} (r:Rp α) (C:List Nat) (x:α) {cs:List AV} {sl:List (Nat×AV)} {bx:List Bx} (h:zqu (n+1) cs sl bx):zqu n (.ep r C x 0::cs) ((n,.ep r C x 0)::sl) bx
theorem zqu.rel (h:zqu n cs sl bx) :∀{vs:List Value} (pre post:List Value),pre.length=n->AV.relL γ w cs vs->
  (∀p∈sl,p.2.rel γ w ((pre++vs++post).toArray.getD p.1 undef))/\Bxs γ w bx:=by
 induction h with
 | nil n=>intro vs pre post _ _;exact ⟨(fun p hp=>by cases hp),(fun b hb=>by cases hb)⟩
 | cons r t ℓ C x avs h1 h2 h ih=>
  intro vs pre post hn hr;obtain ⟨v,vs',rfl,⟨b,cells,hv,⟨g1,g2⟩,hlt,hh,hone,hA⟩,hr'⟩:=hr;obtain ⟨k1,k2⟩:=ih (vs:=vs') (pre++[v]) post (by simp [hn]) hr';refine ⟨fun p hp=>?_,fun c hc=>?_⟩
  ·rcases xz.1 hp with rfl| hp
   ·show ((pre++v::vs'++post).toArray.getD _ undef)=_;rw [g2,<-hv];subst hn;simp
   ·have:=k1 p hp;simpa using this
  ·rcases xz.1 hc with rfl| hc
   ·refine ⟨by rw [g2];exact g1,cells.toList,?_,zll h1 hA h2,hone⟩;simp only [g2,qz];exact hh
   ·exact k2 c hc
 | ep r C x h ih=>
  intro vs pre post hn hr;obtain ⟨v,vs',rfl,hv,hr'⟩:=hr;obtain ⟨k1,k2⟩:=ih (vs:=vs') (pre++[v]) post (by simp [hn]) hr';refine ⟨fun p hp=>?_,k2⟩;rcases xz.1 hp with rfl| hp
  ·have e:(pre++v::vs'++post).toArray.getD pre.length undef=v:=by simp
   subst hn;show AV.rel γ w _ ((pre++v::vs'++post).toArray.getD _ undef);rw [e];exact hv
  ·have:=k1 p hp;simpa using this
theorem zGW {P:Program} {g:FuncId} {fn:Func} {c:Code} {χ:Type} {caps:List AV} {ps:χ->List AV} {it:{σ:Type}->Rnd σ χ->σ->Option σ} (N:Nat) (sl:List (Nat×AV)) (bx:List Bx)
  (hf:P.funcs[g]? =some fn) (hb:fn.body=some c) (hN:fn.ntmps=N) (hlen:Nat.ble (caps.length+1) N=true) (hres:fn.results=#[]) (hcap:zqu 1 caps sl bx)
  (hj:∀(σ:Type) (k:Rnd σ χ) (s0 s1:σ),it k s0=some s1->∀(l:Nat) (I:σ->(Nat->Prop)->World->Prop) (hI:Abid I) (F:Fp),zDL P l ps F k I->
   J true P c (Sx ⟨⟨N,[]⟩,itX I hI F s0,false,#[]⟩ ⟨(0,.lf (.val (.func (.yield l) #[] #[])))::sl,bx⟩) fun e a w=>(e= .normal\/e= .ret)/\Sx ⟨⟨N,[]⟩,itX I hI F s1,false,#[]⟩ ⟨[],[]⟩ a w):ItOk P g caps ps it:=by
 subst hN;intro σ k s0 s1 hit l γ w F own vs I hc hG hI ht h0;have hl:=zdc hc;have hlen':=xW hlen;obtain ⟨k1,k2⟩:=hcap.rel [.func (.yield l) #[] #[]] (List.replicate (fn.ntmps - (vs.length+1)) undef) rfl hc;have e:(([.func (.yield l) #[] #[]]++vs++List.replicate (fn.ntmps - (vs.length+1)) undef:List Value)).toArray=(Value.func (.yield l) #[] #[]::vs).toArray++Array.replicate (fn.ntmps - (Value.func (.yield l) #[] #[]::vs).toArray.size) undef:=by simp
 rw [e] at k1;refine py hf hb (wp_mono (zEO (hj σ k s0 s1 hit l I hI F ht _ w ⟨γ,⟨⟨[],rfl,qA,(fun D hD=>by cases hD)⟩,fun _=>rfl,?_,(fun k hk=>by cases hk),own,h0,hG⟩,fun p hp=>?_,k2⟩)) ?_)
 ·simp;omega
 ·rcases xz.1 hp with rfl| hp
  ·show _/\zbk _ _ _ _;have:((Value.func (.yield l) #[] #[]::vs).toArray++Array.replicate (fn.ntmps - (Value.func (.yield l) #[] #[]::vs).toArray.size) undef).getD 0 undef= .func (.yield l) #[] #[]:=by rw [<-e];simp
   rw [this];exact ⟨rfl,.val _ rfl⟩
  ·exact k1 p hp
 ·rintro e a w' ⟨he,γ',hB,hS,hX⟩;obtain ⟨us,hr,_⟩:=zlI (P:=P) (fn:=fn) (l:=[]) hS hX (by rw [hres];trivial);have hfin:a.defers=[]/\∃v,(results fn a.tmps).run P w'= .ok v w'/\((∃v',(Ending.returned v)= .returned v')/\∃own',I s1 own' w'):=by
   obtain ⟨own',hj',_⟩:=hB.ext;exact ⟨hB.clean rfl,_,hr,⟨_,rfl⟩,own',hj'⟩
  rcases he with rfl| rfl
  ·exact hfin
  ·exact hfin
def Two (X:Ext) (ds:List Deferred) (Z:Nat->Prop) (γ:Gh) (W:World):Prop:=
 ∃γx:Gh,X.X γx W/\zto X.base γx W ds/\γx.box=γ.box/\(∀b,Z b->γx.col b=2/\γ.col b=1)/\(∀b,¬Z b->γ.col b=γx.col b)/\∀b,Z b->b<W.heap.size
section
variable {X:Ext} {ds:List Deferred} {Z:Nat->Prop} {γ γ':Gh} {W W':World}
theorem Two.tr (h:Two X ds Z γ W) (t:Tr Ws V γ W γ' W') (hW:∀c∈Ws,2<=c) (hV:∀c∈V,2<=c):Two X ds Z γ' W':=by
 obtain ⟨γx,hX,hm,hbx,hZ,hn,hlt⟩:=h
 classical
 have ht:Tr Ws V γx W ⟨fun b=>if Z b then 2 else γ'.col b,γ'.box⟩ W':=by
  refine ⟨t.os,t.tape,t.output,t.size,fun b hb hc=>?_,fun b hb=>?_,fun ℓ hℓ=>?_,fun b h1 h2 h0=>?_⟩
  ·by_cases hz:Z b
   ·exact t.block b hb (by rw [(hZ b hz).2];intro h;have:=hW _ h;omega)
   ·exact t.block b hb (by rw [hn b hz];exact hc)
  ·by_cases hz:Z b
   ·simp [hz,(hZ b hz).1]
   ·simp [hz,t.col b hb,hn b hz]
  ·rw [hbx];exact t.box ℓ hℓ
  ·have hz:¬Z b:=fun hz=>by have:=hlt b hz;omega
   simp [hz] at h0;exact t.fresh b h1 h2 h0
 refine ⟨_,X.tr hX ht hW hV,hm.tr ht hW,rfl,fun b hz=>⟨by simp [hz],?_⟩,fun b hz=>by simp [hz],fun b hz=>xT (hlt b hz) t.size⟩;rw [t.col b (hlt b hz)];exact (hZ b hz).2
theorem Two.ren (h:Two X ds Z γ W) (k:zwh γ γ'):Two X ds Z γ' W:=by
 obtain ⟨γx,hX,hm,hbx,hZ,hn,hlt⟩:=h
 classical
 have ha:zwh γx ⟨fun b=>if Z b then 2 else γ'.col b,γ'.box⟩:=by
  refine ⟨fun b hb=>?_,fun b hb=>?_,fun b hb=>?_,fun b hb=>?_⟩
  ·have hz:¬Z b:=fun hz=>by have:=(hZ b hz).1;omega
   simp [hz];exact k.zero b (by rw [hn b hz];exact hb)
  ·have hz:¬Z b:=fun hz=>by have:=(hZ b hz).1;omega
   simp [hz];exact k.one b (by rw [hn b hz];exact hb)
  ·by_cases hz:Z b
   ·simp [hz] at hb
   ·simp [hz] at hb;rw [<-hn b hz];exact k.back b hb
  ·have hz:¬Z b:=fun hz=>by rw [(hZ b hz).1] at hb;cases hb
   have:=k.old b (by rw [hn b hz];exact hb);simp [hz];rw [this,hn b hz]
 exact ⟨_,X.ren hX ha,hm.ren ha,rfl,fun b hz=>⟨by simp [hz],k.one b (hZ b hz).2⟩,fun b hz=>by simp [hz],hlt⟩
theorem Two.lets (h:Two X ds Z γ W) (t:Lets Z W W'):Two X ds (fun b=>Z b\/(W.heap.size<=b/\b<W'.heap.size)) (zda γ W.heap.size) W':=by
 obtain ⟨γx,hX,hm,hbx,hZ,hn,hlt⟩:=h;have ht:Tr [2] [] γx W ⟨fun b=>if b<W.heap.size then γx.col b else if b<W'.heap.size then 2 else 1,γx.box⟩ W':=by
  refine ⟨t.os,t.tape,t.output,t.size,fun b hb hc=>t.block b hb (fun hz=>hc (by rw [(hZ b hz).1];exact xx)),fun b hb=>by simp [hb],fun ℓ _=>rfl,fun b h1 h2 h0=>?_⟩;simp [Nat.not_lt.2 h1,h2] at h0
 have hW:∀c∈[2],2<=c:=fun c hc=>by simp at hc;omega
 refine ⟨_,X.tr hX ht hW (fun c hc=>by cases hc),hm.tr ht hW,hbx,fun b hz=>?_,fun b hz=>?_,fun b hz=>?_⟩
 ·rcases hz with hz| ⟨h1,h2⟩
  ·simp [zda,hlt b hz];exact hZ b hz
  ·simp [zda,Nat.not_lt.2 h1,h2]
 ·by_cases hb:b<W.heap.size
  ·simp [zda,hb];exact hn b fun h=>hz (.inl h)
  ·have h2:¬b<W'.heap.size:=fun h=>hz (.inr ⟨qR hb,h⟩)
   simp [zda,hb,h2]
 ·rcases hz with hz| ⟨_,h2⟩
  ·exact xT (hlt b hz) t.size
  ·exact h2
theorem Two.out (h:Two X ds Z γ W):X.X γ W/\zto X.base γ W ds:=by
 obtain ⟨γx,hX,hm,hbx,hZ,hn,hlt⟩:=h;have ha:zwh γx γ:=by
  refine ⟨fun b hb=>?_,fun b hb=>?_,fun b hb=>?_,fun b hb=>?_⟩
  ·have hz:¬Z b:=fun hz=>by have:=(hZ b hz).1;omega
   rw [hn b hz];exact hb
  ·have hz:¬Z b:=fun hz=>by have:=(hZ b hz).1;omega
   rw [hn b hz];exact hb
  ·have hz:¬Z b:=fun hz=>by have:=(hZ b hz).2;omega
   rw [<-hn b hz];exact hb
  ·have hz:¬Z b:=fun hz=>by rw [(hZ b hz).1] at hb;cases hb
   exact hn b hz
 exact ⟨X.ren hX ha,hm.ren ha⟩
end
def zDu (X:Ext) (ds:List Deferred) (Z:Nat->Prop) (F:Fp) (W0:World):Ext where
 X γ W:=Two X ds Z γ W/\zCx (fun b=>Z b\/F b) W0 W/\(∀b,F b->γ.col b=0/\b<W0.heap.size)/\∀b,Z b->b<W0.heap.size
 tr:=fun {γ γ' W W' Ws V} ⟨h1,h2,h3,h4⟩ t hW hV=>by
  refine ⟨h1.tr t hW hV,⟨t.os.trans h2.os,t.tape.trans h2.tape,t.output.trans h2.output,yi h2.size t.size,fun b hb hz=>?_⟩,fun b hF=>⟨?_,(h3 b hF).2⟩,h4⟩
  ·refine (t.block b (xT hb h2.size) fun hc=>?_).trans (h2.block b hb hz);have:=hW _ hc;rcases hz with hz| hF
   ·obtain ⟨γx,_,_,_,hZ,_⟩:=h1;have:=(hZ b hz).2;omega
   ·have:=(h3 b hF).1;omega
  ·rw [t.col b (xT (h3 b hF).2 h2.size)];exact (h3 b hF).1
 ren:=fun {γ γ' W} ⟨h1,h2,h3,h4⟩ k=>⟨h1.ren k,h2,fun b hF=>⟨k.zero b (h3 b hF).1,(h3 b hF).2⟩,h4⟩
 base:=0
 le:=fun _=>xI _
def zuP:List Nat->List AV->List (Nat×AV)->List (Nat×AV)
 | p::ps,v::vs,l=>zuP ps vs (zif (some p) v l)
 | _,_,l=>l
theorem zxs :∀(ps:List Nat) (as:List AV) (us:List Value) (l:List (Nat×AV)) (a:Act),Sl γ w a l->AV.relL γ w as us->ps.length=as.length->(∀p∈ps,p<a.tmps.size)->
  Sl γ w ⟨(ps.zip us).foldl (fun t (q:Nat×Value)=>t.setIfInBounds q.1 q.2) a.tmps,a.defers⟩ (zuP ps as l)
 | [],[],us,l,a,hs,_,_,_=>by simpa [zuP] using hs
 | p::ps,v::as,us,l,a,hs,hr,hl,hlt=>by
  obtain ⟨u,us',rfl,h1,h2⟩:=hr;exact zxs ps as us' _ (a.put (some p) u) (hs.put (fun k hk=>by cases hk;exact hlt p xx) h1) h2 (by simpa using hl) (fun q hq=>by rw [zrl];exact hlt q (xy _ hq))
 | [],_::_,_,_,_,_,_,hl,_=>by simp at hl
 | _::_,[],_,_,_,_,_,hl,_=>by simp at hl
theorem zyF:∀(qs:List (Nat×Value)) (t:Array Value),(qs.foldl (fun t (q:Nat×Value)=>t.setIfInBounds q.1 q.2) t).size=t.size/\∀k,(∀q∈qs,q.1≠k)->(qs.foldl (fun t (q:Nat×Value)=>t.setIfInBounds q.1 q.2) t).getD k undef=t.getD k undef
 | [],t=>⟨rfl,fun _ _=>rfl⟩
 | q::qs,t=>by
  obtain ⟨h1,h2⟩:=zyF qs (t.setIfInBounds q.1 q.2);refine ⟨by rw [ug,h1];simp,fun k hk=>?_⟩;rw [ug,h2 k fun r hr=>hk r (xy _ hr)];simp only [yD];rw [pE (hk q xx)]
def Zof (own:Nat->Prop) (l D:Nat):Nat->Prop:=fun b=>own b\/b=l\/b=D
theorem Two.congr (h:Two X ds Z γ W) (e:∀b,Z b↔Z' b):Two X ds Z' γ W:=by
 have:Z=Z':=funext fun b=>propext (e b)
 rw [<-this];exact h
theorem zpa (t:Lets K W W') (hK:∀b,K b->γ.col b=1):Tr [1] [] γ W (zda γ W.heap.size) W':=
 ⟨t.os,t.tape,t.output,t.size,fun b hb hc=>t.block b hb fun hk=>hc (by rw [hK b hk];exact xx),fun b hb=>by simp [zda,hb],fun _ _=>rfl,fun b h1 _ h0=>by simp [zda,Nat.not_lt.2 h1] at h0⟩
def lpOf {σ ρ:Type} (rec:LoopState->Option Code->Loop) (cd:ρ->Code):σ⊕ρ->Loop
 | .inl _=>rec .ready none
 | .inr r=>rec .done (some (cd r))
def bxOf {σ ρ:Type} (Bs:σ->List Bx) (Br:ρ->List Bx):σ⊕ρ->List Bx
 | .inl s=>Bs s
 | .inr r=>Br r
structure CI {σ ρ:Type} (X:Ext) (ds:List Deferred) (F:Fp) (l D:Nat) (rec:LoopState->Option Code->Loop) (old:Array Value) (slE:List (Nat×AV)) (Bs:σ->List Bx) (Br:ρ->List Bx) (cd:ρ->Code) (st:σ⊕ρ) (own:Nat->Prop) (W:World) (γ:Gh):Prop where
 two:Two X ds (Zof own l D) γ W
 data:∀b,F b->γ.col b=0/\b<W.heap.size
 nl:¬own l
 nD:¬own D
 blk:W.heap[D]? =some (.deferred (some []))
 sl:∀p∈slE,p.2.rel γ W (old.getD p.1 undef)
 bx:Bxs γ W (bxOf Bs Br st)
 lp:W.heap[l]? =some (.loop (lpOf rec cd st))
theorem CI.abid {σ ρ:Type} {X:Ext} {ds:List Deferred} {F:Fp} {l D:Nat} {rec:LoopState->Option Code->Loop} {old:Array Value} {slE:List (Nat×AV)} {Bs:σ->List Bx} {Br:ρ->List Bx} {cd:ρ->Code}
  (hfs:∀p∈slE,p.2.free [1] []=true) (hBs:∀s,zil [1] [] (Bs s)=Bs s) (hBr:∀r,zil [1] [] (Br r)=Br r):
  Abid fun (st:σ⊕ρ) own W=>∃γ,CI X ds F l D rec old slE Bs Br cd st own W γ:=by
 rintro st own A B ⟨γ,h⟩ t;have hl:=(xY.1 h.lp).1;have hD:=(xY.1 h.blk).1;have tZ:Lets (Zof own l D) A B:=⟨t.os,t.tape,t.output,t.size,fun b hb hn=>t.block b hb fun ho=>hn (.inl ho)⟩;have h1:∀b,own b->γ.col b=1:=fun b ho=>by
  obtain ⟨γx,_,_,_,hZ,_⟩:=h.two;exact (hZ b (.inl ho)).2
 have hT:=zpa t h1;refine ⟨zda γ A.heap.size,(h.two.lets tZ).congr fun b=>?_,fun b hF=>?_,?_,?_,(t.block D hD h.nD).trans h.blk,fun p hp=>?_,?_,(t.block l hl h.nl).trans h.lp⟩
 ·unfold Zof;constructor
  ·rintro ((h| h)| h)
   ·exact .inl (.inl h)
   ·exact .inr h
   ·exact .inl (.inr h)
  ·rintro ((h| h)| h)
   ·exact .inl (.inl h)
   ·exact .inr h
   ·exact .inl (.inr h)
 ·obtain ⟨g1,g2⟩:=h.data b hF;exact ⟨by simp [zda,g2,g1],xT g2 t.size⟩
 ·rintro (h'| ⟨h',_⟩)
  ·exact h.nl h'
  ·omega
 ·rintro (h'| ⟨h',_⟩)
  ·exact h.nD h'
  ·omega
 ·obtain ⟨f1,f2⟩:=AV.free_spec (hfs p hp);exact p.2.keep hT f1 f2 (h.sl p hp)
 ·have:=h.bx.tr hT;cases st with
  | inl s=>rw [show bxOf Bs Br (Sum.inl s)=Bs s from rfl,hBs] at this;exact this
  | inr r=>rw [show bxOf Bs Br (Sum.inr r)=Br r from rfl,hBr] at this;exact this
def Jump:Exit->Code->Prop
 | .ret,.ret=>True
 | .exit i,.exit j=>i=j
 | _,_=>False
theorem Lets.put (hl:Z l) (o:Obj):Lets Z W (W.putObj l o):=
 ⟨rfl,rfl,rfl,by simp,fun b _ hb=>World.putObj_heap_other fun e=>hb (e▸hl)⟩
theorem Two.put (h:Two X ds Z γ W) (hl:Z l) (o:Obj):Two X ds Z (zda γ W.heap.size) (W.putObj l o):=
 (h.lets (Lets.put hl o)).congr fun b=>⟨fun h=>h.elim id fun ⟨h1,h2⟩=>by simp at h2;omega,.inl⟩
theorem Two.one (h:Two X ds Z γ W):∀b,Z b->γ.col b=1:=fun b hb=>by
 obtain ⟨γx,_,_,_,hZ,_⟩:=h;exact (hZ b hb).2
theorem Two.lt (h:Two X ds Z γ W):∀b,Z b->b<W.heap.size:=fun b hb=>by
 obtain ⟨γx,_,_,_,_,_,hl⟩:=h;exact hl b hb
theorem CI.takes {σ ρ χ:Type} {P:Program} {X:Ext} {ds:List Deferred} {F:Fp} {l D:Nat} {rec:LoopState->Option Code->Loop} {old:Array Value} {slE:List (Nat×AV)} {Bs:σ->List Bx} {Br:ρ->List Bx} {cd:ρ->Code}
  {asg body:Code} {prm:Array Tmp} {N:Nat} {ks:List Nat} {kb:σ->χ->Option (σ⊕ρ)} {ps:χ->List AV} {Eb:σ->χ->Env} (fn:FuncId) (hrec:rec=fun st pe=>{state:=st,pending:=pe,fn:=fn,tmps:=old,params:=prm,assign:=asg,body:=body,defers:=D})
  (hN:old.size=N) (hlD:l≠D) (hfs:∀p∈slE,p.2.free [1] []=true) (hBs:∀s,zil [1] [] (Bs s)=Bs s) (hBr:∀r,zil [1] [] (Br r)=Br r)
  (hks:∀p∈slE,p.1∈ks) (hpk:∀q∈prm.toList,q∉ks/\q<N) (hprm:∀x,(ps x).length=prm.size)
  (hasg:∀(X:Ext) (old:Array Value) s x,J false P asg (Sx ⟨⟨N,ks⟩,X,false,old⟩ ⟨zuP prm.toList (ps x) slE,Bs s⟩) fun e a w=>e= .normal/\Sx ⟨⟨N,ks⟩,X,false,old⟩ (Eb s x) a w)
  (hfree:∀s x,zqS [1] [] (Eb s x).sl=(Eb s x).sl/\zil [1] [] (Eb s x).bx=(Eb s x).bx)
  (hbody:∀(X:Ext) (old:Array Value) s x o,kb s x=some o->J false P body (Sx ⟨⟨N,ks⟩,X,false,old⟩ (Eb s x)) (match o with
   | .inl s'=>fun e a w=>e= .normal/\Sx ⟨⟨N,ks⟩,X,false,old⟩ ⟨slE,Bs s'⟩ a w
   | .inr r=>fun e a w=>Jump e (cd r)/\Sx ⟨⟨N,ks⟩,X,false,old⟩ ⟨slE,Br r⟩ a w)):
  zDL P l ps F (rnd kb) fun (st:σ⊕ρ) own W=>∃γ,CI X ds F l D rec old slE Bs Br cd st own W γ:=by
 rintro st own A x b st' us ⟨γ,h⟩ hown hk hus;cases st with
 | inr r=>cases hk
 | inl s=>
 have hur:=hus γ fun c hc hF=>(h.data c hF).1
 have hul:us.length=prm.size:=by rw [zdc hur,hprm]
 have hl0:A.heap[l]? =some (.loop (rec .ready none)):=h.lp;have hZl:Zof own l D l:= .inr (.inl rfl);have hnF:¬F l:=fun hF=>by have:=(h.data l hF).1;have:=h.two.one l hZl;omega
 have hy:=run_yield (P:=P) (args:=us.toArray) hl0 (by rw [hrec];simpa using hul);rw [hrec] at hy;simp only at hy;have hfold:(prm.zip us.toArray).foldl (fun tmps (q:Nat×Value)=>tmps.setIfInBounds q.1 q.2) old=(prm.toList.zip us).foldl (fun tmps (q:Nat×Value)=>tmps.setIfInBounds q.1 q.2) old:=by
  rw [<-uh,Array.toList_zip]
 obtain ⟨q1,q2⟩:=zyF (prm.toList.zip us) old;refine ⟨_,_,asg,body,hy,roundIn_of_wpIn trivial ?_⟩;have hstart:Sx ⟨⟨N,ks⟩,zDu X ds (Zof own l D) F A,false,old⟩ ⟨zuP prm.toList (ps x) slE,Bs s⟩ {tmps:=(prm.zip us.toArray).foldl (fun tmps (q:Nat×Value)=>tmps.setIfInBounds q.1 q.2) old,defers:=[]} A:=by
  refine ⟨γ,⟨⟨[],rfl,qA,fun D hD=>by cases hD⟩,fun _=>rfl,?_,fun k hk=>?_,h.two,⟨rfl,rfl,rfl,xB _,fun _ _ _=>rfl⟩,h.data,h.two.lt⟩,?_,h.bx⟩
  ·show Array.size _=N;rw [hfold,q1,hN]
  ·show Array.getD _ k undef=_;rw [hfold];exact q2 k fun q hq e=>(hpk q.1 (List.of_mem_zip hq).1).1 (e▸hk)
  ·have:=zxs prm.toList (ps x) us slE ⟨old,[]⟩ (fun p hp=>h.sl p hp) hur (by rw [hprm];simp) (fun p hp=>by rw [hN];exact (hpk p hp).2);rw [hfold];exact this
 refine qU (hasg _ old s x _ A hstart (some l) nofun) ?_;rintro e a1 w1 ⟨rfl,γ1,hB1,hS1,hX1⟩;obtain ⟨hT1,hsp1,hF1,hZ1⟩:=hB1.ext;have hll:=hZ1 l hZl;have hl1:w1.heap[l]? =some (.loop (rec .ready none)):=(hsp1.block l hll (.inl hZl)).trans hl0;refine ⟨_,run_beginRound hl1 (by rw [hrec]),?_⟩;have hlt1:=(xY.1 hl1).1;obtain ⟨w2,hw2⟩:∃w2,w1.putObj l (.loop {rec .ready none with state:= .busy})=w2:=⟨_,rfl⟩;rw [hw2];have hsz2:w2.heap.size=w1.heap.size:=by rw [<-hw2];simp
 have hl2:w2.heap[l]? =some (.loop {rec .ready none with state:= .busy}):=by rw [<-hw2];exact World.putObj_heap_same hlt1
 have hL12:Lets (Zof own l D) w1 w2:=by rw [<-hw2];exact Lets.put hZl _
 have hLl:Lets (fun b=>b=l) w1 w2:=by rw [<-hw2];exact Lets.put (Z:=fun b=>b=l) rfl _
 have hT12:=zpa hLl fun b e=>by rw [e];exact hT1.one l hZl
 have hT2:Two X ds (Zof own l D) (zda γ1 w1.heap.size) w2:=by rw [<-hw2];exact hT1.put hZl _
 have hsb:Sx ⟨⟨N,ks⟩,zDu X ds (Zof own l D) F w2,false,old⟩ (Eb s x) a1 w2:=by
  refine ⟨zda γ1 w1.heap.size,⟨⟨[],hB1.clean rfl,qA,fun D hD=>by cases hD⟩,hB1.clean,hB1.size,hB1.kept,hT2,⟨rfl,rfl,rfl,xB _,fun _ _ _=>rfl⟩,fun c hF=>?_,hT2.lt⟩,?_,?_⟩
  ·obtain ⟨g1,g2⟩:=hF1 c hF;have g3:=xT g2 hsp1.size;exact ⟨by simp [zda,g3,g1],by rw [hsz2];exact g3⟩
  ·have:=hS1.tr hT12;rw [(hfree s x).1] at this;exact this
  ·have:=hX1.tr hT12;rw [(hfree s x).2] at this;exact this
 have fin:∀(jump:Option Code) (st':σ⊕ρ) (a3:Act) (w3:World),(∃γ3,Base ⟨⟨N,ks⟩,zDu X ds (Zof own l D) F w2,false,old⟩ γ3 a3 w3/\Sl γ3 w3 a3 slE/\Bxs γ3 w3 (bxOf Bs Br st'))->
   lpOf rec cd st'=rec (if jump.isNone then .ready else .done) jump->zil [1] [] (bxOf Bs Br st')=bxOf Bs Br st'->
   ∃w4,(Instr.endRound l jump).run P w3= .ok (.bool jump.isNone) w4/\(∃γ4,CI X ds F l D rec old slE Bs Br cd st' own w4 γ4)/\zCx (fun c=>own c\/F c) A w4:=by
  rintro jump st' a3 w3 ⟨γ3,hB3,hS3,hX3⟩ hlp hkb;obtain ⟨hT3,hsp3,hF3,hZ3⟩:=hB3.ext;have hl3:w3.heap[l]? =some (.loop {rec .ready none with state:= .busy}):=(hsp3.block l (by omega) (.inl hZl)).trans hl2;have hlt3:=(xY.1 hl3).1;have hD2:D<w2.heap.size:=hZ3 D (.inr (.inr rfl));have hrun:=run_endRound (P:=P) jump hl3;have hobj:({({rec .ready none with state:= .busy}:Loop) with state:=if jump.isNone then .ready else .done,pending:=jump}:Loop)=lpOf rec cd st':=by rw [hlp,hrec]
  rw [hobj] at hrun;have hLl3:Lets (fun b=>b=l) w3 (w3.putObj l (.loop (lpOf rec cd st'))):=Lets.put (Z:=fun b=>b=l) rfl _;have hT34:=zpa hLl3 fun b e=>by rw [e];exact hT3.one l hZl
  refine ⟨_,hrun,⟨zda γ3 w3.heap.size,hT3.put hZl _,fun c hF=>?_,h.nl,h.nD,?_,fun p hp=>?_,?_,World.putObj_heap_same hlt3⟩,?_⟩
  ·obtain ⟨g1,g2⟩:=hF3 c hF;have g3:=xT g2 hsp3.size;exact ⟨by simp [zda,g3,g1],by simpa using g3⟩
  ·rw [World.putObj_heap_other (Ne.symm hlD),hsp3.block D hD2 (.inl (.inr (.inr rfl))),hLl.block D (by omega) (Ne.symm hlD),hsp1.block D (hZ1 D (.inr (.inr rfl))) (.inl (.inr (.inr rfl)))];exact h.blk
  ·obtain ⟨f1,f2⟩:=AV.free_spec (hfs p hp);have:=p.2.keep hT34 f1 f2 (hS3 p hp);rw [hB3.kept p.1 (hks p hp)] at this;exact this
  ·have:=hX3.tr hT34;rw [hkb] at this;exact this
  ·have hlz:∀c,own c\/F c->c≠l:=fun c hc e=>by
    subst e;exact hc.elim h.nl hnF
   refine ⟨?_,?_,?_,?_,fun c hc hcc=>?_⟩
   ·exact hsp3.os.trans (hL12.os.trans hsp1.os)
   ·exact hsp3.tape.trans (hL12.tape.trans hsp1.tape)
   ·exact hsp3.output.trans (hL12.output.trans hsp1.output)
   ·have:=hsp1.size;have:=hsp3.size;simp;omega
   ·have h1:=hsp1.size;have hz:Zof own l D c\/F c:=hcc.imp .inl id;rw [World.putObj_heap_other (hlz c hcc),hsp3.block c (by omega) hz,hLl.block c (by omega) (hlz c hcc),hsp1.block c hc hz]
 cases hkb:kb s x with
 | none=>simp [rnd,hkb] at hk
 | some o=>
  refine qU (hbody _ old s x o hkb a1 w2 hsb (some l) nofun) ?_;rintro e a3 w3 hp;cases o with
  | inl s'=>
   simp [rnd,hkb] at hk;obtain ⟨rfl,rfl⟩:=hk;obtain ⟨rfl,hs3⟩:=hp;obtain ⟨w4,e1,e2,e3⟩:=fin none (.inl s') a3 w3 hs3 rfl (hBs s');exact ⟨_,w4,e1,rfl,e2,e3⟩
  | inr r=>
   simp [rnd,hkb] at hk;obtain ⟨rfl,rfl⟩:=hk;obtain ⟨hj,hs3⟩:=hp;obtain ⟨w4,e1,e2,e3⟩:=fin (some (cd r)) (.inr r) a3 w3 hs3 rfl (hBr r);cases e with
   | ret=>
    cases hc:cd r with
    | ret=>rw [hc] at e1;exact ⟨_,w4,e1,rfl,e2,e3⟩
    | _=>rw [hc] at hj;exact hj.elim
   | exit i=>
    cases hc:cd r with
    | exit j=>rw [hc] at e1 hj;cases (show i=j from hj);exact ⟨_,w4,e1,rfl,e2,e3⟩
    | _=>rw [hc] at hj;exact hj.elim
   | _=>exact hj.elim
theorem zBp (h:c∈zil W V l):c.lab∉W/\∀a∈c.avs,a.free W V=true:=by
 simp only [zil,xP,yE,xA] at h;obtain ⟨b,⟨_,h1,_⟩,rfl⟩:=h;refine ⟨zds h1,fun a ha=>?_⟩;obtain ⟨x,_,rfl⟩:=xP.1 ha;unfold AV.clear;cases hf:x.free W V with
 | true=>exact hf
 | false=>rfl
theorem zDR :∀{l:List AV},(∀a∈l,a.free W V=true)->(∀c∈AV.colsL l,c∉W)/\∀c∈AV.labsL l,c∉V
 | [],_=>by
  refine ⟨?_,?_⟩
  ·intro c hc;cases hc
  ·intro c hc;cases hc
 | a::l,h=>by
  obtain ⟨h1,h2⟩:=AV.free_spec (h a xx);obtain ⟨h3,h4⟩:=zDR (l:=l) fun b hb=>h b (xy _ hb)
  exact ⟨fun c hc=>(xD.1 hc).elim (h1 c) (h3 c),fun c hc=>(xD.1 hc).elim (h2 c) (h4 c)⟩
def zJP {σ ρ:Type} (P:Program) (cx:Cx) (its:List It) (slE:List (Nat×AV)) (Bs:σ->List Bx) (Br:ρ->List Bx) (cd:ρ->Code) (Q:Exit->Act->World->Prop):σ⊕ρ->Prop
 | .inl s=>JI true P its (Sx cx ⟨slE,Bs s⟩) Q
 | .inr r=>JI true P (.c (cd r)::its) (Sx cx ⟨slE,Br r⟩) Q
theorem zHc {σ ρ χ:Type} {P:Program} {gf:Nat} {caps:List AV} {ps:χ->List AV} {it:{σ:Type}->Rnd σ χ->σ->Option σ} {g:Operand} {prm:Array Tmp} {asg body:Code} {cx:Cx} {E:Env} {its:List It} {Q:Exit->Act->World->Prop} {s0:σ} {o:σ⊕ρ}
  (ok:ItOk P gf caps ps it) (L ks bs:List Nat) (slE:List (Nat×AV)) (Bs:σ->List Bx) (Br:ρ->List Bx) (cd:ρ->Code) (kb:σ->χ->Option (σ⊕ρ)) (Eb:σ->χ->Env)
  (hmk:cx.marked=true) (hg:E.opd g=some (.fv gf caps)) (heg:∀as w,(callFunc gf as).run P w= .ok (.enter gf as) w) (hL:okW L=true) (hLs:(L.all fun c=> !spB c)=true) (hcols:subN (AV.colsL caps) (0::L)=true)
  (hp:E.pick ks bs=some ⟨slE,Bs s0⟩) (hfs:(slE.all fun p=>p.2.free (1::L) [])=true) (hB0:zil (1::L) [] (Bs s0)=Bs s0) (hBs:∀s,zil [1] [] (Bs s)=Bs s) (hBr:∀r,zil [1] [] (Br r)=Br r)
  (hpk:(prm.toList.all fun q=> !memN q ks&&Nat.blt q cx.n.n)=true) (hks:(slE.all fun p=>memN p.1 ks)=true) (hprm:∀x,(ps x).length=prm.size)
  (hasg:∀(X:Ext) (old:Array Value) s x,J false P asg (Sx ⟨⟨cx.n.n,ks⟩,X,false,old⟩ ⟨zuP prm.toList (ps x) slE,Bs s⟩) fun e a w=>e= .normal/\Sx ⟨⟨cx.n.n,ks⟩,X,false,old⟩ (Eb s x) a w)
  (hfree:∀s x,zqS [1] [] (Eb s x).sl=(Eb s x).sl/\zil [1] [] (Eb s x).bx=(Eb s x).bx)
  (hbody:∀(X:Ext) (old:Array Value) s x o,kb s x=some o->J false P body (Sx ⟨⟨cx.n.n,ks⟩,X,false,old⟩ (Eb s x)) (match o with
   | .inl s'=>fun e a w=>e= .normal/\Sx ⟨⟨cx.n.n,ks⟩,X,false,old⟩ ⟨slE,Bs s'⟩ a w
   | .inr r=>fun e a w=>Jump e (cd r)/\Sx ⟨⟨cx.n.n,ks⟩,X,false,old⟩ ⟨slE,Br r⟩ a w))
  (hit:it (rnd kb) (.inl s0)=some o)
  (hk:zJP P cx its slE Bs Br cd Q o):JI true P (.c (.rangeFunc g prm asg body)::its) (Sx cx E) Q:=by
 intro a w hs;rw [zrG];intro ro hro;obtain rfl:=hro rfl;refine wpIn_rangeFunc fun fn _=>?_
 obtain ⟨γ0,hB,hS,hX⟩:=hs;obtain ⟨vs,hv,hcaps⟩:=Env.opd_rel hg hS;have hL2:=ztP hL;have h0L:0∉L:=fun h=>by have:=hL2 0 h;omega
 have h1L:1∉L:=fun h=>by have:=hL2 1 h;omega
 simp only [xJ] at hfs hpk hks;have hslm:∀p∈slE,p∈E.sl:=by
  unfold Env.pick at hp;split at hp
  ·rename_i s' b' e1 e2;cases hp;exact zmR _ _ e1
  ·cases hp
 have hbxm:∀b∈Bs s0,b∈E.bx:=by
  unfold Env.pick at hp;split at hp
  ·rename_i s' b' e1 e2;simp only [yj,Env.mk.injEq] at hp;rw [<-hp.2];exact zpI _ _ e2
  ·cases hp
 obtain ⟨rec,hrec⟩:∃rec:LoopState->Option Code->Loop,rec=fun st pe=>{state:=st,pending:=pe,fn:=fn,tmps:=a.tmps,params:=prm,assign:=asg,body:=body,defers:=w.heap.size}:=⟨_,rfl⟩
 obtain ⟨W1,hW1⟩:∃W1,(w.alloc (.deferred (some []))).alloc (.loop (rec .ready none))=W1:=⟨_,rfl⟩;have hl1:W1.heap[w.heap.size+1]? =some (.loop (rec .ready none)):=by
  rw [<-hW1];have:=World.alloc_heap_new (w.alloc (.deferred (some []))) (.loop (rec .ready none));rwa [World.size_alloc] at this
 have hD1:W1.heap[w.heap.size]? =some (.deferred (some [])):=by
  rw [<-hW1];exact (Below.heap_alloc _ _ _ (by simp)).trans (World.alloc_heap_new w _)
 have hsz:W1.heap.size=w.heap.size+2:=by rw [<-hW1];simp
 have hblk:∀b,b<w.heap.size->W1.heap[b]? =w.heap[b]? :=fun b hb=>by
  rw [<-hW1];exact (Below.heap_alloc _ _ _ (by simp;omega)).trans (Below.heap_alloc _ _ _ hb)
 have hos:W1.os=w.os/\W1.tape=w.tape/\W1.output=w.output:=by rw [<-hW1];exact ⟨rfl,rfl,rfl⟩
 have trn:∀γ γ':Gh,(∀b,b<w.heap.size->γ'.col b=γ.col b)->γ'.box=γ.box->(∀b,w.heap.size<=b->b<w.heap.size+2->γ'.col b≠0)->Tr [] [] γ w γ' W1:=fun γ γ' h1 h2 h3=>
  ⟨hos.1,hos.2.1,hos.2.2,by omega,fun b hb _=>hblk b hb,h1,fun ℓ _=>by rw [h2],fun b hb hb2 h0=>absurd h0 (h3 b hb (by omega))⟩
 obtain ⟨own0,hown0⟩:∃own0:Nat->Prop,own0=fun b=>b<w.heap.size/\γ0.col b∈L:=⟨_,rfl⟩
 obtain ⟨F,hF⟩:∃F:Fp,F=fun b=>b<w.heap.size/\γ0.col b=0:=⟨_,rfl⟩
 -- the iterator's view
 obtain ⟨γi,hγi⟩:∃γi:Gh,γi=⟨fun b=>if b<w.heap.size then (if γ0.col b∈L then γ0.col b else if γ0.col b=0 then 0 else 1) else 1,γ0.box⟩:=⟨_,rfl⟩;have hci:AV.relL γi W1 caps vs:=by
  refine AV.keepL caps (trn γi γi (fun _ _=>rfl) rfl (fun b h1 _=>by simp [hγi,Nat.not_lt.2 h1])) (fun c _ h=>by cases h) (fun c _ h=>by cases h) (AV.reghL caps (fun b hb hc=>?_) (fun ℓ _=>by rw [hγi]) hcaps);have:=zaq hcols _ hc;rw [hγi];rcases xz.1 this with e| e
  ·simp [hb,e,h0L]
  ·simp [hb,e]
 have hGi:ItG F own0 γi W1:=by
  rw [hγi,hF,hown0];refine ⟨fun b hb h0=>?_,fun b hb h2=>?_,fun b hb=>by rw [hsz];exact xT hb.1 (by omega)⟩
  ·by_cases hlt:b<w.heap.size
   ·by_cases hm:γ0.col b∈L
    ·simp [hlt,hm] at h0;rw [h0] at hm;exact absurd hm h0L
    ·by_cases hz:γ0.col b=0
     ·exact ⟨hlt,hz⟩
     ·simp [hlt,hm,hz] at h0
   ·simp [hlt] at h0
  ·by_cases hlt:b<w.heap.size
   ·by_cases hm:γ0.col b∈L
    ·exact ⟨hlt,hm⟩
    ·by_cases hz:γ0.col b=0
     ·simp [hlt,hz,h0L] at h2
     ·simp [hlt,hm,hz] at h2
   ·simp [hlt] at h2
 -- the caller's
 obtain ⟨γ1,hγ1⟩:∃γ1:Gh,γ1=⟨fun b=>if b<w.heap.size then (if γ0.col b∈L then 1 else γ0.col b) else 1,γ0.box⟩:=⟨_,rfl⟩;have h1same:∀(C:List Nat),(∀c∈C,c∉1::L)->∀b,b<w.heap.size->γ0.col b∈C->γ1.col b=γ0.col b:=fun C hC b hb hc=>by
  have hn:γ0.col b∉L:=fun h=>hC _ hc (xy _ h)
  simp [hγ1,hb,hn]
 have tr1:Tr [] [] γ1 w γ1 W1:=trn γ1 γ1 (fun _ _=>rfl) rfl (fun b h1 _=>by simp [hγ1,Nat.not_lt.2 h1]);have hI0:CI cx.X a.defers F (w.heap.size+1) w.heap.size rec a.tmps slE Bs Br cd (.inl s0) own0 W1 γ1:=by
  have ha:zwh γ0 ⟨fun b=>if γ0.col b∈L then 2 else γ0.col b,γ0.box⟩:=by
   refine ⟨fun b hb=>by simp [hb,h0L],fun b hb=>by simp [hb,h1L],fun b hb=>?_,fun b hb=>?_⟩
   ·by_cases hm:γ0.col b∈L
    ·simp [hm] at hb
    ·simpa [hm] using hb
   ·have hm:γ0.col b∉L:=fun hm=>by
     have:=xJ.1 hLs _ hm;rw [hb] at this;cases this
    simp [hm]
  have htx:Tr [] [] ⟨fun b=>if γ0.col b∈L then 2 else γ0.col b,γ0.box⟩ w ⟨fun b=>if b<w.heap.size then (if γ0.col b∈L then 2 else γ0.col b) else if b<w.heap.size+2 then 2 else 1,γ0.box⟩ W1:=
   trn _ _ (fun b hb=>by simp [hb]) rfl (fun b h1 h2=>by simp [Nat.not_lt.2 h1,h2])
  refine ⟨⟨_,cx.X.tr (cx.X.ren hB.ext ha) htx (fun c hc=>by cases hc) (fun c hc=>by cases hc),(hB.defers.ren ha).tr htx (fun c hc=>by cases hc),by rw [hγ1],fun b hz=>?_,fun b hz=>?_,fun b hz=>?_⟩,fun b hb=>?_,?_,?_,hD1,fun p hp=>?_,fun c hc=>?_,hl1⟩
  ·rw [hown0] at hz;rcases hz with ⟨h1,h2⟩| rfl| rfl
   ·simp [h1,h2,hγ1]
   ·have q1:¬w.heap.size+1<w.heap.size:=by omega
    have q2:w.heap.size+1<w.heap.size+2:=by omega
    simp only [hγ1,xu q1,xw q2,and_self]
   ·have q1:¬w.heap.size<w.heap.size:=by omega
    have q2:w.heap.size<w.heap.size+2:=by omega
    simp only [hγ1,xu q1,xw q2,and_self]
  ·rw [hown0] at hz;by_cases hb:b<w.heap.size
   ·have hm:γ0.col b∉L:=fun hm=>hz (.inl ⟨hb,hm⟩)
    simp [hγ1,hb,hm]
   ·have hb2:¬b<w.heap.size+2:=fun h=>hz (by
     have:b=w.heap.size+1\/b=w.heap.size:=by omega
     exact .inr this)
    simp [hγ1,hb,hb2]
  ·rw [hown0] at hz;rw [hsz];rcases hz with ⟨h1,h2⟩| rfl| rfl<;>omega
  ·rw [hF] at hb;refine ⟨?_,by rw [hsz];exact xT hb.1 (by omega)⟩;simp [hγ1,hb.1,hb.2,h0L]
  ·rw [hown0];intro h;have:=h.1;omega
  ·rw [hown0];intro h;have:=h.1;omega
  ·obtain ⟨f1,f2⟩:=AV.free_spec (hfs p hp);exact p.2.keep tr1 (fun c _ h=>by cases h) (fun c _ h=>by cases h) (AV.regh p.2 (h1same _ f1) (fun ℓ _=>by rw [hγ1]) (hS p (hslm p hp)))
  ·have hc':c∈zil (1::L) [] (Bs s0):=by rw [hB0];exact hc
   obtain ⟨k1,k2⟩:=zBp hc';obtain ⟨k3,_⟩:=zDR k2;obtain ⟨g1,cs,g2,g3,g4⟩:=hX c (hbxm c hc);have hlt:=(xY.1 g2).1;have hbox:γ1.box=γ0.box:=by rw [hγ1]
   refine ⟨?_,cs,?_,AV.keepL c.avs tr1 (fun c _ h=>by cases h) (fun c _ h=>by cases h) (AV.reghL c.avs (h1same _ k3) (fun ℓ _=>by rw [hbox]) g3),g4⟩
   ·rw [hbox];have:=h1same [c.lab] (fun d hd=>by simp at hd;rw [hd];exact k1) (γ0.box c.lab) hlt (by rw [g1];exact xx);rw [this];exact g1
   ·rw [hbox,hblk _ hlt];exact g2
 have hfs1:∀p∈slE,p.2.free [1] []=true:=fun p hp=>by
  obtain ⟨f1,f2⟩:=AV.free_spec (hfs p hp);unfold AV.free;simp only [xA,xJ,ym];refine ⟨fun c hc=>?_,fun c hc=>rfl⟩;cases hm:memN c [1] with
  | false=>rfl
  | true=>have:=zbt.1 hm;exact absurd (xz.2 (.inl (by simpa using this))) (f1 c hc)
 have hT:=CI.takes (P:=P) (X:=cx.X) (ds:=a.defers) (F:=F) (l:=w.heap.size+1) (D:=w.heap.size) (rec:=rec) (old:=a.tmps) (slE:=slE) (Bs:=Bs) (Br:=Br) (cd:=cd) (asg:=asg) (body:=body) (prm:=prm) (N:=cx.n.n) (ks:=ks) (kb:=kb) (ps:=ps) (Eb:=Eb)
  fn hrec hB.size (by omega) hfs1 hBs hBr (fun p hp=>zbt.1 (hks p hp)) (fun q hq=>by
   have:=hpk q hq;simp only [xA] at this;exact ⟨zds this.1,qa (xW this.2)⟩) hprm hasg hfree hbody
 refine ⟨w.heap.size+1,[{target:= .collected w.heap.size,args:=#[]}],W1,{target:= .fn (.func gf) vs.toArray,args:=#[.func (.yield (w.heap.size+1)) #[] #[]]},W1,gf,
  (.func (.yield (w.heap.size+1)) #[] #[]::vs).toArray,W1,?_,?_,fun _ _=>trivial,?_,nofun,?_⟩
 ·rw [<-hW1,hrec];exact run_enterLoop_outer _ _ _ _ _
 ·simp only [resolve,hv];simp [go_sem]
 ·simp [invoke,go_sem,heg]
 ·refine zsG.2 (Calls.mono (ok (σ⊕ρ) (rnd kb) (.inl s0) o hit (w.heap.size+1) γi W1 F own0 vs _ hci hGi (CI.abid hfs1 hBs hBr) hT ⟨γ1,hI0⟩) ?_);rintro e W2 ⟨⟨v,rfl⟩,own',γ4,h4⟩;have hend:=run_endLoop (P:=P) h4.lp (by cases o<;>simp [lpOf,hrec]);obtain ⟨w4,hw4⟩:∃w4,W2.putObj (w.heap.size+1) (.loop {lpOf rec cd o with state:= .exhausted})=w4:=⟨_,rfl⟩;rw [hw4] at hend;refine ⟨_,_,hend,?_⟩;have hZl:Zof own' (w.heap.size+1) w.heap.size (w.heap.size+1):= .inr (.inl rfl);have hsx:Sx cx ⟨slE,bxOf Bs Br o⟩ {a with defers:=[{target:= .collected w.heap.size,args:=#[]}]++a.defers} w4:=by
   have hLl:Lets (fun b=>b=w.heap.size+1) W2 w4:=by rw [<-hw4];exact Lets.put (Z:=fun b=>b=w.heap.size+1) rfl _
   have hT4:=zpa hLl fun b e=>by rw [e];exact h4.two.one _ hZl
   have hout:=(show Two cx.X a.defers (Zof own' (w.heap.size+1) w.heap.size) (zda γ4 W2.heap.size) w4 by rw [<-hw4];exact h4.two.put hZl _).out;refine ⟨zda γ4 W2.heap.size,⟨?_,(fun e=>by rw [hmk] at e;cases e),hB.size,hB.kept,hout.1⟩,fun p hp=>?_,?_⟩
   ·obtain ⟨Ds,hd,hnd,hDs⟩:=hout.2;obtain ⟨Ds0,hd0,_,hDs0⟩:=hB.defers;refine ⟨w.heap.size::Ds,by simp only [ye,<-hd];rfl,ur.2 ⟨fun hm=>?_,hnd⟩,fun D hD=>?_⟩
    ·have:({target:= .collected w.heap.size,args:=#[]}:Deferred)∈a.defers:=by rw [hd];exact xP.2 ⟨_,hm,rfl⟩
     rw [hd0] at this;obtain ⟨D',hD',e⟩:=xP.1 this;have e':D'=w.heap.size:=by injection e with e1;injection e1
     have:=(xY.1 (hDs0 D' hD').2.1).1;omega
    ·rcases xz.1 hD with rfl| hD
     ·have hDl:=(xY.1 h4.blk).1;refine ⟨cx.X.le hB.ext,(hLl.block _ hDl (by omega)).trans h4.blk,?_⟩;simp [zda,hDl];exact h4.two.one _ (.inr (.inr rfl))
     ·exact hDs D hD
   ·obtain ⟨f1,f2⟩:=AV.free_spec (hfs1 p hp);exact p.2.keep hT4 f1 f2 (h4.sl p hp)
   ·have:=h4.bx.tr hT4;cases o with
    | inl s=>rw [show bxOf Bs Br (Sum.inl s)=Bs s from rfl,hBs] at this;exact this
    | inr r=>rw [show bxOf Bs Br (Sum.inr r)=Br r from rfl,hBr] at this;exact this
  cases o with
  | inl s=>
   have hpn:(lpOf rec cd (Sum.inl s:σ⊕ρ)).pending=none:=by simp [lpOf,hrec]
   rw [hpn];exact hk _ _ hsx
  | inr r=>
   have hpn:(lpOf rec cd (Sum.inr r:σ⊕ρ)).pending=some (cd r):=by simp [lpOf,hrec]
   rw [hpn];exact hk _ _ hsx none (fun _=>rfl)
theorem zFe (N:Nat) (hf:P.funcs[f]? =some fn) (hb:fn.body=some c) (hN:fn.ntmps=N) (hlen:Nat.ble ins.length N=true) (hres:zox P E fn.results.toList outs)
  (hE1:zqS [1] [] E.sl=E.sl) (hE2:zil [1] [] E.bx=E.bx)
  (hj:∀X:Ext,J true P c (Sx ⟨⟨N,[]⟩,X,true,#[]⟩ ⟨zsH 0 ins,[]⟩) fun e a w=>e= .ret/\Sx ⟨⟨N,[]⟩,X,true,#[]⟩ E a w):FnOk P f ins outs:=by
 subst hN;intro w F vs hr;have hl:=zdc hr;have hlen:=xW hlen;refine (zsG (ro:=none) (n:=0)).1 (callsIn_of_wp_marks (F:=RF none) hf hb trivial (qU (hj (fnX w F) {tmps:=vs.toArray++Array.replicate (fn.ntmps - vs.toArray.size) undef,defers:=[]} w ⟨gh0 F,⟨⟨[],rfl,qA,fun D hD=>by cases hD⟩,(fun _=>rfl),?_,(fun k hk=>by cases hk),Below.refl _ _,fun b _=>?_,fun b h1 h2=>by omega⟩,?_,fun b hb=>by cases hb⟩ none (fun _=>rfl)) ?_))
 ·simp [hl];omega
 ·by_cases hF:F b<;>simp [gh0,hF]
 ·intro p hp;have:=zsI hr [] (List.replicate (fn.ntmps - vs.length) undef) p hp;simp only [yc] at this;have e:(vs++List.replicate (fn.ntmps - vs.length) undef).toArray=vs.toArray++Array.replicate (fn.ntmps - vs.toArray.size) undef:=by simp
  rw [e] at this;exact this
 ·rintro e a w1 ⟨rfl,γ,hB,hS,hX⟩;obtain ⟨Ds,hd,hnd,hDs⟩:=hB.defers;obtain ⟨hx1,hx2,hx3⟩:=hB.ext;show LeavesInM (RF none) 0 P fn a.tmps _ a.defers .returning w1;rw [hd]
  have key:∀(Ds:List Nat) (w2:World),Ds.Nodup->(∀D∈Ds,w.heap.size<=D/\w2.heap[D]? =some (.deferred (some []))/\γ.col D=1)->Lets (fun b=>γ.col b=1/\w.heap.size<=b) w1 w2->w2.heap.size=w1.heap.size->
    LeavesInM (RF none) 0 P fn a.tmps (fun e w'=>∃γ us,e= .returned (zlV us)/\Below w.heap.size w w'/\
     ((∀b,b<w.heap.size->(γ.col b=0/\F b)\/γ.col b=1)/\∀b,w.heap.size<=b->b<w'.heap.size->γ.col b≠0)/\AV.relL γ w' outs us) (Ds.map fun D=>{target:= .collected D,args:=#[]}) .returning w2:=by
   intro Ds
   induction Ds with
   | nil=>
    intro w2 _ _ hLs hsz;have hT:=zpa hLs fun b hb=>hb.1
    have hS2:=hS.tr hT;have hX2:=hX.tr hT;rw [hE1] at hS2;rw [hE2] at hX2;obtain ⟨us,hu,hu'⟩:=zlI (P:=P) (fn:=fn) hS2 hX2 hres;refine ⟨_,hu,zda γ w1.heap.size,us,rfl,⟨hLs.os.trans hx1.os,hLs.tape.trans hx1.tape,hLs.output.trans hx1.output,yi hx1.size hLs.size,fun b hb=>?_⟩,⟨fun b hb=>?_,fun b h1 h2=>?_⟩,hu'⟩
    ·rw [hLs.block b (xT hb hx1.size) (fun h=>by have:=h.2;omega)];exact hx1.block b hb
    ·have h1:=xT hb hx1.size;simp only [zda,xw h1];exact hx2 b hb
    ·rw [hsz] at h2;simp only [zda,xw h2];exact hx3 b h1 h2
   | cons D Ds ih=>
    intro w2 hnd hDs hLs hsz;obtain ⟨n1,n2⟩:=ur.1 hnd;obtain ⟨g0,g1,g2⟩:=hDs D xx;refine ⟨nofun,.inl ⟨D,w2.putObj D (.deferred none),rfl,run_takeDeferred g1,ih _ n2 (fun D' hD'=>?_) ⟨hLs.os,hLs.tape,hLs.output,by simpa using hLs.size,fun b hb hn=>?_⟩ (by simpa using hsz)⟩⟩
    ·obtain ⟨k0,k1,k2⟩:=hDs D' (xy _ hD');exact ⟨k0,(World.putObj_heap_other fun e=>n1 (by rw [<-e];exact hD')).trans k1,k2⟩
    ·rw [World.putObj_heap_other (fun e=>hn (by rw [e];exact ⟨g2,g0⟩))];exact hLs.block b hb hn
  exact key Ds w1 hnd hDs ⟨rfl,rfl,rfl,xB _,fun _ _ _=>rfl⟩ rfl
section
variable {m:Bool} {P:Program} {l:List It} {cx:Cx} {E E1:Env} {Q:Exit->Act->World->Prop} {id:Nat} {c:Code}
theorem zKc (h:zfi E E1):JI m P [] (Sx cx E) fun e a w=>(e= .normal\/e= .ret)/\Sx cx E1 a w:=zCY fun _ _ hs=>⟨.inl rfl,h.go hs⟩
theorem zKe (h:zfi E E1):∀e a w,(e= .ret/\Sx cx E a w)->zjC m P (fun e a w=>(e= .normal\/e= .ret)/\Sx cx E1 a w) l e a w:=zHg fun _ _ hs=>⟨.inr rfl,h.go hs⟩
theorem zGY {σ ρ:Type} (body:σ->Option (σ⊕ρ)) (Cs:σ->Cx) (Es:σ->Env) (R:ρ->Exit->Act->World->Prop)
  (hb:∀s o,body s=some o->J m P c (Sx (Cs s) (Es s)) (match o with
   | .inl s'=>fun e a w=>e= .normal/\Sx (Cs s') (Es s') a w
   | .inr r=>fun e a w=>e≠ .normal/\R r e a w))
  {s:σ} {r:ρ} (h:zaj body s=some r) (hC:cx=Cs s) (hS:zfi E (Es s)) (k:∀e a w,R r e a w->zjC m P Q l e a w):JI m P (.c (.loop c)::l) (Sx cx E) Q:=
 zEi body (fun s=>Sx (Cs s) (Es s)) R hb h (fun _ _ hs=>by subst hC;exact hS.go hs) k
end
abbrev kI (x:Int):AV:= .lf (.int .i64 x)
abbrev kU (x:Int):AV:= .lf (.int .u64 x)
abbrev k8 (x:Int):AV:= .lf (.int .u8 x)
abbrev kB (x:Bool):AV:= .lf (.bool x)
abbrev kS (x:List UInt8):AV:= .lf (.str x)
abbrev kN:AV:= .lf (.val (.slice none 0 0))
theorem bnd {α β:Type} {x:Option α} {f:α->Option β} {r:β} (h:(x>>=f)=some r):∃a,x=some a/\f a=some r:=zCE h
theorem jb {α β:Type} {x:Option α} {f:α->Option β} {r:β} {G:Prop} (h:(x>>=f)=some r) (k:∀a,x=some a->f a=some r->G):G:=let ⟨a,e,q⟩:=bnd h;k a e q
theorem sj {α:Type} {a b:α} (h:some a=some b):a=b:=yW h
def Env.keys (E:Env):List Nat:=E.sl.map (·.1)
def Env.labs (E:Env):List Nat:=E.bx.map (·.lab)
def nthO {α:Type}:List α->Nat->Option α
 | [],_=>none
 | x::_,0=>some x
 | _::l,n+1=>nthO l n
theorem zrY {α:Type}:∀{l:List α} {n:Nat} {x:α},nthO l n=some x->l.drop n=x::l.drop (n+1)
 | [],_,_,h=>by cases h
 | y::l,0,x,h=>by cases h;rfl
 | y::l,n+1,x,h=>by
  have:=zrY (l:=l) (n:=n) h;simpa using this
def zop (E:Env):List Operand->Option (List AV)
 | []=>some []
 | x::l=>match E.opd x,zop E l with
  | some a,some r=>some (a::r)
  | _,_=>none
theorem zsX :∀{ins:List (Operand×AV)},zop E (ins.map (·.1))=some (ins.map (·.2))->zqx E ins
 | [],_=>trivial
 | p::l,h=>by
  simp only [ye,zop] at h;split at h
  ·rename_i a r h1 h2;simp only [yj,yC] at h;obtain ⟨rfl,rfl⟩:=h;exact ⟨h1,zsX h2⟩
  ·cases h
theorem zxr :∀{bxs:List Bx},zrj E.bx (bxs.map (·.lab))=some bxs->zyp E bxs
 | [],_=>trivial
 | b::l,h=>by
  simp only [ye,zrj] at h;split at h
  ·rename_i a r h1 h2;simp only [yj,yC] at h;obtain ⟨rfl,rfl⟩:=h;exact ⟨h1,zxr h2⟩
  ·cases h
section
variable {P:Program} {N:Lim} {ops:Array Oper} {rest:List Oper} {E E':Env} {o:Oper} {ins:List (Operand×AV)} {bxs:List Bx} {W V:List Nat} {av:AV} {bs:List Bx}
def zJO (t:Nat) (b:Bool) (E:Env):Env:=⟨E.sl.map fun p=>match Nat.beq p.1 t with
 | true=>(p.1,.lf (.bool b))
 | false=>p,E.bx⟩
theorem zKU (E1:Env) (h:E.pick E1.keys E1.labs=some E1) (k:zfi E1 E'):zfi E E':=(zvR _ _ h).trans k
theorem zKV (x o:Nat) (h:(Nat.ble 2 x&&Nat.ble 2 o&& !spB x)=true) (k:zfi (E.ren x o) E'):zfi E E':=(zKh x o h).trans k
theorem zdE (t:Nat) (av':AV) (hl:lookup E.sl t=some av) (hle:av.le av') (k:zfi ⟨zif (some t) av' E.sl,E.bx⟩ E'):zfi E E':=(zKS t av' hl hle).trans k
theorem zaN (ℓ i:Nat) (av':AV) (hb:zik E.bx ℓ=some b) (hi:b.avs[i]? =some av) (hle:av.le av') (k:zfi ⟨E.sl,⟨b.lab,b.typ,b.avs.set i av'⟩::E.bx.filter fun c=> !Nat.beq c.lab ℓ⟩ E'):zfi E E':=(zKf ℓ i av' hb hi hle).trans k
end
section
variable {m:Bool} {P:Program} {l l':List It} {cx:Cx} {E E1:Env} {Q:Exit->Act->World->Prop} {id:Nat} {ops:List Oper}
theorem zw (h:zfi E E1):JI m P (.c .ret::l) (Sx cx E) fun e a w=>e= .ret/\Sx cx E1 a w:=zCZ fun _ _ hs=>⟨rfl,h.go hs⟩
theorem zbf (h:zfi E E1):JI m P (.c .ret::l) (Sx cx E) fun e a w=>e≠ .normal/\e= .ret/\Sx cx E1 a w:=zCZ fun _ _ hs=>⟨nofun,rfl,h.go hs⟩
theorem zH (h:zfi E E1):JI m P [] (Sx cx E) fun e a w=>e= .normal/\Sx cx E1 a w:=zCY fun _ _ hs=>⟨rfl,h.go hs⟩
theorem zad (he:ztz id l=none) (h:zfi E E1):JI m P (.c (.exit id)::l) (Sx cx E) fun e a w=>e≠ .normal/\e= .exit id/\Sx cx E1 a w:=zHb he fun _ _ hs=>⟨nofun,rfl,h.go hs⟩
end
section
variable {m:Bool} {P:Program} {l:List It} {cx:Cx} {E E1:Env} {Q:Exit->Act->World->Prop} {c:Code}
theorem zac {σ ρ:Type} (body:σ->Option (σ⊕ρ)) (Es:σ->Env) (R:ρ->Exit->Act->World->Prop)
  (hb:∀s o,body s=some o->J m P c (Sx cx (Es s)) (match o with
   | .inl s'=>fun e a w=>e= .normal/\Sx cx (Es s') a w
   | .inr r=>fun e a w=>e≠ .normal/\R r e a w))
  {s:σ} {r:ρ} (h:zaj body s=some r) (hS:zfi E (Es s)) (k:∀e a w,R r e a w->zjC m P Q l e a w):JI m P (.c (.loop c)::l) (Sx cx E) Q:=
 zEi body (fun s=>Sx cx (Es s)) R hb h (fun _ _ hs=>hS.go hs) k
theorem zdj (h:zfi E E1):∀e a w,(e= .ret/\Sx cx E a w)->zjC m P (fun e a w=>e= .ret/\Sx cx E1 a w) l e a w:=zHg fun _ _ hs=>⟨rfl,h.go hs⟩
theorem zzO (h:zfi E E1):∀e a w,(e= .ret/\Sx cx E a w)->zjC m P (fun e a w=>e≠ .normal/\e= .ret/\Sx cx E1 a w) l e a w:=zHg fun _ _ hs=>⟨nofun,rfl,h.go hs⟩
end
theorem zwU {P:Program} {o:Oper} {α:Type} {r:Rp α} {e ℓ:Nat} {C:List Nat} {xs:List α} {k:IntKind} {i:Int} {x:α} {t e':TypeId} {y z:Operand} {bytes:Nat}
  (ho:o.op= .indexAddr t y z) (hT:ElT P t e' r.size bytes) (hx:idx xs i=some x):zA P o [(y,.own r e ℓ C xs),(z,.lf (.int k i))] [] [] [] (.ptr ℓ (i.toNat*r.size)) []:=by
 refine zS fun γ ev w hi _=>?_
 obtain ⟨cs,hown,hg,hA,hn⟩:=hi (y,.own r e ℓ C xs) (by simp);have h2:=zfA (hi (z,.lf (.int k i)) (by simp));simp only at hown hg h2;obtain ⟨i0,i1,_⟩:=zlA hx;rcases hown.2 with ⟨_,hz⟩| ⟨g,cap,cur,hv,_,hh,hnc,hcm,hcs,htake⟩
 ·omega
 ·have hbox:=(hg g (by rw [hv];rfl)).2;refine ⟨.pointer (some ⟨g,0+i.toNat*r.size,none⟩),w,γ,by simp [execOp,ho,hv,h2,znL hT w g 0 _ cap k i i0 i1],Tr.refl _ _ _ _,?_,fun b hb=>by cases hb⟩;show _=_;rw [hbox,xE]
theorem zBd {α:Type} (r:Rp α) (xs:List α) (i f:Nat) (x x':α) (ls:List LV) (hx:xs[i]? =some x) (hf:f+ls.length<=r.size) (h:r.lv x'=(r.lv x).take f++ls++(r.lv x).drop (f+ls.length)):
  (xs.set i x').flatMap r.lv=(xs.flatMap r.lv).take (i*r.size+f)++ls++(xs.flatMap r.lv).drop (i*r.size+f+ls.length):=by
 have hi:=(xZ.1 hx).1;have hs:xs=xs.take i++x::xs.drop (i+1):=by
  have h1:=(xZ.1 hx).2;rw [<-h1,<-xQ hi,qF]
 have hA:((xs.take i).flatMap r.lv).length=i*r.size:=by rw [r.flat,xK,yN (by omega)]
 have hB:=r.len x;have e:xs.flatMap r.lv=(xs.take i).flatMap r.lv++(r.lv x++(xs.drop (i+1)).flatMap r.lv):=by
  have:=congrArg (List.flatMap r.lv) hs;rw [pk,xN] at this;exact this
 have e1:(xs.flatMap r.lv).take (i*r.size+f)=(xs.take i).flatMap r.lv++(r.lv x).take f:=by
  rw [e,qQ,hA,yP (by omega),uH,uI (by omega)]
 have e2:(xs.flatMap r.lv).drop (i*r.size+f+ls.length)=(r.lv x).drop (f+ls.length)++(xs.drop (i+1)).flatMap r.lv:=by
  rw [e,List.drop_append,hA,yb (by omega),yc,show i*r.size+f+ls.length - i*r.size=f+ls.length by omega,uJ (by omega)]
 rw [ui,xw hi,pk,xN,h,e1,e2];simp only [yS]
theorem zAm {α:Type} {r:Rp α} {x':α} {ls:List LV} (h:ls=r.lv x') (x:α):r.lv x'=(r.lv x).take 0++ls++(r.lv x).drop (0+ls.length):=by
 subst h;rw [yJ,yc,yb (by rw [r.len,r.len];omega),yX]
theorem ztD {α:Type} {xs:List α} {i:Int} {x:α} (h:idx xs i=some x):xs[i.toNat]? =some x:=by
 unfold idx at h;split at h
 ·exact h
 ·cases h
theorem zKz {P:Program} {N:Lim} {ops:Array Oper} {rest:List Oper} {E E':Env} {o:Oper} {α:Type} {r:Rp α} {e ℓ:Nat} {C:List Nat} {xs:List α} {t:TypeId} {y z:Operand} {a:AV} {ls:List LV} {off:Nat}
  (ks:List Nat) (i f:Nat) (x x':α) (C2:List Nat) (hg:zgN ops E o=some true) (ho:o.op= .store t y z) (hd:o.dst=none) (hy:E.opd y=some (.ptr ℓ off)) (hz:E.opd z=some a) (hp:zfC a=some ls) (hsz:∀w,(sizeOf t).run P w= .ok ls.length w)
  (hoff:off=i*r.size+f) (hk:E.pick ks []=some ⟨ks.map fun k=>(k,.own r e ℓ C xs),[]⟩) (hne:ks.isEmpty=false) (hx:xs[i]? =some x) (hf:Nat.ble (f+ls.length) r.size=true)
  (hx':r.lv x'=(r.lv x).take f++ls++(r.lv x).drop (f+ls.length)) (hC:(subN a.cols C2&&subN C C2&& !memN ℓ C2&&Nat.ble 2 ℓ)=true)
  (k:zcM P N ops rest ⟨(ks.map fun k=>(k,.own r e ℓ C2 (xs.set i x')))++(E.step [ℓ] [] none .any []).sl,(E.step [ℓ] [] none .any []).bx⟩ E'):zcM P N ops (o::rest) E E':=by
 intro cx a' w Q hn hs hQ;simp only [xA] at hC;obtain ⟨⟨⟨hC1,hC2⟩,hC3⟩,hC4⟩:=hC;have hs2:=hs;obtain ⟨γ,hB,hS,hX⟩:=hs;have hsl:∀kk∈ks,AV.rel γ w (.own r e ℓ C xs) (a'.tmps.getD kk undef):=by
  have hS1:Sl γ w a' (ks.map fun k=>(k,AV.own r e ℓ C xs)):=by
   have hk':=hk;unfold Env.pick at hk';split at hk'
   ·rename_i s b h1 h2;simp only [yj,Env.mk.injEq] at hk';rw [<-hk'.1];exact fun p hp=>hS p (zmR _ _ h1 p hp)
   ·cases hk'
  intro kk hkk;exact hS1 (kk,.own r e ℓ C xs) (xP.2 ⟨kk,hkk,rfl⟩)
 obtain ⟨k0,hk0⟩:∃k0,k0∈ks:=by
  cases ks with
  | nil=>cases hne
  | cons k0 ks=>exact ⟨k0,xx⟩
 obtain ⟨cs,hown,hgb,hA,hnC⟩:=hsl k0 hk0;have hi:=(xZ.1 hx).1;rcases hown.2 with ⟨_,hz0⟩| ⟨g,cap,cur,hv,_,hh,hnc,hcm,hcs,htake⟩
 ·omega
 ·obtain ⟨hcol,hbox⟩:=hgb g (by rw [hv];rfl);have hf':=xW hf;have h1:a'.eval y= .pointer (some ⟨g,off,none⟩):=by
   have:=Env.opd_rel hy hS;rw [show a'.eval y=_ from this,hbox]
  have hzr:=Env.opd_rel hz hS;have hV:=zpH hp hzr hC1;have hVl:(a'.eval z).cells.toList.length=ls.length:=hV.1.symm;have hcl:cs.length=xs.length*r.size:=hown.1;have hin:i*r.size+f+ls.length<=xs.length*r.size:=by
   have:(i+1)*r.size<=xs.length*r.size:=yg _ hi;rw [yy] at this;omega
  have hcap:xs.length*r.size<=cap*r.size:=yg _ hnc;have hst:=qC P g off e (a'.eval z).cells.toList 0 cur w hh (by rw [hVl,hoff,hcs];omega) hV.one;simp only [yL,hVl] at hst;have hrun:(execOp a'.eval o).run P w= .ok .skip (w.setRow g (cur.toList.take off++(a'.eval z).cells.toList++cur.toList.drop (off+ls.length)).toArray):=by
   have hsz':(a'.eval z).cells.size=ls.length:=by simpa using hVl
   simp [execOp,ho,h1,Instr.storeAt,Instr.sureAddr,storeVar,hsz,hsz',hst]
  have hcol':γ.col (γ.box ℓ)=ℓ:=by rw [hbox];exact hcol
  have ht:=zuY (w:=w) hcol' (cur.toList.take off++(a'.eval z).cells.toList++cur.toList.drop (off+ls.length)).toArray;rw [hbox] at ht;refine zhJ (zfG hg hS) (zmP hrun ?_);rw [hd];have hnot:∀c∈C2,c∉[ℓ]:=fun c hc h=>by
   simp only [xz,xF,xG] at h;subst h;exact zds hC3 hc
  have hA2:zW (γ.F C2) w (xs.flatMap r.lv) cs:=hA.mono fun b _ hb=>zaq hC2 _ hb
  refine k cx _ _ Q hn ⟨γ,(hB.tr ht (W:=[ℓ]) (V:=[]) (by simp [okW,hC4]) rfl).put _ _ (fun k hk=>by first| cases hk| (rw [hd] at hk;cases hk)),?_,hX.tr ht⟩ hQ;intro p hp;rcases xD.1 hp with hp| hp
  ·obtain ⟨kk,hkk,rfl⟩:=xP.1 hp;obtain ⟨cs1,hown1,hgb1,_,_⟩:=hsl kk hkk;show AV.rel γ _ (.own r e ℓ C2 (xs.set i x')) (a'.tmps.getD kk undef);rcases hown1.2 with ⟨_,hz0⟩| ⟨g1,cap1,cur1,hv1,_,hh1,hnc1,hcm1,hcs1,htake1⟩
   ·omega
   ·have hg1:g1=g:=by rw [<-(hgb1 g1 (by rw [hv1];rfl)).2,hbox]
    subst hg1;rw [hh] at hh1;simp only [yj,qG] at hh1;obtain ⟨rfl,_⟩:=hh1;have ecs:cs1=cs:=by rw [<-htake1,<-htake]
    subst ecs;have hcurl:cur.toList.length=cap*r.size:=by rw [yF,hcs]
    have hcap1:xs.length*r.size<=cap1*r.size:=yg _ hnc1;refine ⟨cs1.take off++(a'.eval z).cells.toList++cs1.drop (off+ls.length),⟨?_,.inr ⟨g1,cap1,_,hv1.trans ?_,xI _,qf w _ _ _ _ _ hh,?_,hcm1,?_,?_⟩⟩,?_,?_,fun hc=>zds hC3 hc⟩
    ·simp only [yh,xK,yq,hVl,qn,hcl,hoff];omega
    ·simp
    ·simpa using hnc1
    ·simp only [qD,yh,xK,yq,hVl,hcurl,<-hcs1,hcs];omega
    ·have e1:cur.toList.take off=cs1.take off:=by rw [<-htake,qZ,yN (by omega)]
     have e2:(cur.toList.drop (off+ls.length)).take (xs.length*r.size - (off+ls.length))=cs1.drop (off+ls.length):=by
      rw [<-htake,ut]
     have e3:(cs1.take off++(a'.eval z).cells.toList).length=off+ls.length:=by simp only [yh,xK,hVl,hcl,hoff];omega
     rw [qn,e1,qQ,e3,yP (by omega),e2]
    ·intro g2 hg2;have:g2=g1:=by rw [hv1] at hg2;simpa [Value.ownBlock] using hg2.symm
     subst this;exact ⟨hcol,hbox⟩
    ·rw [zBd r xs i f x x' ls hx hf' hx',<-hoff];exact ((ht.all hnot (hA2.take off)).append (ht.all hnot hV)).append (ht.all hnot (hA2.drop (off+ls.length)))
  ·exact ((hS.tr ht):Sl _ _ _ _) p hp
set_option linter.unusedSectionVars false
def zqA (γ:Gh) (w:World) (γ':Gh) (w':World) (p:AV×AV):Prop:=∀v,p.1.rel γ w v->p.2.rel γ' w' v
def zAD (W V:List Nat) (T:List (AV×AV)) (a a':AV):Prop:=∀γ w γ' w',Tr W V γ w γ' w'->(∀p∈T,zqA γ w γ' w' p)->∀v,a.rel γ w v->a'.rel γ' w' v
def zsB (W V:List Nat) (T:List (AV×AV)):List AV->List AV->Prop
 | [],[]=>True
 | a::l,b::m=>zAD W V T a b/\zsB W V T l m
 | _,_=>False
section
variable {W V:List Nat} {T:List (AV×AV)} {a a':AV} {l l':List AV}
theorem zaa (h:a.free W V=true):zAD W V T a a:=fun _ _ _ _ t _ v hv=>a.keep t (AV.free_spec h).1 (AV.free_spec h).2 hv
theorem zhR (i:Nat) (h:T[i]? =some (a,a')):zAD W V T a a':=fun _ _ _ _ _ hT v hv=>hT _ (yR h) v hv
theorem zsB.rel (t:Tr W V γ w γ' w') (hT:∀p∈T,zqA γ w γ' w' p):∀{l l':List AV} {vs:List Value},zsB W V T l l'->AV.relL γ w l vs->AV.relL γ' w' l' vs
 | [],[],_,_,h=>h
 | a::l,b::m,_,h,hr=>by
  obtain ⟨v,vs',rfl,h1,h2⟩:=hr;exact ⟨v,vs',rfl,h.1 _ _ _ _ t hT v h1,zsB.rel t hT h.2 h2⟩
 | [],_::_,_,h,_=>h.elim
 | _::_,[],_,h,_=>h.elim
theorem zCg (h:zsB W V T l l'):zAD W V T (.ag l) (.ag l'):=fun _ _ _ _ t hT v ⟨vs,hv,hL,h1⟩=>⟨vs,hv,h.rel t hT hL,h1⟩
end
def SlT (W V:List Nat) (T:List (AV×AV)) (l:List (Nat×AV)):List (Nat×AV)->Prop
 | []=>True
 | p::r=>(∃a,lookup l p.1=some a/\zAD W V T a p.2)/\SlT W V T l r
def BxT (W V:List Nat) (T:List (AV×AV)) (l:List Bx):List Bx->Prop
 | []=>True
 | b::r=>(∃c,zik l b.lab=some c/\c.typ=b.typ/\(!memN b.lab W&& !memN b.lab V)=true/\zsB W V T c.avs b.avs)/\BxT W V T l r
section
variable {W V:List Nat} {T:List (AV×AV)} {γ γ':Gh} {w w':World}
theorem SlT.rel (t:Tr W V γ w γ' w') (hT:∀p∈T,zqA γ w γ' w' p) (hs:Sl γ w a l):∀{r:List (Nat×AV)},SlT W V T l r->Sl γ' w' a r
 | [],_,p,hp=>by cases hp
 | q::r,h,p,hp=>by
  obtain ⟨⟨x,hx,ht⟩,h2⟩:=h;cases hp with
  | head=>exact ht _ _ _ _ t hT _ (hs _ (zeS hx))
  | tail _ hp=>exact SlT.rel t hT hs h2 p hp
theorem BxT.rel (t:Tr W V γ w γ' w') (hT:∀p∈T,zqA γ w γ' w' p) (hs:Bxs γ w l):∀{r:List Bx},BxT W V T l r->Bxs γ' w' r
 | [],_,p,hp=>by cases hp
 | q::r,h,p,hp=>by
  obtain ⟨⟨c,hc,hty,hWV,ht⟩,h2⟩:=h;cases hp with
  | head=>
   obtain ⟨hm,hlab⟩:=zfj hc;obtain ⟨g1,cs,hh,hL,h1⟩:=hs c hm;simp only [xA] at hWV;have hlt:=(xY.1 hh).1;refine ⟨?_,cs,?_,ht.rel t hT hL,h1⟩
   ·rw [t.box _ (zds hWV.2),<-hlab,t.col _ hlt];exact g1
   ·rw [t.box _ (zds hWV.2),<-hlab,<-hty,t.block _ hlt (by rw [g1,hlab];exact zds hWV.1)];exact hh
  | tail _ hp=>exact BxT.rel t hT hs h2 p hp
end
def zqz (P:Program) (o:Oper) (ins:List (Operand×AV)) (W V:List Nat) (av:AV) (T:List (AV×AV)):Prop:=
 ∀(γ:Gh) (a:Act) (w:World),(∀p∈ins,p.2.rel γ w (a.eval p.1))->∀(next:Act->World->Prop) (Q:Exit->Act->World->Prop),
  (∀γ' w' v,Tr W V γ w γ' w'->av.rel γ' w' v->(∀p∈T,zqA γ w γ' w' p)->next (a.put o.dst v) w')->opq P o a w next Q
theorem zmp (E1:Env)
  (hs:zqz P o ins W V av T) (hg:zgN ops E o=some true) (hi:zop E (ins.map (·.1))=some (ins.map (·.2))) (hc:(okW W&&okW V&&zjS N o.dst)=true)
  (hS:SlT W V T E.sl E1.sl) (hB:BxT W V T E.bx E1.bx) (k:zcM P N ops rest ⟨zif o.dst av E1.sl,E1.bx⟩ E'):zcM P N ops (o::rest) E E':=by
 intro cx a w Q hn hx hQ;obtain ⟨γ,hb,hsl,hbx⟩:=hx;simp only [xA] at hc;obtain ⟨⟨c1,c2⟩,c3⟩:=hc;refine zhJ (zfG hg hsl) (hs γ a w ((zsX hi).rel hsl) _ Q fun γ' w' v ht hv hT=>?_);refine k cx _ _ Q hn ⟨γ',(hb.tr ht c1 c2).put _ _ (by rw [hn];exact zeU c3),?_,hB.rel ht hT hbx⟩ hQ;exact (hS.rel ht hT hsl).put (fun k hk=>by rw [hb.size,hn];exact zhu c3 k hk) hv
theorem zub {P:Program} {o:Oper} {κ ν:Type} [DecidableEq κ] {rk:Rp κ} {rv:Rp ν} {m:List (κ×ν)} {t kt et:TypeId} {x0:ν} {ℓ:Nat} {y z u:Operand} {ak av:AV} {C C1 D:List Nat} (k:κ) (x:ν) (C2:List Nat) (hT:MapT P t kt et rk rv x0)
  (ho:o.op= .mapUpdate t y z u\/o.op= .insert t y z u) (hka:asV rk k C1 ak) (hva:asV rv x D av) (hC:(subN C C2&&subN C1 C2&&subN D C2&& !memN ℓ C2)=true):
  zqz P o [(y,.om rk rv ℓ C m),(z,ak),(u,av)] [ℓ] [] .any [(.om rk rv ℓ C m,.om rk rv ℓ C2 (mput m k x))]:=by
 intro γ a w hi next Q hk;simp only [xA] at hC;obtain ⟨⟨⟨hC1,hC2⟩,hC3⟩,hC4⟩:=hC;obtain ⟨b,es,cl,hv,⟨g1,g2⟩,hb,hh,hE,hnC⟩:=hi (y,.om rk rv ℓ C m) (by simp);have hkr:=hka γ w _ (hi (z,ak) (by simp));have hxr:=hva γ w _ (hi (u,av) (by simp));simp only at hv hkr hxr;have hE2:zdY (γ.F C2) w rk rv m es.toList:=hE.mono fun b _ h=>zaq hC1 _ h
 obtain ⟨es',cl',hrun,hE',hO'⟩:=zxD hh.2 hT hh.1 hE2 hkr (fun b h=>zaq hC2 _ h) hxr (fun b h=>zaq hC3 _ h);have hrun':(execOp a.eval o).run P w= .ok .skip {w with heap:=w.heap.setIfInBounds b (.map es' cl')}:=by
  rcases ho with ho| ho<;>simp [execOp,ho,hv,hrun]
 have ht:=zDD (w:=w) g1 (.map es' cl');have hnot:∀c∈C2,c∉[ℓ]:=fun c hc h=>by
  simp only [xz,xF,xG] at h;subst h;exact zds hC4 hc
 refine zmP hrun' (hk γ _ undef ht trivial fun p hp v hpv=>?_);simp only [xz,xF,xG] at hp;subst hp;obtain ⟨b',es2,cl2,hv2,⟨q1,q2⟩,_⟩:=hpv;have hbb:b'=b:=by rw [<-q2,g2]
 subst hbb;exact ⟨b',es',cl',hv2,⟨q1,q2⟩,by simpa using hb,⟨by simp [hb],hO'⟩,ht.es hnot hE',fun hc=>zds hC4 hc⟩
theorem zIf {P:Program} {o:Oper} {α:Type} {r:Rp α} {e ℓ:Nat} {C:List Nat} {xs:List α} {t:TypeId} {y z:Operand} {a:AV} {ls:List LV} {off:Nat}
  (y0:Operand) (i f:Nat) (x x':α) (C2:List Nat) (ho:o.op= .store t y z) (hp:zfC a=some ls) (hsz:∀w,(sizeOf t).run P w= .ok ls.length w)
  (hoff:off=i*r.size+f) (hx:xs[i]? =some x) (hf:Nat.ble (f+ls.length) r.size=true)
  (hx':r.lv x'=(r.lv x).take f++ls++(r.lv x).drop (f+ls.length)) (hC:(subN a.cols C2&&subN C C2&& !memN ℓ C2)=true):
  zqz P o [(y0,.own r e ℓ C xs),(y,.ptr ℓ off),(z,a)] [ℓ] [] .any [(.own r e ℓ C xs,.own r e ℓ C2 (xs.set i x'))]:=by
 intro γ a' w hin next Q hk;simp only [xA] at hC;obtain ⟨⟨hC1,hC2⟩,hC3⟩:=hC;obtain ⟨cs,hown,hgb,hA,hnC⟩:=hin (y0,.own r e ℓ C xs) (by simp);have hi:=(xZ.1 hx).1;rcases hown.2 with ⟨_,hz0⟩| ⟨g,cap,cur,hv,_,hh,hnc,hcm,hcs,htake⟩
 ·omega
 ·obtain ⟨hcol,hbox⟩:=hgb g (by rw [hv];rfl);have hf':=xW hf;have h1:a'.eval y= .pointer (some ⟨g,off,none⟩):=by
   have:=hin (y,.ptr ℓ off) (by simp);rw [show a'.eval y=_ from this,hbox]
  have hzr:=hin (z,a) (by simp);have hV:=zpH hp hzr hC1;have hVl:(a'.eval z).cells.toList.length=ls.length:=hV.1.symm;have hcl:cs.length=xs.length*r.size:=hown.1;have hin':i*r.size+f+ls.length<=xs.length*r.size:=by
   have:(i+1)*r.size<=xs.length*r.size:=yg _ hi;rw [yy] at this;omega
  have hcap:xs.length*r.size<=cap*r.size:=yg _ hnc;have hst:=qC P g off e (a'.eval z).cells.toList 0 cur w hh (by rw [hVl,hoff,hcs];omega) hV.one;simp only [yL,hVl] at hst;have hrun:(execOp a'.eval o).run P w= .ok .skip (w.setRow g (cur.toList.take off++(a'.eval z).cells.toList++cur.toList.drop (off+ls.length)).toArray):=by
   have hsz':(a'.eval z).cells.size=ls.length:=by simpa using hVl
   simp [execOp,ho,h1,Instr.storeAt,Instr.sureAddr,storeVar,hsz,hsz',hst]
  have hcol':γ.col (γ.box ℓ)=ℓ:=by rw [hbox];exact hcol
  have ht:=zuY (w:=w) hcol' (cur.toList.take off++(a'.eval z).cells.toList++cur.toList.drop (off+ls.length)).toArray;rw [hbox] at ht;have hnot:∀c∈C2,c∉[ℓ]:=fun c hc h=>by
   simp only [xz,xF,xG] at h;subst h;exact zds hC3 hc
  have hA2:zW (γ.F C2) w (xs.flatMap r.lv) cs:=hA.mono fun b _ hb=>zaq hC2 _ hb
  refine zmP hrun (hk γ _ undef ht trivial fun p hp v hpv=>?_);simp only [xz,xF,xG] at hp;subst hp;obtain ⟨cs1,hown1,hgb1,_,_⟩:=hpv;rcases hown1.2 with ⟨_,hz0⟩| ⟨g1,cap1,cur1,hv1,_,hh1,hnc1,hcm1,hcs1,htake1⟩
  ·omega
  ·have hg1:g1=g:=by rw [<-(hgb1 g1 (by rw [hv1];rfl)).2,hbox]
   subst hg1;rw [hh] at hh1;simp only [yj,qG] at hh1;obtain ⟨rfl,_⟩:=hh1;have ecs:cs1=cs:=by rw [<-htake1,<-htake]
   subst ecs;have hcurl:cur.toList.length=cap*r.size:=by rw [yF,hcs]
   have hcap1:xs.length*r.size<=cap1*r.size:=yg _ hnc1;refine ⟨cs1.take off++(a'.eval z).cells.toList++cs1.drop (off+ls.length),⟨?_,.inr ⟨g1,cap1,_,hv1.trans ?_,xI _,qf w _ _ _ _ _ hh,?_,hcm1,?_,?_⟩⟩,?_,?_,fun hc=>zds hC3 hc⟩
   ·simp only [yh,xK,yq,hVl,qn,hcl,hoff];omega
   ·simp
   ·simpa using hnc1
   ·simp only [qD,yh,xK,yq,hVl,hcurl,<-hcs1,hcs];omega
   ·have e1:cur.toList.take off=cs1.take off:=by rw [<-htake,qZ,yN (by omega)]
    have e2:(cur.toList.drop (off+ls.length)).take (xs.length*r.size - (off+ls.length))=cs1.drop (off+ls.length):=by
     rw [<-htake,ut]
    have e3:(cs1.take off++(a'.eval z).cells.toList).length=off+ls.length:=by simp only [yh,xK,hVl,hcl,hoff];omega
    rw [qn,e1,qQ,e3,yP (by omega),e2]
   ·intro g2 hg2;have:g2=g1:=by rw [hv1] at hg2;simpa [Value.ownBlock] using hg2.symm
    subst this;exact ⟨hcol,hbox⟩
   ·rw [zBd r xs i f x x' ls hx hf' hx',<-hoff];exact ((ht.all hnot (hA2.take off)).append (ht.all hnot hV)).append (ht.all hnot (hA2.drop (off+ls.length)))
def fnXW (w0:World) (γ0:Gh):Ext where
 X γ w:=(w.os=w0.os/\w.tape=w0.tape/\w.output=w0.output/\w0.heap.size<=w.heap.size)/\(∀b,b<w0.heap.size->γ0.col b<2->γ.col b=γ0.col b/\w.heap[b]? =w0.heap[b]?)/\
  (∀b,b<w0.heap.size->2<=γ0.col b->γ.col b≠0)/\∀b,w0.heap.size<=b->b<w.heap.size->γ.col b≠0
 tr:=fun {γ γ' w w' W V} ⟨⟨h1,h2,h3,h4⟩,h5,h6,h7⟩ t hW hV=>by
  have hlt:∀b,b<w0.heap.size->b<w.heap.size:=fun b hb=>xT hb h4
  refine ⟨⟨t.os.trans h1,t.tape.trans h2,t.output.trans h3,yi h4 t.size⟩,fun b hb h0=>?_,fun b hb h0=>?_,fun b k1 k2 h0=>?_⟩
  ·obtain ⟨e1,e2⟩:=h5 b hb h0;refine ⟨(t.col b (hlt b hb)).trans e1,(t.block b (hlt b hb) fun hc=>?_).trans e2⟩;have:=hW _ hc;omega
  ·rw [t.col b (hlt b hb)];exact h6 b hb h0
  ·by_cases hb:b<w.heap.size
   ·exact h7 b k1 hb (by rw [<-t.col b hb];exact h0)
   ·rcases t.fresh b (qR hb) k2 h0 with e| e
    ·have:=hW _ e;omega
    ·have:=hV _ e;omega
 ren:=fun {γ γ' w} ⟨h1,h2,h3,h4⟩ k=>⟨h1,fun b hb h0=>by
  obtain ⟨e1,e2⟩:=h2 b hb h0;refine ⟨?_,e2⟩;rcases qd (γ0.col b) 1 with h| h
  ·have h':γ0.col b=0:=by omega
   rw [h'];exact k.zero b (by rw [e1,h'])
  ·have h':γ0.col b=1:=by omega
   rw [h'];exact k.one b (by rw [e1,h']),fun b hb h0 h=>h3 b hb h0 (k.back b h),fun b k1 k2 h=>h4 b k1 k2 (k.back b h)⟩
 base:=w0.heap.size
 le:=fun h=>h.1.2.2.2
def zqw (P:Program) (f:FuncId) (ins outs ts:List AV):Prop:=
 ∀(w:World) (γ0:Gh) (vs:List Value),AV.relL γ0 w ins vs->Calls P f vs.toArray w fun e w'=>∃γ us,e= .returned (zlV us)/\(fnXW w γ0).X γ w'/\AV.relL γ w' outs us/\AV.relL γ w' ts vs
def anyB:AV->Bool
 | .any=>true
 | _=>false
def TsOk (E:Env) (ks:List Nat):Nat->List AV->Prop
 | _,[]=>True
 | n,a::l=>(anyB a=true\/memN n ks=true/\lookup E.sl n=some a)/\TsOk E ks (n+1) l
theorem TsOk.rel {E:Env} {ks:List Nat} {γ:Gh} {w:World} {a:Act} (hs:Sl γ w a E.sl) {old:Array Value} (hk:∀k∈ks,a.tmps.getD k undef=old.getD k undef):∀(l:List AV) (vs:List Value) (n:Nat),TsOk E ks n l->l.length=vs.length->
  (∀i v,vs[i]? =some v->old.getD (n+i) undef=v)->AV.relL γ w l vs
 | [],[],_,_,_,_=>rfl
 | x::l,v::vs,n,h,hl,ho=>by
  refine ⟨v,vs,rfl,?_,TsOk.rel hs hk l vs (n+1) h.2 (by simpa using hl) fun i u hu=>by rw [show n+1+i=n+(i+1) by omega];exact ho (i+1) u (by simpa using hu)⟩;rcases h.1 with h1| ⟨h1,h2⟩
  ·cases x<;>first| trivial| cases h1
  ·have:=hs _ (zeS h2);have e:=(hk n (zbt.1 h1)).trans (ho 0 v rfl);simp only at this
   rwa [e] at this
 | [],_::_,_,_,h,_=>by simp at h
 | _::_,[],_,_,h,_=>by simp at h
theorem zuB {P:Program} {f:FuncId} {fn:Func} {c:Code} {ins outs ts:List AV} {E:Env} (N:Nat) (ks:List Nat) (hf:P.funcs[f]? =some fn) (hb:fn.body=some c) (hN:fn.ntmps=N) (hlen:Nat.ble ins.length N=true) (hres:zox P E fn.results.toList outs)
  (hts:TsOk E ks 0 ts) (hl2:ts.length=ins.length)
  (hj:∀(X:Ext) (old:Array Value),J true P c (Sx ⟨⟨N,ks⟩,X,false,old⟩ ⟨zsH 0 ins,[]⟩) fun e a w=>(e= .ret\/e= .normal)/\Sx ⟨⟨N,ks⟩,X,false,old⟩ E a w):zqw P f ins outs ts:=by
 subst hN;intro w γ0 vs hr;have hl:=zdc hr;have hlen:=xW hlen;obtain ⟨tm,htm⟩:∃tm:Array Value,tm=vs.toArray++Array.replicate (fn.ntmps - vs.toArray.size) undef:=⟨_,rfl⟩;have hX0:(fnXW w (⟨fun b=>if b<w.heap.size then γ0.col b else 2,γ0.box⟩)).X ⟨fun b=>if b<w.heap.size then γ0.col b else 2,γ0.box⟩ w->(fnXW w γ0).X ⟨fun b=>if b<w.heap.size then γ0.col b else 2,γ0.box⟩ w:=fun h=>⟨h.1,fun b hb h0=>by simp [hb],fun b hb h0=>by simp only [xw hb];omega,fun b k1 k2=>by omega⟩
 have hr':AV.relL ⟨fun b=>if b<w.heap.size then γ0.col b else 2,γ0.box⟩ w ins vs:=AV.reghL (γ:=γ0) ins (fun b hb _=>by simp [hb]) (fun ℓ _=>rfl) hr;have hwp:=hj (fnXW w γ0) tm {tmps:=tm,defers:=[]} w ⟨_,⟨⟨[],rfl,qA,fun D hD=>by cases hD⟩,fun _=>rfl,?_,fun k hk=>rfl,hX0 ⟨⟨rfl,rfl,rfl,xB _⟩,fun b hb h0=>⟨rfl,rfl⟩,fun b hb h0=>by have h0':=h0;simp only [xw hb] at h0'|-;omega,fun b k1 k2=>by omega⟩⟩,?_,fun b hb=>by cases hb⟩
 ·subst htm;refine py hf hb (wp_mono (zEO hwp) ?_);rintro e a w' ⟨he,γ,hB,hS,hX⟩;obtain ⟨us,hu,hu'⟩:=zlI (P:=P) (fn:=fn) hS hX hres;have hts':AV.relL γ w' ts vs:=hts.rel hS (hB.kept) ts vs 0 (by rw [hl2,<-hl]) fun i v hv=>by
   rw [xE,yD,uK (by simpa using (xZ.1 hv).1)];simp [hv]
  have key:∃γ us',zlV us=zlV us'/\(fnXW w γ0).X γ w'/\AV.relL γ w' outs us'/\AV.relL γ w' ts vs:=⟨γ,us,rfl,hB.ext,hu',hts'⟩;obtain ⟨γ2,us2,k1,k2,k3,k4⟩:=key;rcases he with rfl| rfl
  ·exact ⟨hB.clean rfl,zlV us,hu,γ2,us2,by rw [k1],k2,k3,k4⟩
  ·exact ⟨hB.clean rfl,zlV us,hu,γ2,us2,by rw [k1],k2,k3,k4⟩
 ·rw [htm];simp [hl];omega
 ·intro p hp;have:=zsI hr' [] (List.replicate (fn.ntmps - vs.length) undef) p hp;simp only [yc] at this;have e:(vs++List.replicate (fn.ntmps - vs.length) undef).toArray=tm:=by rw [htm];simp
  rw [e] at this;exact this
def zie:List (Nat×Nat)->Nat->Option Nat
 | [],_=>none
 | p::l,c=>match Nat.beq p.1 c with
  | true=>some p.2
  | false=>zie l c
def zsw:List (Nat×Nat)->Nat->Option Nat
 | [],_=>none
 | p::l,c=>match Nat.beq p.2 c with
  | true=>some p.1
  | false=>zsw l c
theorem ziD:∀{l:List (Nat×Nat)} {c k:Nat},zie l c=some k->(c,k)∈l
 | [],_,_,h=>by cases h
 | p::l,c,k,h=>by
  rw [zie] at h;split at h
  ·rename_i hb;cases h;rw [<-xL hb];exact xx
  ·exact xy _ (ziD h)
def inW1 (p:List (Nat×Nat)):AV->AV
 | .own r e ℓ C xs=>match zie p ℓ with
  | some k=> .own r e k [0] xs
  | none=> .sl r [0] xs
 | .om rk rv ℓ C m=>match zie p ℓ with
  | some k=> .om rk rv k [0] m
  | none=> .mp rk rv [0] m
 | a=>zyG a
def inW (p:List (Nat×Nat)):AV->AV
 | .ag l=> .ag (l.map (inW1 p))
 | .fv g l=> .fv g (l.map (inW1 p))
 | a=>inW1 p a
def mlab (p:List (Nat×Nat)):AV->Option Nat
 | .own _ _ ℓ _ _=>match zie p ℓ with
  | some _=>some ℓ
  | none=>none
 | .om _ _ ℓ _ _=>match zie p ℓ with
  | some _=>some ℓ
  | none=>none
 | _=>none
def zlB (p:List (Nat×Nat)):AV->List Nat
 | .own r e ℓ C xs=>match zie p ℓ with
  | some _=>C
  | none=>ℓ::C
 | .om rk rv ℓ C m=>match zie p ℓ with
  | some _=>C
  | none=>ℓ::C
 | a=>zrP a
def blk:Value->Option Nat
 | .map b=>b
 | v=>v.ownBlock
def zuA:AV->List AV
 | .ag m=>m
 | .fv _ m=>m
 | a=>[a]
def znA:List AV->List AV
 | []=>[]
 | x::l=>(zuA x)++znA l
def zDP:Value->List Value
 | .func _ _ cs=>cs.toList
 | _=>[]
def zom:AV->Value->List Value
 | .ag _,v=>v.cells.toList
 | .fv _ _,v=>zDP v
 | _,v=>[v]
def zvk:List AV->List Value->List Value
 | x::l,v::vs=>(zom x v)++zvk l vs
 | _,_=>[]
def zwG:AV->AV->List AV
 | .ag _,.ag m=>m
 | .ag m,_=>m.map fun _=> .any
 | .fv _ m,_=>m.map fun _=> .any
 | _,t=>[t]
def zzJ:List AV->List AV->List AV
 | x::l,t::ts=>(zwG x t)++zzJ l ts
 | _,_=>[]
theorem ztV :∀{l m:List AV} {us vs:List Value},AV.relL γ w l us->AV.relL γ w m vs->AV.relL γ w (l++m) (us++vs)
 | [],_,_,_,h,k=>by cases h;exact k
 | a::l,_,_,_,h,k=>by
  obtain ⟨v,vs',rfl,h1,h2⟩:=h;exact ⟨v,_,rfl,h1,ztV h2 k⟩
theorem zuQ :∀{l:List AV} {vs:List Value},l.length=vs.length->AV.relL γ w (l.map fun _=> .any) vs
 | [],[],_=>rfl
 | _::l,v::vs,h=>⟨v,vs,rfl,trivial,zuQ (by simpa using h)⟩
 | [],_::_,h=>by simp at h
 | _::_,[],h=>by simp at h
theorem zBb (h:x.rel γ w v):AV.relL γ w (zuA x) (zom x v):=by
 cases x with
 | ag l=>obtain ⟨vs,rfl,hL,h1⟩:=h;simpa [zuA,zom,Value.cells] using hL
 | fv g l=>obtain ⟨vs,rfl,hL⟩:=h;simpa [zuA,zom,zDP] using hL
 | _=>exact ⟨v,[],rfl,h,rfl⟩
theorem zBc :∀{l:List AV} {vs:List Value},AV.relL γ w l vs->AV.relL γ w (znA l) (zvk l vs)
 | [],_,h=>by cases h;rfl
 | x::l,_,h=>by
  obtain ⟨v,vs',rfl,h1,h2⟩:=h;exact ztV (zBb h1) (zBc h2)
theorem zFd (h:x.rel γ w v) (k:t.rel γ' w' v):AV.relL γ' w' (zwG x t) (zom x v):=by
 cases x with
 | ag l=>
  obtain ⟨vs,rfl,hL,h1⟩:=h;have hl:l.length=vs.length:=(zdc hL).symm;cases t with
  | ag m=>obtain ⟨vs2,e,hL2,_⟩:=k;cases e;simpa [zwG,zom,Value.cells] using hL2
  | _=>simpa [zwG,zom,Value.cells] using zuQ (γ:=γ') (w:=w') hl
 | fv g l=>
  obtain ⟨vs,rfl,hL⟩:=h;have hl:l.length=vs.length:=(zdc hL).symm;cases t<;>simpa [zwG,zom,zDP] using zuQ (γ:=γ') (w:=w') hl
 | _=>exact ⟨v,[],rfl,k,rfl⟩
theorem zyC :∀{l ts:List AV} {vs:List Value},AV.relL γ w l vs->AV.relL γ' w' ts vs->AV.relL γ' w' (zzJ l ts) (zvk l vs)
 | [],_,_,h,_=>by cases h;rfl
 | x::l,[],_,h,k=>by obtain ⟨v,vs',rfl,_⟩:=h;cases k
 | x::l,t::ts,_,h,k=>by
  obtain ⟨v,vs',rfl,h1,h2⟩:=h;obtain ⟨v2,vs2,e,k1,k2⟩:=k;cases e;exact ztV (zFd h1 k1) (zyC h2 k2)
theorem zBT :∀{l m:List AV} {us:List Value},AV.relL γ w l us->AV.relL γ' w' m us->∀p∈l.zip m,∃u,(p.1,u)∈l.zip us/\p.1.rel γ w u/\p.2.rel γ' w' u
 | [],_,_,_,_,p,hp=>by cases hp
 | _::_,[],_,_,_,p,hp=>by cases hp
 | a::l,b::m,_,h,k,p,hp=>by
  obtain ⟨v,vs',rfl,h1,h2⟩:=h;obtain ⟨v2,vs2,e,k1,k2⟩:=k;cases e;cases hp with
  | head=>exact ⟨v,xx,h1,k1⟩
  | tail _ hp=>
   obtain ⟨u,g1,g2⟩:=zBT h2 k2 p hp;exact ⟨u,xy _ g1,g2⟩
theorem zuS :∀{l m:List AV} {us:List Value},AV.relL γ w l us->AV.relL γ' w' m us->∀q∈l.zip us,∃t,(q.1,t)∈l.zip m/\q.1.rel γ w q.2/\t.rel γ' w' q.2
 | [],_,_,_,_,p,hp=>by cases hp
 | a::l,[],_,h,k,p,hp=>by obtain ⟨v,vs',rfl,_⟩:=h;cases k
 | a::l,b::m,_,h,k,p,hp=>by
  obtain ⟨v,vs',rfl,h1,h2⟩:=h;obtain ⟨v2,vs2,e,k1,k2⟩:=k;cases e;cases hp with
  | head=>exact ⟨b,xx,h1,k1⟩
  | tail _ hp=>
   obtain ⟨u,g1,g2⟩:=zuS h2 k2 p hp;exact ⟨u,xy _ g1,g2⟩
def zvp (p:List (Nat×Nat)):List AV->List Nat
 | []=>[]
 | a::l=>(match mlab p a with
  | some ℓ=>[ℓ]
  | none=>[])++zvp p l
theorem zuL :∀{l:List AV} {us:List Value} {q:AV×Value},q∈l.zip us->mlab p q.1=some ℓ->ℓ∈zvp p l
 | [],_,_,h,_=>by cases h
 | _::_,[],_,h,_=>by cases h
 | a::l,u::us,q,h,hl=>by
  rw [zvp];cases h with
  | head=>rw [hl];simp
  | tail _ h=>exact xV _ (zuL h hl)
def zxg:List Nat->Bool
 | []=>true
 | c::l=> !memN c l&&zxg l
theorem zyV :∀{l:List AV} {us:List Value} {q q':AV×Value},zxg (zvp p l)=true->q∈l.zip us->q'∈l.zip us->mlab p q.1=some ℓ->mlab p q'.1=some ℓ->q=q'
 | [],_,_,_,_,h,_,_,_=>by cases h
 | _::_,[],_,_,_,h,_,_,_=>by cases h
 | a::l,u::us,q,q',hn,h,h',hl,hl'=>by
  rw [zvp] at hn;have tl:zxg (zvp p l)=true/\(mlab p a=some ℓ->ℓ∉zvp p l):=by
   cases ha:mlab p a with
   | none=>rw [ha] at hn;exact ⟨hn,fun e=>by cases e⟩
   | some x=>
    rw [ha] at hn;simp only [yz,yc,zxg,xA] at hn;exact ⟨hn.2,fun e=>by cases e;exact zds hn.1⟩
  cases h with
  | head=>
   cases h' with
   | head=>rfl
   | tail _ h'=>exact absurd (zuL h' hl') (tl.2 hl)
  | tail _ h=>
   cases h' with
   | head=>exact absurd (zuL h hl) (tl.2 hl')
   | tail _ h'=>exact zyV tl.1 h h' hl hl'
def beqT {α β:Type} (r:Rp α) (r':Rp β) (e e' k k':Nat):Bool:=Nat.beq r.size r'.size&&Nat.beq e e'&&Nat.beq k k'
def tOk (p:List (Nat×Nat)) (D:List Nat) (s:Nat) (K:List Nat):AV×AV->Bool
 | (.own r e ℓ C xs,t)=>(match zie p ℓ with
  | some k=>(match t with
   | .own r' e' k' C' xs'=>beqT r r' e e' k k'&&zko K C'&& !memN ℓ (outC D s C')
   | _=>false)
  | none=>anyB t)
 | (.om rk rv ℓ C m,t)=>(match zie p ℓ with
  | some k=>(match t with
   | .om rk' rv' k' C' m'=>Nat.beq k k'&&zko K C'&& !memN ℓ (outC D s C')
   | _=>false)
  | none=>anyB t)
 | (_,t)=>anyB t
def tp1 (D:List Nat) (s:Nat):AV×AV->List (AV×AV)
 | (.own r e ℓ C xs,.own r' e' _ C' xs')=>[(.own r e ℓ C xs,.own r' e' ℓ (outC D s C') xs')]
 | (.om rk rv ℓ C m,.om rk' rv' _ C' m')=>[(.om rk rv ℓ C m,.om rk' rv' ℓ (outC D s C') m')]
 | _=>[]
def zAt (D:List Nat) (s:Nat) (xs ts:List AV):List (AV×AV):=((znA xs).zip (zzJ xs ts)).flatMap (tp1 D s)
def zGn (p:List (Nat×Nat)) (D:List Nat) (s:Nat) (V:List Nat) (xs ts:List AV):Bool:=
 zxg (zvp p (znA xs))&&(p.all fun q=>Nat.ble 2 q.2&&(match zsw p q.2 with| some c=>Nat.beq c q.1| none=>false))&&zko (p.map (·.1)) D&&
  ((znA xs).all fun a=>subN (zlB p a) D)&&(((znA xs).zip (zzJ xs ts)).all (tOk p D s (1::p.map (·.2))))&&zko (p.map (·.1)) V
open Classical in
noncomputable def ghW (γ:Gh) (D:List Nat) (p:List (Nat×Nat)) (S:Fp):Gh:=
 ⟨fun b=>match (if S b then zie p (γ.col b) else none) with
  | some k=>k
  | none=>if γ.F D b then 0 else 1,fun k=>match zsw p k with
  | some ℓ=>γ.box ℓ
  | none=>0⟩
theorem zKO (hd:zko (p.map (·.1)) D=true) (h:γ.F D b):(ghW γ D p S).col b=0:=by
 have hn:zie p (γ.col b)=none:=by
  cases hf:zie p (γ.col b) with
  | none=>rfl
  | some k=>exact absurd h (zmG hd _ (xP.2 ⟨_,ziD hf,rfl⟩))
 unfold ghW;simp only [hn,ite_self,xw h]
theorem zJF (h:S b) (hk:zie p (γ.col b)=some k):(ghW γ D p S).col b=k:=by
 unfold ghW;simp only [xw h,hk]
theorem zEc (h:2<=(ghW γ D p S).col b):S b/\∃k,zie p (γ.col b)=some k:=by
 unfold ghW at h;simp only at h;by_cases hs:S b
 ·rw [xw hs] at h;cases hf:zie p (γ.col b) with
  | some k=>exact ⟨hs,k,rfl⟩
  | none=>rw [hf] at h;simp only at h;split at h<;>omega
 ·rw [xu hs] at h;simp only at h;split at h<;>omega
theorem zGM (hp:(p.all fun q=>Nat.ble 2 q.2)=true) (h:(ghW γ D p S).col b=0):γ.F D b:=by
 unfold ghW at h;simp only at h;split at h
 ·rename_i k hk;split at hk
  ·have:=xJ.1 hp _ (ziD hk);have:=xW this;simp only at this;omega
  ·cases hk
 ·split at h
  ·assumption
  ·omega
section
variable {γ:Gh} {w:World} {D:List Nat} {p:List (Nat×Nat)} {S:Fp}
theorem zBg (h:a.rel γ w v) (hD:∀c∈zlB p a,c∈D) (hd:zko (p.map (·.1)) D=true) (hb:∀q∈p,zsw p q.2=some q.1) (h2:∀q∈p,2<=q.2) (hS:∀ℓ,mlab p a=some ℓ->∀b,blk v=some b->S b):(inW1 p a).rel (ghW γ D p S) w v:=by
 have key:∀(C:List Nat),(∀c∈C,c∈D)->∀b,b<w.heap.size->γ.F C b->(ghW γ D p S).F [0] b:=fun C hC b _ hb=>by
  show (ghW γ D p S).col b∈[0];rw [zKO hd (hC _ hb)];exact xx
 have hbx:∀ℓ k,zie p ℓ=some k->(ghW γ D p S).box k=γ.box ℓ:=fun ℓ k hk=>by
  have:=hb _ (ziD hk);unfold ghW;simp only [this]
 cases a with
 | own r e ℓ C xs=>
  simp only [inW1];cases hf:zie p ℓ with
  | some k=>
   obtain ⟨cs,ho,hg,hA,hn⟩:=h;refine ⟨cs,ho,fun g hgb=>?_,hA.mono (key C (by simpa [zlB,hf] using hD)),by have:=h2 _ (ziD hf);simp only [xz,xF,xG];simp only at this;omega⟩;obtain ⟨g1,g2⟩:=hg g hgb;have hbv:blk v=some g:=by cases v<;>first| (cases hgb;done)| exact hgb
   exact ⟨zJF (hS ℓ (by simp [mlab,hf]) g hbv) (by rw [g1];exact hf),(hbx ℓ k hf).trans g2⟩
  | none=>exact (zta h).mono (key _ (by simpa [zlB,hf] using hD))
 | om rk rv ℓ C m=>
  simp only [inW1];cases hf:zie p ℓ with
  | some k=>
   obtain ⟨b,es,cl,hv,⟨g1,g2⟩,hlt,hh,hE,hn⟩:=h;refine ⟨b,es,cl,hv,⟨zJF (hS ℓ (by simp [mlab,hf]) b (by rw [hv];rfl)) (by rw [g1];exact hf),(hbx ℓ k hf).trans g2⟩,hlt,hh,hE.mono (key C (by simpa [zlB,hf] using hD)),by have:=h2 _ (ziD hf);simp only [xz,xF,xG];simp only at this;omega⟩
  | none=>
   obtain ⟨b,es,cl,hv,⟨g1,g2⟩,hlt,hh,hE,hn⟩:=h;have hC:∀c∈ℓ::C,c∈D:=by simpa [zlB,hf] using hD
   exact ⟨b,es,cl,hv,key (ℓ::C) hC b hlt (by show γ.col b∈ℓ::C;rw [g1];exact xx),hlt,hh,(hE.mono fun b _ hb=>xy _ hb).mono (key (ℓ::C) hC)⟩
 | any=>trivial
 | lf l=>exact h
 | sl r C xs=>exact zbk.mono h (key C hD)
 | rc r C x=>obtain ⟨cs,hv,hA⟩:=h;exact ⟨cs,hv,hA.mono (key C hD)⟩
 | mp rk rv C m=>
  obtain ⟨b,es,cl,hv,hF,hlt,hh,hE⟩:=h;exact ⟨b,es,cl,hv,key C hD b hlt hF,hlt,hh,hE.mono (key C hD)⟩
 | ep r C x off=>
  obtain ⟨b,o,cs,hv,hF,hlt,hA,hc⟩:=h;exact ⟨b,o,cs,hv,key C hD b hlt hF,hlt,hA.mono (key C hD),hc⟩
 | qp r C o=>
  cases o with
  | none=>exact h
  | some x=>
   obtain ⟨b,cs,hv,hF,hlt,hA,hc⟩:=h;exact ⟨b,cs,hv,key C hD b hlt hF,hlt,hA.mono (key C hD),hc⟩
 | em rk rv C m=>
  obtain ⟨a,b,es,cl,hv,hFa,ha,hc1,hF,hlt,hh,hE⟩:=h;exact ⟨a,b,es,cl,hv,key C hD a ha hFa,ha,hc1,key C hD b hlt hF,hlt,hh,hE.mono (key C hD)⟩
 | mo=>trivial
 | cu=>trivial
 | bs=>trivial
 | tl=>trivial
 | ptr=>trivial
 | tup=>trivial
 | ag=>trivial
 | fv=>trivial
 | bp=>trivial
 | it=>trivial
theorem zuD (hd:zko (p.map (·.1)) D=true) (hb:∀q∈p,zsw p q.2=some q.1) (h2:∀q∈p,2<=q.2):∀{l:List AV} {vs:List Value},AV.relL γ w l vs->(∀a∈l,∀c∈zlB p a,c∈D)->
  (∀q∈l.zip vs,∀ℓ,mlab p q.1=some ℓ->∀b,blk q.2=some b->S b)->AV.relL (ghW γ D p S) w (l.map (inW1 p)) vs
 | [],_,h,_,_=>h
 | a::l,_,h,hD,hS=>by
  obtain ⟨v,vs',rfl,h1,h2'⟩:=h;exact ⟨v,vs',rfl,zBg h1 (hD a xx) hd hb h2 (hS (a,v) xx),zuD hd hb h2 h2' (fun x hx=>hD x (xy _ hx)) (fun q hq=>hS q (xy _ hq))⟩
theorem zEd (hd:zko (p.map (·.1)) D=true) (hb:∀q∈p,zsw p q.2=some q.1) (h2:∀q∈p,2<=q.2):∀{l:List AV} {vs:List Value},AV.relL γ w l vs->(∀a∈znA l,∀c∈zlB p a,c∈D)->
  (∀q∈(znA l).zip (zvk l vs),∀ℓ,mlab p q.1=some ℓ->∀b,blk q.2=some b->S b)->AV.relL (ghW γ D p S) w (l.map (inW p)) vs
 | [],_,h,_,_=>h
 | a::l,_,h,hD,hS=>by
  obtain ⟨v,vs',rfl,h1,h2'⟩:=h;have hf:=zBb h1;have hlen:=(zdc hf).symm;have hz:∀q∈(znA l).zip (zvk l vs'),∀ℓ,mlab p q.1=some ℓ->∀b,blk q.2=some b->S b:=fun q hq=>hS q (by
   rw [znA,zvk,List.zip_append hlen];exact xV _ hq)
  have hz1:=fun q hq=>hS q (by rw [znA,zvk,List.zip_append hlen];exact xU _ hq)
  have hD1:=fun x hx=>hD x (by rw [znA];exact xU _ hx)
  refine ⟨v,vs',rfl,?_,zEd hd hb h2 h2' (fun x hx=>hD x (by rw [znA];exact xV _ hx)) hz⟩;cases a with
  | ag m=>obtain ⟨us,rfl,hL,h1c⟩:=h1;exact ⟨us,rfl,zuD hd hb h2 hL hD1 (fun q hq=>hz1 q (by simpa [zuA,zom,Value.cells] using hq)),h1c⟩
  | fv g m=>obtain ⟨us,rfl,hL⟩:=h1;exact ⟨us,rfl,zuD hd hb h2 hL hD1 (fun q hq=>hz1 q (by simpa [zuA,zom,zDP] using hq))⟩
  | _=>exact zBg h1 (hD1 _ xx) hd hb h2 (hz1 (_,v) xx)
end
theorem zuR {γ:Gh} {w:World} {a:Act}:∀{args:List Operand} {xs:List AV},xs.length=args.length->(∀p∈args.zip xs,p.2.rel γ w (a.eval p.1))->AV.relL γ w xs (args.map a.eval)
 | [],[],_,_=>rfl
 | y::args,x::xs,hl,hi=>⟨_,_,rfl,hi (y,x) (by simp),zuR (by simpa using hl) (fun p hp=>hi p (by simp [hp]))⟩
 | [],_::_,h,_=>by simp at h
 | _::_,[],h,_=>by simp at h
theorem zHK {γ:Gh} {w:World} {α:Type} {r:Rp α} {e ℓ:Nat} {C:List Nat} {xs:List α} {v u:Value} {g:Nat} (h:AV.rel γ w (.own r e ℓ C xs) v) (k:AV.rel γ w (.own r e ℓ C xs) u) (hv:v.ownBlock=some g) (hu:u≠ .slice none 0 0):v=u:=by
 obtain ⟨cs,ho,hg,_⟩:=h;obtain ⟨cs2,ho2,hg2,_⟩:=k;rcases ho.2 with ⟨rfl,_⟩| ⟨g1,cap,cur,rfl,_,hh,hc,_,hs,_⟩
 ·cases hv
 ·rcases ho2.2 with ⟨rfl,_⟩| ⟨g2,cap2,cur2,rfl,_,hh2,hc2,_,hs2,_⟩
  ·exact absurd rfl hu
  ·have e1:=(hg g1 rfl).2;have e2:=(hg2 g2 rfl).2;have:g2=g1:=by rw [<-e1,<-e2]
   subst this;rw [hh] at hh2;simp only [yj,qG] at hh2;obtain ⟨rfl,_⟩:=hh2;have:cap=cap2:=Nat.eq_of_mul_eq_mul_right r.pos (hs.symm.trans hs2);subst this;rfl
theorem zmQ {γ:Gh} {w:World} {α:Type} {r:Rp α} {e ℓ:Nat} {C:List Nat} {xs:List α} {v:Value} (h:AV.rel γ w (.own r e ℓ C xs) v):(v= .slice none 0 0/\xs=[])\/∃g cap,v= .slice (some ⟨g,0,none⟩) xs.length cap/\γ.col g=ℓ/\γ.box ℓ=g/\g<w.heap.size:=by
 obtain ⟨cs,ho,hg,_⟩:=h;rcases ho.2 with ⟨rfl,h0⟩| ⟨g1,cap,cur,rfl,_,hh,hc,_,hs,_⟩
 ·exact .inl ⟨rfl,yw h0⟩
 ·obtain ⟨q1,q2⟩:=hg g1 rfl;exact .inr ⟨g1,cap,rfl,q1,q2,(xY.1 hh).1⟩
theorem zEv {α:Type} (r:Rp α) (e ℓ:Nat) (C:List Nat) (hn:ℓ∉C):AV.rel γ w (.own r e ℓ C ([]:List α)) (.slice none 0 0):=
 ⟨[],⟨by simp,.inl ⟨rfl,rfl⟩⟩,fun g hg=>(by cases hg),zW.nil,hn⟩
theorem zDG {γ γc:Gh} {w w':World} {K D V:List Nat} {s:Nat} {α β:Type} {r:Rp α} {r':Rp β} {e ℓ k':Nat} {C C':List Nat} {xs:List α} {xs':List β} {u:Value}
  (h1:AV.rel γ w (.own r e ℓ C xs) u) (h2:AV.rel γc w' (.own r' e k' C' xs') u) (hsz:r.size=r'.size) (hold:zwi γ γc w.heap.size K D) (hk1:1∈K) (hD:D≠[]) (hdis:zko K C'=true) (hn:ℓ∉outC D s C') (hV:ℓ∉V)
  (hnil:u= .slice none 0 0->∀g,g<w.heap.size->γ.col g=ℓ->w'.heap[g]? =w.heap[g]?):zqA γ w (zgQ γ γc w.heap.size D s V) w' (.own r e ℓ C xs,.own r' e ℓ (outC D s C') xs'):=by
 intro v hv;have hF:∀b,b<w'.heap.size->γc.F C' b->(zgQ γ γc w.heap.size D s V).F (outC D s C') b:=fun b _ hb=>outF hold (zmG hdis) hk1 hb (fun _ e=>absurd e hD)
 have hcol:∀g,g<w.heap.size->γ.col g=ℓ->(zgQ γ γc w.heap.size D s V).col g=ℓ:=fun g hg h=>by unfold zgQ;simp only [xw hg];exact h
 have hbox:(zgQ γ γc w.heap.size D s V).box ℓ=γ.box ℓ:=by unfold zgQ;simp only [xu hV]
 rcases zmQ h1 with ⟨hu,hx⟩| ⟨g,cap,hu,hg1,hg2,hglt⟩
 ·have hx':xs'=[]:=by
   rcases zmQ h2 with ⟨_,h⟩| ⟨g,cap,hu',_⟩
   ·exact h
   ·rw [hu] at hu';cases hu'
  subst hx hx';rcases zmQ hv with ⟨rfl,_⟩| ⟨g',cap',hv',q1,q2,q3⟩
  ·exact zEv r' e ℓ _ hn
  ·obtain ⟨cs,ho,_,_,_⟩:=hv;refine ⟨[],⟨by simp,?_⟩,fun g hg=>?_,zW.nil,hn⟩
   ·rcases ho.2 with ⟨e1,_⟩| ⟨g1,cap1,cur,e1,e2,e3,e4,e5,e6,e7⟩
    ·exact .inl ⟨e1,rfl⟩
    ·have hg1:g1=g':=by rw [hv'] at e1;cases e1;rfl
     subst hg1;exact .inr ⟨g1,cap1,cur,e1,e2,(hnil hu g1 q3 q1).trans e3,xI _,e5,by rw [<-hsz];exact e6,by simp⟩
   ·rw [hv'] at hg;cases hg;exact ⟨hcol _ q3 q1,hbox.trans q2⟩
 ·by_cases hvn:v= .slice none 0 0
  ·subst hvn;have hx:xs=[]:=by
    rcases zmQ hv with ⟨_,h⟩| ⟨g,cap,hu',_⟩
    ·exact h
    ·cases hu'
   have hx':xs'=[]:=by
    rcases zmQ h2 with ⟨_,h⟩| ⟨g,cap,hu',_⟩
    ·exact h
    ·rw [hu,hx] at hu';injection hu' with _ e2 _;exact yw (by rw [<-e2];rfl)
   subst hx';exact zEv r' e ℓ _ hn
  ·have huv:u=v:=zHK h1 hv (by rw [hu];rfl) hvn;subst huv;obtain ⟨cs,ho,hg,hA,_⟩:=h2;refine ⟨cs,ho,fun g' hg'=>?_,hA.mono hF,hn⟩;have:g'=g:=by rw [hu] at hg';cases hg';rfl
   subst this;exact ⟨hcol _ hglt hg1,hbox.trans hg2⟩
theorem zFX {γ γc:Gh} {w w':World} {K D V:List Nat} {s:Nat} {κ ν κ' ν':Type} {rk:Rp κ} {rv:Rp ν} {rk':Rp κ'} {rv':Rp ν'} {ℓ k':Nat} {C C':List Nat} {m:List (κ×ν)} {m':List (κ'×ν')} {u:Value}
  (h1:AV.rel γ w (.om rk rv ℓ C m) u) (h2:AV.rel γc w' (.om rk' rv' k' C' m') u) (hold:zwi γ γc w.heap.size K D) (hk1:1∈K) (hD:D≠[]) (hdis:zko K C'=true) (hn:ℓ∉outC D s C') (hV:ℓ∉V):
  zqA γ w (zgQ γ γc w.heap.size D s V) w' (.om rk rv ℓ C m,.om rk' rv' ℓ (outC D s C') m'):=by
 intro v hv;have hF:∀b,b<w'.heap.size->γc.F C' b->(zgQ γ γc w.heap.size D s V).F (outC D s C') b:=fun b _ hb=>outF hold (zmG hdis) hk1 hb (fun _ e=>absurd e hD)
 have hbox:(zgQ γ γc w.heap.size D s V).box ℓ=γ.box ℓ:=by unfold zgQ;simp only [xu hV]
 obtain ⟨b,es,cl,hu,⟨g1,g2⟩,hb,_⟩:=h1;obtain ⟨b',es',cl',hu',_,hb',hh',hE',_⟩:=h2;obtain ⟨b2,es2,cl2,hv2,⟨q1,q2⟩,_⟩:=hv;have e1:b'=b:=by rw [hu] at hu';cases hu';rfl
 have e2:b2=b:=by rw [<-q2,<-g2]
 subst e1 e2;exact ⟨_,es',cl',hv2,⟨by unfold zgQ;simp only [xw hb];exact g1,hbox.trans g2⟩,hb',hh',hE'.mono hF,hn⟩
theorem zJq {p:List (Nat×Nat)} {D:List Nat} {s:Nat} {K:List Nat} {a t:AV} {ℓ b:Nat} {γ:Gh} {w:World} {v:Value} (h:tOk p D s K (a,t)=true) (hl:mlab p a=some ℓ) (hb:blk v=some b) (hr:t.rel γ w v):∃k,(ℓ,k)∈p/\γ.col b=k:=by
 cases a with
 | own r e ℓ' C xs=>
  simp only [mlab] at hl;cases hf:zie p ℓ' with
  | none=>rw [hf] at hl;cases hl
  | some k=>
   rw [hf] at hl;cases hl;simp only [tOk,hf] at h;cases t with
   | own r' e' k' C' xs'=>
    simp only [xA,beqT] at h;have hk:=xL h.1.1.2;subst hk;refine ⟨k,ziD hf,?_⟩;rcases zmQ hr with ⟨rfl,_⟩| ⟨g,cap,rfl,g1,_⟩
    ·cases hb
    ·cases hb;exact g1
   | _=>cases h
 | om rk rv ℓ' C m=>
  simp only [mlab] at hl;cases hf:zie p ℓ' with
  | none=>rw [hf] at hl;cases hl
  | some k=>
   rw [hf] at hl;cases hl;simp only [tOk,hf] at h;cases t with
   | om rk' rv' k' C' m'=>
    simp only [xA] at h;have hk:=xL h.1.1;subst hk;obtain ⟨b',_,_,rfl,⟨g1,_⟩,_⟩:=hr;cases hb;exact ⟨k,ziD hf,g1⟩
   | _=>cases h
 | _=>cases hl
theorem zJv {P:Program} {o:Oper} {f:FuncId} {args:List Operand} {ts:Array TypeId} {a:Act} {w:World} {next:Act->World->Prop} {Q:Exit->Act->World->Prop} {R:Ending->World->Prop} {vs:List Value}
  (hrun:(execOp a.eval o).run P w= .ok (.enter f vs.toArray) w) (hd:∀c,o.op≠ .defer c) (h:Calls P f vs.toArray w R) (k:∀e w',R e w'->∃v,e= .returned v/\next (a.put o.dst v) w'):opq P o a w next Q:=by
 refine zre hd ?_;unfold Oper.wp;rw [hrun,qw];refine h.mono fun e w' hR=>?_
 obtain ⟨v,rfl,hn⟩:=k e w' hR;exact hn
theorem zId {P:Program} {o:Oper} {f:FuncId} {args:List Operand} {ins outs tns:List AV} (xs:List AV) (p:List (Nat×Nat)) (D:List Nat) (s:Nat) (V:List Nat) (ok:zqw P f ins outs tns)
  (hrun:∀(a:Act) (w:World) (γ:Gh),AV.relL γ w xs (args.map a.eval)->∃vs:List Value,(execOp a.eval o).run P w= .ok (.enter f vs.toArray) w/\∃ys,ys.map (inW p)=ins/\zGn p D s V ys tns=true/\zAt D s ys tns=zAt D s xs tns/\AV.relL γ w ys vs) (hdf:∀c,o.op≠ .defer c)
  (hlen:xs.length=args.length) (hD0:D.isEmpty=false) (hout:(outs.all (zxm (1::p.map (·.2)) D s))=true) (hV:outs.flatMap (zkd s)=V):
  zqz P o (args.zip xs) (p.map (·.1)) V (zzf (outs.map (zvs D s))) (zAt D s xs tns):=by
 intro γ a w hi next Q hk;obtain ⟨vs,hr0,ys,hin,hB,hTP,hvs⟩:=hrun a w γ (zuR hlen hi);simp only [zGn,xA,xJ] at hB;obtain ⟨⟨⟨⟨⟨b1,b2⟩,b3⟩,b4⟩,b5⟩,b6⟩:=hB;have h2:∀q∈p,2<=q.2:=fun q hq=>xW (b2 q hq).1
 have hpb:∀q∈p,zsw p q.2=some q.1:=fun q hq=>by
  have:=(b2 q hq).2;cases hf:zsw p q.2 with
  | none=>rw [hf] at this;cases this
  | some c=>rw [hf] at this;rw [xL this]
 obtain ⟨S,hS⟩:∃S:Fp,∀b,S b↔∃q∈(znA ys).zip (zvk ys vs),(∃ℓ,mlab p q.1=some ℓ)/\blk q.2=some b:=⟨_,fun b=>Iff.rfl⟩;have hin':AV.relL (ghW γ D p S) w ins vs:=by
  rw [<-hin];exact zEd b3 hpb h2 hvs (fun x hx c hc=>zaq (b4 x hx) c hc) (fun q hq ℓ hℓ b hb=>(hS b).2 ⟨q,hq,⟨ℓ,hℓ⟩,hb⟩)
 have hp2:(p.all fun q=>Nat.ble 2 q.2)=true:=xJ.2 fun q hq=>(b2 q hq).1
 refine zJv (args:=args) (ts:=#[]) hr0 hdf (ok w _ _ hin') fun e w' hR=>?_
 obtain ⟨γc,us,rfl,⟨⟨x1,x2,x3,x4⟩,x5,x6,x7⟩,hr,ht⟩:=hR;have hA:=zBc hvs;have hTt:=zyC hvs ht;have hold:zwi γ γc w.heap.size (1::p.map (·.2)) D:=fun b hb=>by
  rcases qd ((ghW γ D p S).col b) 2 with h| h
  ·obtain ⟨e1,_⟩:=x5 b hb h;rcases qd ((ghW γ D p S).col b) 1 with h0| h0
   ·exact .inl ⟨by omega,zGM (p:=p) (S:=S) hp2 (by omega)⟩
   ·have h1:γc.col b=1:=by omega
    exact .inr (by rw [h1];exact xx)
  ·obtain ⟨hs,_⟩:=zEc h;obtain ⟨q,hq,⟨ℓ,hℓ⟩,hbk⟩:=(hS b).1 hs;obtain ⟨t,hqt,_,g2⟩:=zuS hA hTt q hq;obtain ⟨k,hk1,hk2⟩:=zJq (b5 _ hqt) hℓ hbk g2;exact .inr (by rw [hk2];exact xy _ (xP.2 ⟨_,hk1,rfl⟩))
 have hDne:D≠[]:=fun e=>by rw [e] at hD0;cases hD0
 have low:∀b,b<w.heap.size->¬(S b/\∃k,zie p (γ.col b)=some k)->w'.heap[b]? =w.heap[b]? :=fun b hb hn=>by
  rcases qd ((ghW γ D p S).col b) 2 with h| h
  ·exact (x5 b hb h).2
  ·exact absurd (zEc h) hn
 simp only [xJ] at hout;subst hV;refine ⟨_,rfl,hk (zgQ γ γc w.heap.size D s (outs.flatMap (zkd s))) w' _ ⟨x1,x2,x3,x4,fun b hb hn=>low b hb (fun ⟨_,k,hk⟩=>hn (xP.2 ⟨_,ziD hk,rfl⟩)),fun b hb=>?_,fun ℓ hℓ=>?_,fun b h1 h2 h0=>?_⟩ (zuV (ztX hr fun x hx v hv=>?_)) ?_⟩
 ·show (if b<w.heap.size then γ.col b else _)=_;rw [xw hb]
 ·show (if ℓ∈outs.flatMap (zkd s) then _ else γ.box ℓ)=_;rw [xu hℓ]
 ·exfalso;have hne:=x7 b h1 h2;have h0':(if b<w.heap.size then γ.col b else if γc.col b=0 then D.headD 1 else if γc.col b=1 then 1 else γc.col b+s)=0:=h0;rw [xu (qh.2 h1),xu hne] at h0';split at h0'<;>omega
 ·exact zuO hold xx hDne (hout x hx) (fun c hc=>qB.2 ⟨x,hx,hc⟩) hv
 ·intro q hq;rw [<-hTP] at hq;obtain ⟨⟨x,t⟩,hm,hq⟩:=qB.1 hq;obtain ⟨u,hu,g1,g2⟩:=zBT hA hTt (x,t) hm;have htk:=b5 _ hm;simp only at g1 g2 hu;have hdV:∀ℓ k,zie p ℓ=some k->ℓ∉outs.flatMap (zkd s):=fun ℓ k hf=>zmG b6 _ (xP.2 ⟨_,ziD hf,rfl⟩)
  cases x with
  | own r e ℓ C xs=>
   cases t with
   | own r' e' k' C' xs'=>
    simp only [tp1,yf] at hq;subst hq;simp only [tOk] at htk;cases hf:zie p ℓ with
    | none=>rw [hf] at htk;cases htk
    | some k=>
     rw [hf] at htk;simp only [xA,beqT] at htk;obtain ⟨⟨⟨⟨t1,t2⟩,t3⟩,t4⟩,t5⟩:=htk;have e1:=xL t2;subst e1;refine zDG g1 g2 (xL t1) hold xx hDne t4 (zds t5) (hdV ℓ k hf) fun hnil g hg hcol=>low g hg fun ⟨hs,_⟩=>?_
     obtain ⟨q2,hq2,⟨ℓ2,hℓ2⟩,hbk⟩:=(hS g).1 hs;obtain ⟨t',hqt',g3,_⟩:=zuS hA hTt q2 hq2;have hc2:γ.col g=ℓ2:=by
      obtain ⟨a2,v2⟩:=q2;simp only at hℓ2 hbk g3;cases a2 with
      | own r2 e2 l2 C2 y2=>
       simp only [mlab] at hℓ2;rcases zmQ g3 with ⟨rfl,_⟩| ⟨g',cap',rfl,p1,_⟩
       ·cases hbk
       ·cases hbk;split at hℓ2<;>cases hℓ2;exact p1
      | om rk2 rv2 l2 C2 m2=>
       simp only [mlab] at hℓ2;obtain ⟨b2,_,_,rfl,⟨p1,_⟩,_⟩:=g3;cases hbk;split at hℓ2<;>cases hℓ2;exact p1
      | _=>cases hℓ2
     have hl2:ℓ2=ℓ:=by rw [<-hc2,hcol]
     subst hl2;have:=zyV b1 hq2 hu hℓ2 (by simp [mlab,hf]);subst this;simp only at hbk;rw [hnil] at hbk;cases hbk
   | _=>simp [tp1] at hq
  | om rk rv ℓ C m=>
   cases t with
   | om rk' rv' k' C' m'=>
    simp only [tp1,yf] at hq;subst hq;simp only [tOk] at htk;cases hf:zie p ℓ with
    | none=>rw [hf] at htk;cases htk
    | some k=>
     rw [hf] at htk;simp only [xA] at htk;obtain ⟨⟨t3,t4⟩,t5⟩:=htk;exact zFX g1 g2 hold xx hDne t4 (zds t5) (hdV ℓ k hf)
   | _=>simp [tp1] at hq
  | _=>simp [tp1] at hq
theorem zwe {P:Program} {o:Oper} {f:FuncId} {args:List Operand} {ts:Array TypeId} {ins outs tns:List AV} (xs:List AV) (p:List (Nat×Nat)) (D:List Nat) (s:Nat) (V:List Nat) (ho:o.op= .call ⟨.value (.func f),args.toArray,ts⟩)
  (hc:∀as w,(callFunc f as).run P w= .ok (.enter f as) w) (ok:zqw P f ins outs tns) (hin:xs.map (inW p)=ins) (hlen:xs.length=args.length) (hB:zGn p D s V xs tns=true) (hD0:D.isEmpty=false)
  (hout:(outs.all (zxm (1::p.map (·.2)) D s))=true) (hV:outs.flatMap (zkd s)=V):zqz P o (args.zip xs) (p.map (·.1)) V (zzf (outs.map (zvs D s))) (zAt D s xs tns):=
 zId xs p D s V ok (fun a w γ h=>⟨_,by simp [execOp,ho,resolve,Act.eval,Deferred.ofValue,invoke,hc],xs,hin,hB,rfl,h⟩) (fun c=>by rw [ho];exact nofun) hlen hD0 hout hV
def zDX:List Bx->List AV->Prop
 | [],[]=>True
 | b::bs,.ep r C x off::cs=>(off=0/\zjc b.avs=some (r.lv x)/\subN (b.lab::AV.colsL b.avs) C=true)/\zDX bs cs
 | b::bs,.em rk rv C m::cs=>((∃ℓ C0,b.avs=[.om rk rv ℓ C0 m]/\subN (b.lab::ℓ::C0) C=true)\/∃C0,b.avs=[.mp rk rv C0 m]/\subN (b.lab::C0) C=true)/\zDX bs cs
 | _,_=>False
theorem zuy :∀(xs:List Operand) (bs:List Bx) (cs:List AV),zDX bs cs->xs.length=bs.length->(∀p∈xs.zip (bs.map fun b=>AV.ptr b.lab 0),p.2.rel γ w (ev p.1))->Bxs γ w bs->AV.relL γ w cs (xs.map ev)
 | [],[],[],_,_,_,_=>rfl
 | [],[],_::_,h,_,_,_=>h.elim
 | x::xs,b::bs,.ep r C y off::cs,h,hl,hi,hb=>by
  obtain ⟨⟨rfl,h1,h2⟩,h3⟩:=h;refine ⟨ev x,xs.map ev,rfl,?_,zuy xs bs cs h3 (by simpa using hl) (fun p hp=>hi p (xy _ hp)) (fun c hc=>hb c (xy _ hc))⟩;have hv:=hi (x,.ptr b.lab 0) xx;obtain ⟨hc,cells,hh,hL,hone⟩:=hb b xx;have hsub:=zaq h2;refine ⟨γ.box b.lab,0,cells,hv,by rw [hc];exact hsub _ xx,(xY.1 hh).1,zkx h1 hL (fun c hc=>hsub c (xy _ hc)),fun i hi=>?_⟩;rw [yv w _ _ _ _ _ hh];simp
 | x::xs,b::bs,.em rk rv C m::cs,h,hl,hi,hb=>by
  obtain ⟨h1,h3⟩:=h;refine ⟨ev x,xs.map ev,rfl,?_,zuy xs bs cs h3 (by simpa using hl) (fun p hp=>hi p (xy _ hp)) (fun c hc=>hb c (xy _ hc))⟩;have hv:=hi (x,.ptr b.lab 0) xx;obtain ⟨hc,cells,hh,hL,hone⟩:=hb b xx;have hlt:=(xY.1 hh).1;have hcell:∀u,cells=[u]->w.cell? ⟨γ.box b.lab,0,none⟩=some u:=fun u hu=>by rw [yv w _ _ _ _ _ hh];simp [hu]
  rcases h1 with ⟨ℓ,C0,e1,h2⟩| ⟨C0,e1,h2⟩
  ·have hsub:=zaq h2;rw [e1] at hL;obtain ⟨u,r,hu,⟨b',es,cl,hu',⟨g1,_⟩,hlt',hh',hE,_⟩,hr⟩:=hL;cases hr;exact ⟨γ.box b.lab,b',es,cl,hv,by rw [hc];exact hsub _ xx,hlt,by rw [hcell u hu,hu'],by rw [g1];exact hsub _ (xy _ xx),hlt',hh',hE.mono fun c _ hc'=>hsub _ (xy _ (xy _ hc'))⟩
  ·have hsub:=zaq h2;rw [e1] at hL;obtain ⟨u,r,hu,⟨b',es,cl,hu',hF,hlt',hh',hE⟩,hr⟩:=hL;cases hr;exact ⟨γ.box b.lab,b',es,cl,hv,by rw [hc];exact hsub _ xx,hlt,by rw [hcell u hu,hu'],hsub _ (xy _ hF),hlt',hh',hE.mono fun c _ hc'=>hsub _ (xy _ hc')⟩
 | _::_,_::_,[],h,_,_,_=>h.elim
 | _::_,_::_,.any::_,h,_,_,_=>h.elim
 | _::_,_::_,.lf _::_,h,_,_,_=>h.elim
 | _::_,_::_,.sl ..::_,h,_,_,_=>h.elim
 | _::_,_::_,.own ..::_,h,_,_,_=>h.elim
 | _::_,_::_,.rc ..::_,h,_,_,_=>h.elim
 | _::_,_::_,.ptr ..::_,h,_,_,_=>h.elim
 | _::_,_::_,.bs ..::_,h,_,_,_=>h.elim
 | _::_,_::_,.tl ..::_,h,_,_,_=>h.elim
 | _::_,_::_,@AV.mo _ _ _ _ _ _ _ _ _::_,h,_,_,_=>h.elim
 | _::_,_::_,.cu ..::_,h,_,_,_=>h.elim
 | _::_,_::_,.qp ..::_,h,_,_,_=>h.elim
 | _::_,_::_,.mp ..::_,h,_,_,_=>h.elim
 | _::_,_::_,.om ..::_,h,_,_,_=>h.elim
 | _::_,_::_,.tup ..::_,h,_,_,_=>h.elim
 | _::_,_::_,.ag ..::_,h,_,_,_=>h.elim
 | _::_,_::_,.fv ..::_,h,_,_,_=>h.elim
 | _::_,_::_,.bp ..::_,h,_,_,_=>h.elim
 | _::_,_::_,.it ..::_,h,_,_,_=>h.elim
 | [],_::_,_,_,hl,_,_=>by simp at hl
 | _::_,[],_,_,hl,_,_=>by simp at hl
theorem zIU {α:Type} (r:Rp α) (t:TypeId) (ℓ:Nat) (C C':List Nat) (x:α) (h:subN (ℓ::C) C'=true):AV.le (.bp r t ℓ C x) (.ep r C' x 0):=fun γ w v ⟨b,cs,hv,⟨g1,_⟩,hlt,hh,_,hA⟩=>by
 have hsub:=zaq h;refine ⟨b,0,cs.toList,hv,by rw [g1];exact hsub _ xx,hlt,hA.mono fun c _ hc=>hsub _ (xy _ hc),fun i hi=>?_⟩;rw [yv w _ _ _ _ _ hh];simp
theorem zKT {g:Nat} {l m:List AV} (h:leL l m):AV.le (.fv g l) (.fv g m):=fun _ _ _ ⟨vs,hv,hL⟩=>⟨vs,hv,ztH h hL⟩
theorem zEs (xs:List Operand) (bs:List Bx) (cs:List AV) (ho:o.op= .makeFunc (.func g) #[] xs.toArray) (hc:zDX bs cs) (hl:xs.length=bs.length):
  zA P o (xs.zip (bs.map fun b=>AV.ptr b.lab 0)) bs [] [] (.fv g cs) []:=by
 refine zS fun γ ev w hi hb=>?_
 exact ⟨.func (.func g) #[] (xs.map ev).toArray,w,γ,by simp [execOp,ho,Instr.makeFunc],Tr.refl _ _ _ _,⟨xs.map ev,rfl,zuy xs bs cs hc hl hi hb⟩,fun b hb=>by cases hb⟩
def isFv (g:Nat) (l:List AV) (a:AV):Prop:=∀γ w v,a.rel γ w v->∃us:List Value,v= .func (.func g) #[] us.toArray/\AV.relL γ w l us
theorem zEe (g:Nat) (l:List AV):isFv g l (.fv g l):=fun _ _ _ ⟨vs,hv,hL⟩=>⟨vs,hv,hL⟩
theorem zBw {P:Program} {o:Oper} {f:FuncId} {y:Operand} {a:AV} {caps:List AV} {args:List Operand} {ts:Array TypeId} {ins outs:List AV} (xs:List AV) (D:List Nat) (s:Nat)
  (ho:o.op= .call ⟨.value y,args.toArray,ts⟩) (hf:isFv f caps a) (hc:∀as w,(callFunc f as).run P w= .ok (.enter f as) w) (ok:FnOk P f ins outs)
  (hin:(xs++caps).map inAV=ins) (hlen:xs.length=args.length) (hD:((xs++caps).all fun a=>subN (zzM a) D)=true) (hD0:D.isEmpty=false) (hout:(outs.all (zxm [1] D s))=true):
  zA P o ((y,a)::args.zip xs) [] [] (outs.flatMap (zkd s)) (zzf (outs.map (zvs D s))) []:=by
 intro γ av w hi hb next Q hk;obtain ⟨us,hv,hcaps⟩:=hf γ w _ (hi (y,a) xx);have hxs:AV.relL γ w xs (args.map av.eval):=zuR hlen fun p hp=>hi p (xy _ hp)
 have hall:=ztV hxs hcaps;have hvs:AV.relL (gh0 (γ.F D)) w ins (args.map av.eval++us):=by
  subst hin;simp only [xJ] at hD;exact ztX hall fun x hx v hv=>zBf hv (zaq (hD x hx))
 have hcall:=ok w (γ.F D) _ hvs;have hrun:(execOp av.eval o).run P w= .ok (.enter f (args.map av.eval++us).toArray) w:=by
  simp only at hv;simp [execOp,ho,resolve,hv,Deferred.ofValue,invoke,hc]
 unfold Oper.wp;rw [hrun,qw];refine hcall.mono fun e w' ⟨γc,us,he,hB,⟨hold,hfr⟩,hr⟩=>?_
 subst he;have hDne:D≠[]:=fun e=>by rw [e] at hD0;cases hD0
 simp only [xJ] at hout;refine hk (zgQ γ γc w.heap.size D s (outs.flatMap (zkd s))) w' _ ⟨hB.os,hB.tape,hB.output,hB.size,fun b hb _=>hB.block b hb,fun b hb=>?_,fun ℓ hℓ=>?_,fun b h1 h2 h0=>?_⟩ (zuV (ztX hr fun x hx v hv=>?_)) (fun b hb=>by cases hb)
 ·show (if b<w.heap.size then γ.col b else _)=_;rw [xw hb]
 ·show (if ℓ∈outs.flatMap (zkd s) then _ else γ.box ℓ)=_;rw [xu hℓ]
 ·exfalso;have hne:=hfr b h1 h2;have h0':(if b<w.heap.size then γ.col b else if γc.col b=0 then D.headD 1 else if γc.col b=1 then 1 else γc.col b+s)=0:=h0;rw [xu (qh.2 h1),xu hne] at h0';split at h0'<;>omega
 ·exact zuO (K:=[1]) (fun b hb=>(hold b hb).imp id fun h=>by simp [h]) (by simp) hDne (hout x hx) (fun c hc=>qB.2 ⟨x,hx,hc⟩) hv
section
variable {m:Bool} {P:Program} {l:List It} {cx:Cx} {E E1:Env}
theorem zpT (h:zfi E E1):JI m P (.c .ret::l) (Sx cx E) fun e a w=>(e= .ret\/e= .normal)/\Sx cx E1 a w:=zCZ fun _ _ hs=>⟨.inl rfl,h.go hs⟩
theorem zKQ (h:zfi E E1):JI m P [] (Sx cx E) fun e a w=>(e= .ret\/e= .normal)/\Sx cx E1 a w:=zCY fun _ _ hs=>⟨.inr rfl,h.go hs⟩
end
theorem zqz.le (h:zqz P o ins W V av T) (hl:leI ins' ins):zqz P o ins' W V av T:=
 fun γ a w hi=>h γ a w (zzS _ _ hl hi)
theorem zqw.le (h:zqw P f ins outs ts) (hl:leL ins' ins):zqw P f ins' outs ts:=fun w γ vs hr=>h w γ vs (ztH hl hr)
theorem zFI (hu:P.underlying t=some (.slice e)) (A:Option Addr) (n c:Nat) (w:World):(binOp .eql t (.slice A n c) (.slice none 0 0)).run P w= .ok (.bool A.isNone) w:=by
 have hd:∀d:Nat,(Op.equalIn (d+1) t (.slice A n c) (.slice none 0 0)).run P w= .ok A.isNone w:=fun d=>by cases A<;>simp [Op.equalIn,run_underlying hu]
 simp only [binOp];simp [Op.equal,Op.maxDepth,hd 9999]
theorem zBX (hu:P.underlying t=some (.slice e)) (A:Option Addr) (n c:Nat) (w:World):(binOp .neq t (.slice A n c) (.slice none 0 0)).run P w= .ok (.bool (!A.isNone)) w:=by
 have hd:∀d:Nat,(Op.equalIn (d+1) t (.slice A n c) (.slice none 0 0)).run P w= .ok A.isNone w:=fun d=>by cases A<;>simp [Op.equalIn,run_underlying hu]
 simp only [binOp];simp [Op.equal,Op.maxDepth,hd 9999]
theorem zyA (P:Program) (op:BinOp) (t:TypeId) (x y:Operand) (A:Option Addr) (n c:Nat) (b:Value) (w:World):(eqGuard op t x y (.slice A n c) b).run P w= .ok () w:=by
 unfold eqGuard;split<;>rfl
theorem runq (hn:cx.n=N):∀(l rest:List Oper) (E E1:Env) (a:Act) (w:World),zty P N ops l E=some E1->Sx cx E a w->(∀a' w',Sx cx E1 a' w'->zkt P ops Q rest a' w')->zkt P ops Q (l++rest) a w
 | [],rest,E,E1,a,w,h,hs,k=>by cases h;exact k a w hs
 | o::l,rest,E,E1,a,w,h,hs,k=>by
  rw [zty] at h;obtain ⟨γ,hB,hS,hX⟩:=hs;split at h
  ·rename_i hg;split at h
   ·rename_i av hd he;obtain ⟨v,hr,hv⟩:=zpw he (γ:=γ) (w:=w) (ev:=a.eval) (fun x _ av hx=>Env.opd_rel hx hS) hX;rw [yz];refine zhJ (zfG hg hS) (zkv hr ?_);exact runq hn l rest _ _ _ _ h ⟨γ,hB.put _ _ (by rw [hn];exact zeU hd),hS.put (fun k hk=>by rw [hB.size,hn];exact zhu hd k hk) hv,hX⟩ k
   ·cases h
  ·rename_i hg;split at h
   ·rename_i hd;rw [yz];exact zwT (zfG hg hS) (runq hn l rest _ _ _ _ h ⟨γ,hB.put _ _ (by rw [hn];exact zeU hd),hS.put_undef _,hX⟩ k)
   ·cases h
  ·cases h
theorem zqR {m:Bool} {P:Program} {cx:Cx} {E:Env} {id:Nat} {ops:List Oper} {l:List It} {Q:Exit->Act->World->Prop} {o:Oper} {α:Type} {r:Rp α} {D:List Nat} {xs:List α} {a:AV} {x:Operand} {t e yt:TypeId}
  (n d:Nat) (eq:Bool) (E0 ET EF:Env) (h0:zDY P cx.n ops.toArray (ops.take n) E E0.keys E0.labs=some E0) (hd:ops.drop n=[o]) (ho:o.op= .binOp (if eq then .eql else .neq) t x (.const (.slice none 0 0)) yt) (hdst:o.dst=some d)
  (hg:zgN ops.toArray E0 o=some true) (hok:zjS cx.n o.dst=true) (hu:P.underlying t=some (.slice e)) (hx:E0.opd x=some a) (hs:isSl r xs D a)
  (hT:(⟨zif (some d) (.lf (.bool eq)) E0.sl,E0.bx⟩:Env).pick ET.keys ET.labs=some ET) (hF:(⟨zif (some d) (.lf (.bool (!eq))) E0.sl,E0.bx⟩:Env).pick EF.keys EF.labs=some EF)
  (kT:xs=[]->JI m P l (Sx cx ET) Q) (kF:JI m P l (Sx cx EF) Q):JI m P (.c (.region id ops.toArray false)::l) (Sx cx E) Q:=by
 intro ac w hsx;rw [zrG];refine zcA ?_;have hsplit:ops=ops.take n++[o]:=by rw [<-hd,qF]
 unfold zDY at h0;split at h0
 ·rename_i E1 h1;have step:∀a' w',Sx cx E1 a' w'->zkt P ops.toArray (zjC m P Q l) [o] a' w':=by
   intro a' w' hs1;obtain ⟨γ,hB,hS,hX⟩:=hs1.pick h0;have hv:=hs γ w' _ (Env.opd_rel hx hS);obtain ⟨A,c,cs,he,hc,hm,_,_,hA⟩:=zpM hv;have hrun:(execOp a'.eval o).run P w'= .ok (.value (.bool (if A.isNone then eq else !eq))) w':=by
    cases eq
    ·simp only [execOp,ho,xO,he,zyA,xM,xu pF];simp only [Act.eval,zBX hu,xM,yl];cases A<;>rfl
    ·simp only [execOp,ho,xO,he,zyA,xM,yI];simp only [Act.eval,zFI hu,xM,yl];cases A<;>rfl
   refine zhJ (zfG hg hS) (zkv hrun ?_);rw [hdst] at hok|-;intro ro;unfold wpListIn;have hput:∀b,(Sx cx ⟨zif (some d) (.lf (.bool b)) E0.sl,E0.bx⟩ (a'.put (some d) (.bool b)) w'):=fun b=>
    ⟨γ,hB.put _ _ (zeU hok),hS.put (fun k hk=>by rw [hB.size];exact zhu hok k hk) (zvV _ _ _),hX⟩
   cases A with
   | none=>
    have hxs:xs=[]:=by
     rcases pj xs.length with h| h
     ·exact yw h
     ·obtain ⟨b,off,e,_⟩:=hA h;cases e
    exact kT hxs _ _ ((hput eq).pick hT)
   | some A=>exact kF _ _ ((hput (!eq)).pick hF)
  have hall:=runq (P:=P) (ops:=ops.toArray) (Q:=zjC m P Q l) rfl (ops.take n) [o] E E1 ac w h1 hsx step;rw [<-hsplit] at hall;exact hall
 ·cases h0
theorem zFM {γ':Gh} {a:Act} {w':World} {d:Option Nat} {av:AV} {v:Value} (hd:∀k,d=some k->k<a.tmps.size) (hv:av.rel γ' w' v):∀f∈slOf d av,f.rel γ' (a.put d v) w':=by
 intro f hf;cases d with
 | none=>cases hf
 | some k=>
  simp only [slOf,xz,xF,xG] at hf;subst hf;show av.rel γ' w' ((a.put (some k) v).tmps.getD k undef);rw [zfF (hd k rfl)];exact hv
def zzA:Operand×AV->Prop
 | (.tmp _,_)=>True
 | (.const v,a)=>zrJ v=some a
 | _=>False
def zwv:List (Operand×AV)->Prop
 | []=>True
 | p::l=>zzA p/\zwv l
theorem zro :∀{ins:List (Operand×AV)},zwv ins->(∀f∈zlH ins,f.rel γ a w)->∀p∈ins,p.2.rel γ w (a.eval p.1)
 | [],_,_,p,hp=>by cases hp
 | (x,y)::l,hc,h,p,hp=>by
  obtain ⟨h1,h2⟩:=hc;have ht:∀f∈zlH l,f.rel γ a w:=fun f hf=>h f (by cases x<;>simp [zlH,hf])
  cases hp with
  | head=>
   cases x with
   | tmp k=>exact h (.sl k y) (by simp [zlH])
   | const v=>exact znx h1 γ w
   | _=>exact h1.elim
  | tail _ hp=>exact zro h2 ht p hp
theorem zHJ {γ:Gh} {w:World} {α:Type} {r:Rp α} {e ℓ:Nat} {C:List Nat} {xs:List α} {v:Value} (h:AV.rel γ w (.own r e ℓ C xs) v) {i:Int} {x:α} (hx:idx xs i=some x):
  ∃cs:List Value,zW (γ.F C) w (r.lv x) cs/\∀j,j<cs.length->w.cell? ⟨γ.box ℓ,i.toNat*r.size+j,none⟩=cs[j]? :=by
 obtain ⟨i0,i1,i2⟩:=zlA hx;obtain ⟨cs,ho,hg,hA,_⟩:=h;rcases ho.2 with ⟨_,hz⟩| ⟨g,cap,cur,hv,_,hh,hnc,hcm,hcs,htake⟩
 ·omega
 ·have hbox:=(hg g (by rw [hv];rfl)).2;have hA':=(hA.drop (i.toNat*r.size)).take r.size;rw [r.flat_at xs _ x i2] at hA';refine ⟨_,hA',fun j hj=>?_⟩;have hj':j<r.size:=by rw [<-hA'.1,r.len] at hj;exact hj
  have hle:(i.toNat+1)*r.size<=xs.length*r.size:=yg _ (by omega);rw [yy] at hle;rw [hbox,yk,xw hj',yG,<-htake,yk,xw (by omega),yv w g _ cur e _ hh];simp
section
end
theorem zsN {β:Type} (r:Rp β):∀l:List (List β),l.flatMap (Rp.list r).lv=l.map fun x=>LV.sl x.length r.size (x.flatMap r.lv)
 | []=>rfl
 | z::l=>by rw [xN,ye,zsN r l];rfl
set_option linter.unusedSectionVars false
section
variable {κ ν μ α:Type} [DecidableEq κ]
theorem zrc:∀{m:List (κ×ν)} {n:List (κ×μ)},m.map Prod.fst=n.map Prod.fst->∀k,(mget m k).isSome=(mget n k).isSome
 | [],[],_,_=>rfl
 | [],_::_,h,_=>by simp at h
 | _::_,[],h,_=>by simp at h
 | p::m,q::n,h,k=>by
  simp only [ye,yC] at h;rw [mget,mget,h.1];split
  ·rfl
  ·exact zrc h.2 k
theorem zDo (h:m.map Prod.fst=n.map Prod.fst) (k:κ) (x:ν) (y:μ):(mput m k x).map Prod.fst=(mput n k y).map Prod.fst:=by
 have hs:=zrc h k;rw [zmu,zmu];cases h1:mget m k<;>cases h2:mget n k<;>rw [h1,h2] at hs<;>first| (cases hs;done)| exact congrArg (·++[k]) h| exact h
theorem zEM {F:Fp} {w:World} {x v:Value} (h:VRel F w Rp.valR x v):v=x/\x.oneCell'=true:=by
 have h1:zbk F w (.val x) v:=zum rfl rfl h;cases h1 with
 | val _ h'=>exact ⟨rfl,h'⟩
theorem zJr (h:v.oneCell'=true):VRel F w Rp.valR v v:=zvb rfl rfl (.val v h)
theorem znv.own (h:znv γ w r e ℓ C xs v) (hn:ℓ∉C):AV.rel ⟨γ.col,fun _=>v.ownBlock.getD 0⟩ w (.own r e ℓ C xs) v:=by
 obtain ⟨cs,ho,hg,hA⟩:=h;exact ⟨cs,ho,fun g hgb=>⟨hg g hgb,by simp [hgb]⟩,hA,hn⟩
theorem znv.vrel (h:znv γ w r e ℓ C xs v) (hn:ℓ∉C):VRel (γ.F (ℓ::C)) w (Rp.list r) xs v:=
 zvb rfl rfl (zbk.mono (zta (h.own hn)) fun _ _ h=>h)
theorem znv.one (h:znv γ w r e ℓ C xs v):v.oneCell'=true:=by
 obtain ⟨cs,ho,_⟩:=h;rcases ho.2 with ⟨rfl,_⟩| ⟨g,cap,cur,rfl,_⟩<;>rfl
theorem esOf (h:zdY F w rk Rp.valR n es) (hFG:∀b,F b->G b):∀{m:List (κ×ν)},m.map Prod.fst=n.map Prod.fst->(n.map Prod.fst).Nodup->
  (∀k xs u,mget m k=some xs->mget n k=some u->VRel G w rv xs u)->zdY G w rk rv m es:=by
 induction h with
 | nil=>intro m hm _ _;cases m with
  | nil=>exact .nil
  | cons p m=>simp at hm
 | @cons q n e es h1 h2 h3 ih=>
  intro m hm hnd hr;cases m with
  | nil=>simp at hm
  | cons p m=>
   simp only [ye,yC] at hm;rw [ye,ur] at hnd;refine .cons ?_ ?_ (ih hm.2 hnd.2 fun k xs u k1 k2=>?_)
   ·rw [hm.1];exact h1.mono fun b _ hb=>hFG b hb
   ·rw [(zEM h2).1];exact hr q.1 p.2 q.2 (by rw [mget,xw hm.1.symm]) (by rw [mget,xw rfl])
   ·have hk:k∈n.map Prod.fst:=Classical.byContradiction fun hk=>by
     have:mget n k=none:=by
      clear k2 k1 ih h3 hr hnd hm
      induction n with
      | nil=>rfl
      | cons x n ih=>rw [mget,xu (fun e=>hk (by rw [e];exact xx))];exact ih fun h=>hk (xy _ h)
     rw [this] at k2;cases k2
    have hne:k≠q.1:=fun e=>hnd.1 (by rw [<-e];exact hk)
    exact hr k xs u (by rw [mget,xu (by rw [hm.1];exact hne)];exact k1) (by rw [mget,xu hne];exact k2)
theorem zIO (rk:Rp κ) (r:Rp α) (e:TypeId) (ℓ:Nat) (C:List Nat) (m:List (κ×List α)):isMp rk (Rp.list r) m (ℓ::C) (.mo rk r e ℓ C m):=fun γ w v ⟨b,n,hv,es,cl,⟨g1,g2⟩,hb,hh,hO,hE,hR,hn⟩=>
 ⟨b,es,cl,hv,by rw [g1];exact xx,hb,⟨hh,hO.1,hO.2.1,by rw [hR.keys];exact hO.2.2⟩,esOf hE (fun b hb=>xy _ hb) hR.keys hO.2.2 fun k xs u k1 k2=>(hR.row k xs u k1 k2 trivial).vrel hn⟩
theorem zJH (rk:Rp κ) (r:Rp α) (e:TypeId) (ℓ:Nat) (C C':List Nat) (m:List (κ×List α)) (h:subN C C'=true) (hn:memN ℓ C'=false):AV.le (.mo rk r e ℓ C m) (.mo rk r e ℓ C' m):=fun _ _ _ ⟨b,n,hv,hm⟩=>
 ⟨b,n,hv,hm.regh (fun _ _ h=>h) (fun _ _ hb=>zaq h _ hb) rfl fun hc=>by rw [zbt.2 hc] at hn;cases hn⟩
theorem zKg (rk:Rp κ) (r:Rp α) (e:TypeId) (ℓ:Nat) (C C':List Nat) (m:List (κ×List α)) (h:subN (ℓ::C) C'=true):AV.le (.mo rk r e ℓ C m) (.mp rk (Rp.list r) C' m):=fun γ w v hv=>zJI _ _ m h γ w v (zIO rk r e ℓ C m γ w v hv)
theorem zJa {P:Program} {o:Oper} {t:TypeId} {rk:Rp κ} {r:Rp α} {e:TypeId} (ℓ:Nat) (ho:o.op= .makeMap t none):zA P o [] [] [] [ℓ] (.mo rk r e ℓ [] []) []:=by
 refine zS fun γ ev w hi _=>?_
 refine ⟨.map (some w.heap.size),w.alloc (.map #[] 0),_,?_,zpN γ w ℓ _,⟨w.heap.size,[],rfl,#[],0,⟨zkr _ _ _ _,zfy _ _ _ _⟩,by simp,yO w _,zxK,.nil,⟨rfl,fun k xs u h=>(by cases h),fun j k u v _ h=>(by cases h)⟩,by simp⟩,fun b hb=>by cases hb⟩;simp [execOp,ho,Instr.makeMap]
end
section
variable {P:Program} {o:Oper} {κ α:Type} [DecidableEq κ] {rk:Rp κ} {r:Rp α} {e:TypeId} {ℓ:Nat} {C D C1:List Nat} {m:List (κ×List α)} {t kt et:TypeId} {q:κ}
theorem zKH (h:zok (.sl n s ls) z=true):z= .slice none 0 0:=by
 unfold zok at h;split at h<;>first| rfl| contradiction
theorem MapT.val (hT:MapT P t kt et rk (Rp.list r) ([]:List α)):MapT P t kt et rk Rp.valR (.slice none 0 0):=by
 refine ⟨hT.u,hT.key,?_⟩;obtain ⟨i,z,hi,hz,hzo,hza,hzb⟩:=hT.zero;have hz0:z= .slice none 0 0:=by
  have hc:=hzb rfl;rw [hc] at hzo;have h1:zokL [LV.sl 0 r.size []] [z]=true:=hzo;simp only [zokL,xA] at h1;exact zKH h1.1
 subst hz0;exact ⟨i,_,hi,hz,by simp [Rp.valR,Value.cells,zokL,zok],⟨fun h=>(by cases h),fun _=>rfl⟩⟩
theorem zHQ (k d ℓ:Nat) (ho:o.op= .move (.tmp k)\/o.op= .assign (.tmp k)) (hd:o.dst=some d):ztq P o [.ms k ℓ] [] [] [.ms d ℓ]:=by
 intro γ a w hs hr next Q hk;have h:a.tmps.getD k undef=_:=hr (.ms k ℓ) (by simp);have hrun:(execOp a.eval o).run P w= .ok (.value (a.tmps.getD k undef)) w:=by rcases ho with ho| ho<;>simp [execOp,ho,Act.eval]
 refine zkv hrun (hk γ w _ (Tr.refl _ _ _ _) fun f hf=>?_);simp only [xz,xF,xG] at hf;subst hf;show _=_;rw [hd,zfF (hs d hd)];exact h
theorem zKu (k0 k1 d:Nat) (ho:o.op= .lookup t (.tmp k1) z false) (hd:o.dst=some d) (hT:MapT P t kt et rk (Rp.list r) ([]:List α)) (hk:asV rk q C1 ak) (hc:zzA (z,ak)):
  ztq P o (.ms k1 ℓ:: .sl k0 (.mo rk r e ℓ C m)::zlH [(z,ak)]) [] [] [.lk d rk r e ℓ C m q]:=by
 intro γ a w hs hr next Q hnx;have h1:a.tmps.getD k1 undef=_:=hr (.ms k1 ℓ) (by simp);obtain ⟨b,n,hv,hm⟩:=hr (.sl k0 (.mo rk r e ℓ C m)) (by simp);have h2:=hk γ w _ (zro (ins:=[(z,ak)]) ⟨hc,trivial⟩ (fun f hf=>hr f (xy _ (xy _ hf))) (z,ak) (by simp));have hm0:=hm;obtain ⟨es,cl,⟨g1,g2⟩,hb,hh,hO,hE,hR,hn⟩:=hm;rw [g2] at h1;obtain ⟨u,hrun,hu⟩:=zmV hT.val hh hE h2 false;have hrun':(execOp a.eval o).run P w= .ok (.value u) w:=by
  have e1:a.eval (.tmp k1)= .map (some b):=h1;simp [execOp,ho,e1,hrun]
 refine zkv hrun' (hnx γ w _ (Tr.refl _ _ _ _) fun f hf=>?_);simp only [xz,xF,xG] at hf;subst hf;exact ⟨b,n,hm0,by rw [hd,zfF (hs d hd)];exact (zEM hu).1⟩
theorem zKt {ys zs:List α} {y:Operand} {b:AV} {bytes:Nat} (C2:List Nat) (j d:Nat) (ho:o.op= .call ⟨.builtin .append,#[.tmp j,y],#[t,t]⟩) (hd:o.dst=some d) (hT:ElT P t e r.size bytes) (hb:Nat.blt 0 bytes=true)
  (hy:isSl r ys D b) (hc:zzA (y,b)) (hz:app bytes ((mget m q).getD []) ys=some zs) (hC:r.Plain\/subN D C2=true) (hC2:(subN C C2&& !memN ℓ C2)=true):
  ztq P o (.lk j rk r e ℓ C m q::zlH [(y,b)]) [ℓ] [] [.ap d rk r e ℓ C2 m q zs]:=by
 intro γ a w hs hr next Q hnx;simp only [xA,ym] at hC2;obtain ⟨bm,n,hm,hv⟩:=hr (.lk j rk r e ℓ C m q) (by simp);have h2:=hy γ w _ (zro (ins:=[(y,b)]) ⟨hc,trivial⟩ (fun f hf=>hr f (xy _ hf)) (y,b) (by simp));simp only at h2;obtain ⟨es,cl,⟨g1,g2⟩,hbm,hh,hO,hE,hR,hn⟩:=hm;have hsome:=zrc hR.keys;have hnC2:ℓ∉C2:=fun h=>by rw [zbt.2 h] at hC2;cases hC2.2
 have hn2:∀c∈C2,c∉[ℓ]:=fun c hc h=>by
  simp only [xz,xF,xG] at h;subst h;exact hnC2 hc
 have hCC:∀c∈C,c∈C2:=zaq hC2.1;obtain ⟨v,hve⟩:∃v,v=a.tmps.getD j undef:=⟨_,rfl⟩;rw [<-hve] at hv;obtain ⟨xs,hxs⟩:∃xs,xs=(mget m q).getD []:=⟨_,rfl⟩;rw [<-hxs] at hz
 -- the row at hand, and what lies apart from it
 have hrow:znv γ w r e ℓ C xs v/\∀k u,k≠q->mget n k=some u->zCA u v:=by
  have hq:=hsome q;cases h1:mget n q with
  | none=>
   rw [h1] at hv hq;cases h3:mget m q with
   | some x=>rw [h3] at hq;cases hq
   | none=>
    rw [h3] at hxs;rw [hv,hxs];exact ⟨⟨[],pA w 0 e r.size,fun g hg=>(by cases hg),zW.nil⟩,fun k u _ _ g _ h=>by cases h⟩
  | some v1=>
   rw [h1] at hv hq;cases h3:mget m q with
   | none=>rw [h3] at hq;cases hq
   | some x=>
    rw [h3] at hxs;rw [hv,hxs];exact ⟨hR.row q x v1 h3 h1 trivial,fun k u hk hu=>hR.apart k q u v1 hk hu h1 trivial trivial⟩
 obtain ⟨⟨cs,hown,hg,hA⟩,hap⟩:=hrow;obtain ⟨A,c,cs',hvy,hcc,hmm,hA',hcs',hcell⟩:=zpM h2;obtain ⟨hlim,rfl⟩:=zAI hz
 obtain ⟨v',w',hrn,ho',hgr,hbk⟩:=zEH hT r.pos (qa (xW hb)) o.type w _ _ _ hown A ys.length c cs' hcs'
  (fun hm=>by obtain ⟨b,off,e,_,_,hc⟩:=hcell hm;exact ⟨b,off,e,hc⟩) hA'.one hlim
 let γ':Gh:=⟨fun b=>if b<w.heap.size then γ.col b else ℓ,γ.box⟩
 have hcol:∀b,b<w.heap.size->γ'.col b=γ.col b:=fun b hb=>by show (if b<w.heap.size then γ.col b else ℓ)=_;rw [xw hb]
 have hcolN:∀b,¬b<w.heap.size->γ'.col b=ℓ:=fun b hb=>by show (if b<w.heap.size then γ.col b else ℓ)=_;rw [xu hb]
 have ht:Tr [ℓ] [] γ w γ' w':=⟨hgr.os,hgr.tape,hgr.output,hgr.size,fun b hb hnb=>hgr.block b hb fun e=>hnb (by rw [hg b e.symm];exact xx),hcol,fun _ _=>rfl,fun b hb _ h0=> .inl (by rw [hcolN b (qh.2 hb)] at h0;rw [h0];exact xx)⟩;have hrun:(execOp a.eval o).run P w= .ok (.value v') w':=by
  refine zdA (args:=[.tmp j,y]) (ts:=[t,t]) ho rfl rfl rfl fun consts=>?_
  have e1:a.eval (.tmp j)=v:=hve.symm;simp [builtin,e1,hvy,hrn]
 refine zkv hrun (hnx γ' w' _ ht fun f hf=>?_);simp only [xz,xF,xG] at hf;subst hf;have hslot:(a.put o.dst v').tmps.getD d undef=v':=by rw [hd,zfF (hs d hd)]
 refine ⟨bm,n,⟨es,cl,⟨by rw [hcol bm hbm];exact g1,g2⟩,xT hbm hgr.size,?_,hO,ht.es hn2 (hE.mono fun b _ hb=>hCC _ hb),⟨hR.keys,fun k x u k1 k2 k3=>?_,fun j k u v h k1 k2 _ _=>hR.apart j k u v h k1 k2 trivial trivial⟩,hnC2⟩,?_,?_⟩
 ·rw [hgr.block bm hbm fun e=>?_];exact hh;rcases hown.2 with ⟨h1,_⟩| ⟨g,cap,cur,h1,_,h3,_⟩
  ·rw [h1] at e;cases e
  ·rw [h1] at e;have:bm=g:=by simpa [Value.ownBlock] using e
   subst this;rw [hh] at h3;cases h3
 ·obtain ⟨ds,do',dg,dA⟩:=hR.row k x u k1 k2 trivial;exact ⟨ds,zjl do' fun g hgb=>hgr.block g (do'.lt g hgb).2 fun e=>hap k u k3 k2 g hgb e.symm,fun g hgb=>by rw [hcol g (do'.lt g hgb).2];exact dg g hgb,ht.all hn2 (dA.mono fun b _ hb=>hCC _ hb)⟩
 ·rw [hslot];refine ⟨cs++cs',by rw [yh];exact ho',fun g hgb=>?_,?_⟩
  ·rcases hbk with h| h
   ·rw [h] at hgb;rw [hcol g (hown.lt g hgb).2];exact hg g hgb
   ·rw [h] at hgb;cases hgb;exact hcolN _ (pz _)
  ·rw [pk];have k1:=ht.all (C:=C2) hn2 (hA.mono fun b _ hb=>hCC _ hb);rcases hC with hp| hC
   ·exact k1.append (hA'.plain (hp.flat ys))
   ·exact k1.append (ht.all (C:=C2) hn2 (hA'.mono fun b _ hb=>zaq hC _ hb))
 ·rw [hslot];intro j u hj hu g hgb hg';rcases hbk with h| h
  ·rw [h] at hg';exact hap j u hj hu g hgb hg'
  ·rw [h] at hg';have hs:=hsome j;rw [hu] at hs;cases h3:mget m j with
   | none=>rw [h3] at hs;cases hs
   | some x=>
    obtain ⟨ds,do',_,_⟩:=hR.row j x u h3 hu trivial;have:=(do'.lt g hgb).2;simp only [yj] at hg';omega
theorem zJi (j k1:Nat) (ks:List Nat) (ho:o.op= .mapUpdate t (.tmp k1) z (.tmp j)) (hd:o.dst=none) (hT:MapT P t kt et rk (Rp.list r) ([]:List α)) (hk:asV rk q C1 ak) (hc:zzA (z,ak)) (hC:subN C1 C=true):
  ztq P o (.ap j rk r e ℓ C m q ys:: .ms k1 ℓ::(zlH [(z,ak)]++ks.map fun k=> .ms k ℓ)) [ℓ] [] (ks.map fun k=> .sl k (.mo rk r e ℓ C (mput m q ys))):=by
 intro γ a w hs hr next Q hnx;obtain ⟨b,n,hm,hrow,hap⟩:=hr (.ap j rk r e ℓ C m q ys) (by simp);have h1:a.tmps.getD k1 undef=_:=hr (.ms k1 ℓ) (by simp);have h2:=hk γ w _ (zro (ins:=[(z,ak)]) ⟨hc,trivial⟩ (fun f hf=>hr f (xy _ (xy _ (xU _ hf)))) (z,ak) (by simp));simp only at h2;obtain ⟨es,cl,⟨g1,g2⟩,hb,hh,hO,hE,hR,hn⟩:=hm;rw [g2] at h1;obtain ⟨v,hve⟩:∃v,v=a.tmps.getD j undef:=⟨_,rfl⟩;rw [<-hve] at hrow hap;obtain ⟨es',cl',hrun,hE',hO'⟩:=zxD hO hT.val hh hE h2 (fun b h=>zaq hC _ h) (zJr (F:=γ.F C) (w:=w) hrow.one) (fun _ h=>h);have hrun':(execOp a.eval o).run P w= .ok .skip {w with heap:=w.heap.setIfInBounds b (.map es' cl')}:=by
  have e1:a.eval (.tmp k1)= .map (some b):=h1;have e2:a.eval (.tmp j)=v:=hve.symm;simp [execOp,ho,e1,e2,hrun]
 have ht:=zDD (w:=w) g1 (.map es' cl');have hnot:∀c∈C,c∉[ℓ]:=fun c hc h=>by
  simp only [xz,xF,xG] at h;subst h;exact hn hc
 have keepR:∀{x:List α} {u:Value},znv γ w r e ℓ C x u->znv γ {w with heap:=w.heap.setIfInBounds b (.map es' cl')} r e ℓ C x u:=fun {x u} ⟨ds,do',dg,dA⟩=>by
  refine ⟨ds,zjl do' fun g hgb=>?_,dg,ht.all hnot dA⟩;have hne:b≠g:=fun e=>by
   rcases do'.2 with ⟨h1,_⟩| ⟨g',cap,cur,h1,_,h3,_⟩
   ·rw [h1] at hgb;cases hgb
   ·rw [h1] at hgb;have:g'=g:=by simpa [Value.ownBlock] using hgb
    rw [this,<-e,hh] at h3;cases h3
  show (w.heap.setIfInBounds b _)[g]? =_;rw [pE hne]
 refine zmP hrun' (hnx γ _ undef ht fun f hf=>?_);obtain ⟨k,hk',rfl⟩:=xP.1 hf;have h0:a.tmps.getD k undef=_:=hr (.ms k ℓ) (xy _ (xy _ (xV _ (xP.2 ⟨k,hk',rfl⟩))));have hslot:(a.put o.dst undef).tmps.getD k undef= .map (some b):=by rw [hd,<-g2];exact h0
 refine ⟨b,mput n q v,by rw [hslot],es',cl',⟨g1,g2⟩,by simpa using hb,by simp [hb],hO',ht.es hnot hE',⟨zDo hR.keys _ _ _,fun k x u k1 k2 _=>?_,fun i k u u' hik k1 k2 _ _=>?_⟩,hn⟩
 ·rw [zfe] at k1 k2;by_cases e1:k=q
  ·rw [xw e1] at k1 k2;cases k1;cases k2;exact keepR hrow
  ·rw [xu e1] at k1 k2;exact keepR (hR.row k x u k1 k2 e1)
 ·rw [zfe] at k1 k2;by_cases e1:i=q
  ·rw [xw e1] at k1;cases k1;have e2:k≠q:=fun e=>hik (by rw [e1,e])
   rw [xu e2] at k2;exact fun g h3 h4=>hap k u' e2 k2 g h4 h3
  ·rw [xu e1] at k1;by_cases e2:k=q
   ·rw [xw e2] at k2;cases k2;exact hap i u e1 k1
   ·rw [xu e2] at k2;exact hR.apart i k u u' hik k1 k2 e1 e2
end
theorem zEp {P:Program} {o:Oper} {α:Type} {r:Rp α} {e ℓ:Nat} {C:List Nat} {xs:List α} {t:TypeId} {y:Operand} {i:Int} (y0:Operand) (x:α)
  (ho:o.op= .load t y) (hT:AggT P t r.size) (hx:idx xs i=some x):zA P o [(y0,.own r e ℓ C xs),(y,.ptr ℓ (i.toNat*r.size))] [] [] [] (.rc r C x) []:=by
 refine zS fun γ ev w hin _=>?_
 obtain ⟨cs,hA,hc⟩:=zHJ (hin (y0,.own r e ℓ C xs) (by simp)) hx;have hp:ev y= .pointer (some ⟨γ.box ℓ,i.toNat*r.size,none⟩):=hin (y,.ptr ℓ (i.toNat*r.size)) (by simp);have hl:=zfl hT (w:=w) (b:=γ.box ℓ) (o:=i.toNat*r.size) (cs:=cs) (by rw [<-hA.1];exact r.len x) hc;exact ⟨.agg cs.toArray,w,γ,by simp [execOp,ho,hp,Instr.loadAt,Instr.sureAddr,hl],Tr.refl _ _ _ _,⟨cs,rfl,hA⟩,fun b hb=>by cases hb⟩
def BxsT (W V:List Nat) (T:List (AV×AV)):List (Bx×Bx)->Prop
 | []=>True
 | (b,c)::l=>(b.lab=c.lab/\b.typ=c.typ/\(!memN b.lab W&& !memN b.lab V)=true/\zsB W V T b.avs c.avs)/\BxsT W V T l
theorem BxsT.rel (t:Tr W V γ w γ' w') (hT:∀p∈T,zqA γ w γ' w' p):∀{l:List (Bx×Bx)},BxsT W V T l->(∀p∈l,p.1.rel γ w)->∀p∈l,p.2.rel γ' w'
 | [],_,_,p,hp=>by cases hp
 | (b,c)::l,h,hs,p,hp=>by
  obtain ⟨⟨hlab,hty,hWV,ht⟩,h2⟩:=h;cases hp with
  | head=>
   obtain ⟨g1,cs,hh,hL,h1⟩:=hs (b,c) xx;simp only [xA] at hWV;simp only at g1 hh hL;have hlt:=(xY.1 hh).1;refine ⟨?_,cs,?_,ht.rel t hT hL,h1⟩
   ·simp only;rw [<-hlab,t.box _ (zds hWV.2),t.col _ hlt];exact g1
   ·simp only;rw [<-hlab,t.box _ (zds hWV.2),<-hty,t.block _ hlt (by rw [g1];exact zds hWV.1)];exact hh
  | tail _ hp=>exact BxsT.rel t hT h2 (fun p hp=>hs p (xy _ hp)) p hp
theorem zsa (ks:List Nat) (bs:List (Bx×Bx)) (h:zqz P o ins W V av [(a,a')]) (hc:zwv ins) (hd:∀k∈ks,o.dst≠some k) (hb:BxsT W V [(a,a')] bs):
  ztq P o (zlH ins++(ks.map (fun k=> .sl k a)++bs.map fun p=> .bx p.1)) W V (slOf o.dst av++(ks.map (fun k=> .sl k a')++bs.map fun p=> .bx p.2)):=by
 intro γ ac w hsz hr next Q hk;refine h γ ac w (zro hc fun f hf=>hr f (xU _ hf)) next Q fun γ' w' v ht hv hT=>hk γ' w' v ht fun f hf=>?_
 rcases xD.1 hf with hf| hf
 ·exact zFM hsz hv f hf
 ·rcases xD.1 hf with hf| hf
  ·obtain ⟨k,hk',rfl⟩:=xP.1 hf;have h0:=hr (.sl k a) (xV _ (xU _ (xP.2 ⟨k,hk',rfl⟩)));have h1:=hT (a,a') (by simp) _ h0;show a'.rel γ' w' ((ac.put o.dst v).tmps.getD k undef);cases hdd:o.dst with
   | none=>exact h1
   | some d=>rw [zly (fun e=>hd k hk' (by rw [hdd,e]))];exact h1
  ·obtain ⟨p,hp,rfl⟩:=xP.1 hf;exact hb.rel ht hT (fun p hp=>hr (.bx p.1) (xV _ (xV _ (xP.2 ⟨p,hp,rfl⟩)))) p hp
section
variable {κ ν:Type} [DecidableEq κ]
variable {rk:Rp κ} {rv:Rp ν}
theorem zCB {α:Type} {r:Rp α} {x:α} {D:List Nat} {a b:AV} (hl:AV.le a b) (h:asV r x D b):asV r x D a:=fun γ w v hv=>h γ w v (hl γ w v hv)
theorem zqX {P:Program} {o:Oper} {m:List (κ×ν)} {t kt et:TypeId} {x0:ν} {ℓ:Nat} {C C1:List Nat} {x z:Operand} {b:AV} {k:κ} (ea:AV) (ho:o.op= .lookup t x z false) (hT:MapT P t kt et rk rv x0) (hk:asV rk k C1 b) (he:elAV rv C ((mget m k).getD x0) ea):
  zA P o [(x,.om rk rv ℓ C m),(z,b)] [] [] [] ea []:=by
 refine zS fun γ ev w hi _=>?_
 obtain ⟨b',es,cl,hv,hF,hb,hh,hE,hn⟩:=hi (x,.om rk rv ℓ C m) (by simp);have h2:=hk γ w _ (hi (z,b) (by simp));simp only at hv h2;obtain ⟨v,hr,hV⟩:=zmV hT hh.1 hE h2 false;exact ⟨v,w,γ,by simp [execOp,ho,hv,hr],Tr.refl _ _ _ _,he γ w v hV,fun b hb=>by cases hb⟩
theorem zuH {P:Program} {o:Oper} {m:List (κ×ν)} {t kt et:TypeId} {x0:ν} {ℓ:Nat} {C C1:List Nat} {x z:Operand} {b:AV} {k:κ} (ea:AV) (ho:o.op= .lookup t x z true) (hT:MapT P t kt et rk rv x0) (hk:asV rk k C1 b) (he:elAV rv C ((mget m k).getD x0) ea):
  zA P o [(x,.om rk rv ℓ C m),(z,b)] [] [] [] (.tup [ea,.lf (.bool (mget m k).isSome)]) []:=by
 refine zS fun γ ev w hi _=>?_
 obtain ⟨b',es,cl,hv,hF,hb,hh,hE,hn⟩:=hi (x,.om rk rv ℓ C m) (by simp);have h2:=hk γ w _ (hi (z,b) (by simp));simp only at hv h2;obtain ⟨v,hr,hV⟩:=zmV hT hh.1 hE h2 true;exact ⟨_,w,γ,by simp [execOp,ho,hv,hr],Tr.refl _ _ _ _,⟨[v,.bool (mget m k).isSome],rfl,v,_,rfl,he γ w v hV,_,_,rfl,zvV _ _ _,rfl⟩,fun b hb=>by cases hb⟩
end
theorem zwg (x:Int):IntKind.u8.wrap x=x%256:=by simp [IntKind.wrap,IntKind.bits,IntKind.signed]
theorem zCt (x:Int):IntKind.u32.wrap x=x%4294967296:=by simp [IntKind.wrap,IntKind.bits,IntKind.signed]
theorem zjX (x:Int):IntKind.u64.wrap x=x%18446744073709551616:=by simp [IntKind.wrap,IntKind.bits,IntKind.signed]
theorem zx (h: -9223372036854775808<=x/\x<=9223372036854775807):IntKind.i64.wrap x=x:=by
 simp [IntKind.wrap,IntKind.bits,IntKind.signed];split<;>omega
theorem uV {x:Int} (h: -9223372036854775808<=x/\x<=9223372036854775807:=by omega):IntKind.i64.wrap x=x:=zx h
theorem zGc (x:Int):IntKind.i32.wrap x=if x%4294967296<2147483648 then x%4294967296 else x%4294967296 - 4294967296:=by
 simp [IntKind.wrap,IntKind.bits,IntKind.signed];split<;>split<;>omega
theorem zup {k:IntKind} (hk:k.signed=false) {n:Nat} (h:n<2^k.bits):k.wrap (n:Int)=n:=by
 have h2:(n:Int)%(2^k.bits:Int)=n:=pq (by omega) (by exact_mod_cast h);simp only [IntKind.wrap,hk,yQ,h2];simp
theorem zrZ {b n:Nat} (h:n<2^b):(BitVec.ofInt b (n:Int)).toNat=n:=by
 rw [BitVec.toNat_ofInt];have h2:(n:Int)%((2^b:Nat):Int)=n:=pq (by omega) (by exact_mod_cast h);rw [h2];rfl
theorem zAH {k:IntKind} (hk:k.signed=false) {a b:Nat} (ha:a<2^k.bits) (hb:b<2^k.bits):andI k a b=((a&&&b:Nat):Int):=by
 unfold andI;rw [BitVec.toNat_and,zrZ ha,zrZ hb];exact zup hk (Nat.lt_of_le_of_lt Nat.and_le_left ha)
theorem zEB {k:IntKind} (hk:k.signed=false) {a b:Nat} (ha:a<2^k.bits) (hb:b<2^k.bits):orI k a b=((a||| b:Nat):Int):=by
 unfold orI;rw [BitVec.toNat_or,zrZ ha,zrZ hb];exact zup hk (Nat.or_lt_two_pow ha hb)
theorem zBY {k:IntKind} {a b:Nat} (hb:b<=k.bits):shrI k a b=((a/2^b:Nat):Int):=by
 unfold shrI;have h2:(2:Int)^b=((2^b:Nat):Int):=by simp
 rw [yp,yN hb,h2,Int.fdiv_eq_ediv_of_nonneg _ (uc (2^b)),Int.natCast_ediv]
theorem zBF (a c k:Nat) (h:a<2^k):a||| (c*2^k)=a+c*2^k:=by
 rw [Nat.or_comm,pM,<-Nat.two_pow_add_eq_or_of_lt h,Nat.add_comm]
theorem zvK (n m:Nat):((n:Int)==(m:Int))=decide (n=m):=by
 by_cases h:n=m
 ·simp [h]
 ·have:¬((n:Int)=m):=by omega
  simp [h,this]
theorem zP {α:Type} {xs:List α} {i:Int} {n:Nat} (h:i=n) (hn:n<xs.length):idx xs i=some xs[n]:=by
 unfold idx;subst h;rw [xw (by omega),yp,xH hn]
theorem zqE {α:Type} {xs:List α} {i j:Int} {a b:Nat} (hi:i=a) (hj:j=b) (h:a<=b) (hb:b<=xs.length):cut xs i j=some ((xs.drop a).take (b - a)):=by
 unfold cut;subst hi hj;rw [xw (by omega),yp,yp]
theorem zwy {α:Type} {xs:List α} {i j:Int} {a:Nat} (hi:i=a) (hj:j=(xs.length:Int)) (h:a<=xs.length):cut xs i j=some (xs.drop a):=by
 rw [zqE hi hj h (xB _),yP (by simp)]
theorem zqF {α:Type} {xs:List α} {j:Int} {b:Nat} (hj:j=b) (hb:b<=xs.length):cut xs 0 j=some (xs.take b):=by
 have:=zqE (xs:=xs) (i:=0) (a:=0) rfl hj (xI _) hb;simpa using this
theorem zdI {α:Type} {bytes:Nat} {xs ys:List α} (h:(xs.length+ys.length)*bytes<=140737488355328):app bytes xs ys=some (xs++ys):=by
 unfold app LIM;rw [xw h]
theorem zxe {α:Type} {bytes:Nat} {x0:α} {n m:Int} {a:Nat} (hn:n=a) (h:n<=m) (hm:m*bytes<=140737488355328):mkO bytes x0 n m=some (List.replicate a x0):=by
 unfold mkO LIM;subst hn;rw [xw ⟨by omega,h,hm⟩,yp]
theorem zJc {α:Type} {bytes:Nat} {x0:α} {m:Int} (h:0<=m) (hm:m*bytes<=140737488355328):mkO bytes x0 0 m=some []:=by
 have:=zxe (x0:=x0) (n:=0) (a:=0) rfl h hm;simpa using this
theorem zGm (h:x=(c.toNat:Int)):zma x=some c:=by
 unfold zma;subst h;have:=c.toNat_lt;rw [xw (by omega),yp,UInt8.ofNat_toNat]
theorem ziB {x:Int} {n:Nat} (h:x=n) (hn:n<256):zma x=some (UInt8.ofNat n):=by
 refine zGm ?_;rw [h,UInt8.toNat_ofNat'];congr 1;omega
theorem zHZ {k:IntKind} {x:Int} {n:Nat}:shlO k x n=some (shlI k x n):=by unfold shlO;rw [xu (by omega)]
theorem sb {α β:Type} {a:α} {f:α->Option β}:((some a:Option α)>>=f)=f a:=rfl
theorem itT {α:Type} {c:Bool} {x y:α} (h:c=true):(if c then x else y)=x:=by rw [h];rfl
theorem uT {α:Type} {c:Bool} {x y:α} (h:c=true:=by simp;omega):(if c then x else y)=x:=itT h
theorem itF {α:Type} {c:Bool} {x y:α} (h:c=false):(if c then x else y)=y:=by rw [h];rfl
theorem uU {α:Type} {c:Bool} {x y:α} (h:c=false:=by simp;omega):(if c then x else y)=y:=itF h
structure Dp (α:Type) where
 r:Rp α
 D:Fp->World->α->List Value->Prop
 lv:∀{F:Fp} {w:World} {x:α} {cs:List Value},D F w x cs->zW F w (r.lv x) cs
 move:∀{F F':Fp} {w w':World} {x:α} {cs:List Value},w.heap.size<=w'.heap.size->(∀b,b<w.heap.size->F b->w'.heap[b]? =w.heap[b]? /\F' b)->D F w x cs->D F' w' x cs
def elAt (s:Nat) (cs:List Value) (i:Nat):List Value:=(cs.drop (i*s)).take s
def mixR {α:Type} (d:Dp α) (e:TypeId) (n k:Nat) (xs:List α) (C1 C2:List Nat) (ℓ:Nat) (γ:Gh) (w:World) (v:Value):Prop:=
 ∃cs,w.ownsRow 0 e d.r.size v xs.length cs/\(∀g,v.ownBlock=some g->γ.col g=ℓ/\γ.box ℓ=g)/\xs.length=n/\∀i x,xs[i]? =some x->(i<k->d.D (γ.F C1) w x (elAt d.r.size cs i))/\(k<=i->zW (γ.F C2) w (d.r.lv x) (elAt d.r.size cs i))
def mix {α:Type} (d:Dp α) (e:TypeId) (n k:Nat) (xs:List α):Cu where
 R:=mixR d e n k xs
 one:=fun ⟨cs,ho,_⟩=>by rcases ho.2 with ⟨rfl,_⟩| ⟨g,cap,cur,rfl,_⟩<;>rfl
 move:=fun {C1 C2 C1' C2' ℓ ℓ' γ γ' w w' v} hs hb hℓ h1 h2 hx ⟨cs,ho,hg,hn,hD⟩=>by
  have hlt:=ho.lt;refine ⟨cs,zjl ho fun g hgb=>hb g (hlt g hgb).2 (by rw [(hg g hgb).1];exact xx),fun g hgb=>⟨hℓ g (hlt g hgb).2 (hg g hgb).1,hx.trans (hg g hgb).2⟩,hn,fun i x hi=>⟨fun hk=>?_,fun hk=>?_⟩⟩
  ·exact d.move hs (fun b hl hF=>⟨hb b hl (xy _ (xU _ hF)),h1 b hl hF⟩) ((hD i x hi).1 hk)
  ·have h:=(hD i x hi).2 hk;have h3:zW (fun b=>γ.F C2 b/\b<w.heap.size) w (d.r.lv x) (elAt d.r.size cs i):=h.mono fun b hl hF=>⟨hF,hl⟩
   exact (h3.keep (w':=w') ⟨hs,fun b hl hF=>hb b hl (xy _ (xV _ hF.1))⟩).mono fun b _ hF=>h2 b hF.2 hF.1
section
variable {α:Type} {d:Dp α} {e ℓ n k:Nat} {C1 C2 C:List Nat} {xs:List α}
theorem zJb {γ:Gh} {w:World} {cs:List Value} (hD:∀i x,xs[i]? =some x->(i<k->d.D (γ.F C1) w x (elAt d.r.size cs i))/\(k<=i->zW (γ.F C2) w (d.r.lv x) (elAt d.r.size cs i))) {i:Nat} {x:α} (hi:xs[i]? =some x):
  zW (γ.F (C1++C2)) w (d.r.lv x) (elAt d.r.size cs i):=by
 by_cases hk:i<k
 ·exact (d.lv ((hD i x hi).1 hk)).mono fun b _ hb=>xU _ hb
 ·exact ((hD i x hi).2 (by omega)).mono fun b _ hb=>xV _ hb
theorem zzT (d:Dp α) (e ℓ:Nat) (C:List Nat) (xs:List α) (n:Nat) (hn:xs.length=n):AV.le (.own d.r e ℓ C xs) (.cu (mix d e n 0 xs) ℓ [] C):=fun γ w v ⟨cs,ho,hg,hA,_⟩=>
 ⟨cs,ho,hg,hn,fun i x hi=>⟨fun h=>absurd h (Nat.not_lt_zero _),fun _=>by
  have h:=(hA.drop (i*d.r.size)).take d.r.size;rw [d.r.flat_at xs i x hi] at h;exact h⟩⟩
theorem zvQ {i:Int} {ys:List α} {y:α} (hi:idx ys i=some y) (hl:xs.length=ys.length):AV.le (.cu (mix d e n (i.toNat+1) xs) ℓ C1 C2) (.cu (mix d e n (Int.toNat (IntKind.i64.wrap (i+1))) xs) ℓ C1 C2):=fun γ w v h=>by
 obtain ⟨cs,ho,hg,hn,hD⟩:=h;obtain ⟨i0,i1,_⟩:=zlA hi;have hb:xs.length<=maxLen:=by
  rcases ho.2 with ⟨_,h0⟩| ⟨g,cap,cur,_,_,_,h1,h2,_⟩
  ·rw [h0];exact xI _
  ·exact yi h1 h2
 have hm:maxLen=9223372036854775807:=by unfold maxLen;rfl
 have e1:IntKind.i64.wrap (i+1)=i+1:=uV;have e2:Int.toNat (IntKind.i64.wrap (i+1))=i.toNat+1:=by rw [e1];omega
 rw [e2];exact ⟨cs,ho,hg,hn,hD⟩
theorem zEl (hk:n<=k):AV.le (.cu (mix d e n k xs) ℓ C1 C2) (.cu (mix d e xs.length xs.length xs) ℓ C1 []):=fun γ w v ⟨cs,ho,hg,hn,hD⟩=>
 ⟨cs,ho,hg,rfl,fun i x hi=>⟨fun h=>(hD i x hi).1 (by omega),fun h=>absurd (xZ.1 hi).1 (by omega)⟩⟩
theorem znD (C' D':List Nat) (h:(subN C1 C'&&subN C2 D')=true):AV.le (.cu (mix d e n k xs) ℓ C1 C2) (.cu (mix d e n k xs) ℓ C' D'):=fun γ w v ⟨cs,ho,hg,hn,hD⟩=>by
 rw [xA] at h;exact ⟨cs,ho,hg,hn,fun i x hi=>⟨fun hk=>d.move (xB _) (fun b _ hF=>⟨rfl,zaq h.1 _ hF⟩) ((hD i x hi).1 hk),fun hk=>((hD i x hi).2 hk).mono fun b _ hF=>zaq h.2 _ hF⟩⟩
theorem zDi {α:Type} (d:Dp α) (e ℓ:Nat) (C1 C2:List Nat):AV.le (.lf (.val (.slice none 0 0))) (.cu (mix d e 0 0 []) ℓ C1 C2):=fun γ w v h=>by
 obtain ⟨cs,ho,hg,hA,_⟩:=zaT d.r e ℓ [] rfl γ w v h;exact ⟨cs,ho,hg,rfl,fun i x hi=>by simp at hi⟩
theorem zAG {r:Rp α} {F:Fp} {w:World} {cs:List Value} (hlen:cs.length=xs.length*r.size) (hD:∀i x,xs[i]? =some x->zW F w (r.lv x) (elAt r.size cs i)):zW F w (xs.flatMap r.lv) cs:=by
 have key:∀(ys:List α) (i:Nat),xs.drop i=ys->zW F w (ys.flatMap r.lv) (cs.drop (i*r.size)):=by
  intro ys
  induction ys with
  | nil=>
   intro i hi;have h1:xs.length<=i:=by have:=congrArg List.length hi;simp at this;omega
   rw [yb (by rw [hlen];exact yg _ h1)];exact .nil
  | cons y ys ih=>
   intro i hi;have hlt:i<xs.length:=by have:=congrArg List.length hi;simp at this;omega
   have hy:xs[i]? =some y:=by
    have:=congrArg (fun l=>l[0]?) hi;simpa using this
   have h2:=ih (i+1) (by rw [<-qo,hi];rfl);have h3:=hD i y hy;have e:cs.drop (i*r.size)=elAt r.size cs i++cs.drop ((i+1)*r.size):=by
    unfold elAt;rw [yy,<-qo,qF]
   rw [xN,e];exact h3.append h2
 have hall:=key xs 0 rfl;rw [Nat.zero_mul,xX] at hall;exact hall
theorem zDw {r:Rp α} {F:Fp} {w:World} {v:Value} {cs:List Value} (ho:w.ownsRow 0 e r.size v xs.length cs) (hF:∀g,v.ownBlock=some g->F g) (hD:∀i x,xs[i]? =some x->zW F w (r.lv x) (elAt r.size cs i)):zbk F w (.sl xs.length r.size (xs.flatMap r.lv)) v:=by
 have hlen:=ho.1;have hall:=zAG hlen hD;rcases ho.2 with ⟨rfl,h0⟩| ⟨g,cap,cur,rfl,_,hh,hnc,hcm,hcs,htake⟩
 ·have:xs=[]:=yw h0;subst this;exact .sl 0 _ [] none 0 [] (by simp) (by simp) (xB _) (xI _) (fun h=>absurd h (pz _)) (fun i l u h=>by simp at h)
 ·refine .sl _ _ _ _ cap cs (r.flat xs) hlen hnc hcm (fun _=>⟨g,0,rfl,hF g rfl,(xY.1 hh).1,fun i hi=>?_⟩) fun i l u h1 h2=>hall.2 i l u h1 h2
  rw [yv w g _ cur e _ hh,<-htake,yk,xw hi];simp
section
variable {P:Program} {o:Oper} {i:Int} {x:α} {t:TypeId} {y z:Operand} {bytes e':Nat} {kk:IntKind}
theorem zzY (ho:o.op= .indexAddr t y z) (hT:ElT P t e' d.r.size bytes) (hx:idx xs i=some x):zA P o [(y,.cu (mix d e n k xs) ℓ C1 C2),(z,.lf (.int kk i))] [] [] [] (.ptr ℓ (i.toNat*d.r.size)) []:=by
 refine zS fun γ ev w hi _=>?_
 obtain ⟨cs,hown,hg,_⟩:=hi (y,.cu (mix d e n k xs) ℓ C1 C2) (by simp);have h2:=zfA (hi (z,.lf (.int kk i)) (by simp));simp only at hown hg h2;obtain ⟨i0,i1,_⟩:=zlA hx;rcases hown.2 with ⟨_,hz⟩| ⟨g,cap,cur,hv,_,hh,hnc,hcm,hcs,htake⟩
 ·omega
 ·have hbox:=(hg g (by rw [hv];rfl)).2;refine ⟨.pointer (some ⟨g,0+i.toNat*d.r.size,none⟩),w,γ,by simp [execOp,ho,hv,h2,znL hT w g 0 _ cap kk i i0 i1],Tr.refl _ _ _ _,?_,fun b hb=>by cases hb⟩;show _=_;rw [hbox,xE]
theorem zHw (y0:Operand) (x:α) (ho:o.op= .load t y) (hT:AggT P t d.r.size) (hx:idx xs i=some x):zA P o [(y0,.cu (mix d e n k xs) ℓ C1 C2),(y,.ptr ℓ (i.toNat*d.r.size))] [] [] [] (.rc d.r (C1++C2) x) []:=by
 refine zS fun γ ev w hin _=>?_
 obtain ⟨cs,ho',hg,_,hD⟩:=hin (y0,.cu (mix d e n k xs) ℓ C1 C2) (by simp);have hp:ev y= .pointer (some ⟨γ.box ℓ,i.toNat*d.r.size,none⟩):=hin (y,.ptr ℓ (i.toNat*d.r.size)) (by simp);obtain ⟨i0,i1,i2⟩:=zlA hx;have hA:=zJb hD i2;rcases ho'.2 with ⟨_,hz⟩| ⟨g,cap,cur,hv,_,hh,hnc,hcm,hcs,htake⟩
 ·omega
 ·have hbox:=(hg g (by simp only at hv;rw [hv];rfl)).2;have hl:=zfl hT (w:=w) (b:=γ.box ℓ) (o:=i.toNat*d.r.size) (cs:=elAt d.r.size cs i.toNat) (by rw [<-hA.1];exact d.r.len x) fun j hj=>by
   have hj':j<d.r.size:=by rw [<-hA.1,d.r.len] at hj;exact hj
   have hle:(i.toNat+1)*d.r.size<=xs.length*d.r.size:=yg _ (by omega);rw [yy] at hle;unfold elAt;rw [hbox,yk,xw hj',yG,<-htake,yk,xw (by omega),yv w g _ cur e _ hh];simp
  exact ⟨.agg (elAt d.r.size cs i.toNat).toArray,w,γ,by simp [execOp,ho,hp,Instr.loadAt,Instr.sureAddr,hl],Tr.refl _ _ _ _,⟨_,rfl,hA⟩,fun b hb=>by cases hb⟩
theorem zIe {a:AV} (y0:Operand) (i:Nat) (x x':α) (C1' Ca:List Nat) (ho:o.op= .store t y z) (hsz:∀w,(sizeOf t).run P w= .ok d.r.size w) (hx:xs[i]? =some x)
  (hd:∀γ w v,a.rel γ w v->d.D (γ.F Ca) w x' v.cells.toList) (hC:(subN C1 C1'&&subN Ca C1'&& !memN ℓ C1'&& !memN ℓ C2)=true):
  zqz P o [(y0,.cu (mix d e n i xs) ℓ C1 C2),(y,.ptr ℓ (i*d.r.size)),(z,a)] [ℓ] [] .any [(.cu (mix d e n i xs) ℓ C1 C2,.cu (mix d e n (i+1) (xs.set i x')) ℓ C1' C2)]:=by
 intro γ a' w hin next Q hk;simp only [xA] at hC;obtain ⟨⟨⟨hC1,hC2⟩,hC3⟩,hC4⟩:=hC;obtain ⟨cs,hown,hgb,hn,hD⟩:=hin (y0,.cu (mix d e n i xs) ℓ C1 C2) (by simp);have hi:=(xZ.1 hx).1;rcases hown.2 with ⟨_,hz0⟩| ⟨g,cap,cur,hv,_,hh,hnc,hcm,hcs,htake⟩
 ·omega
 ·obtain ⟨hcol,hbox⟩:=hgb g (by simp only at hv;rw [hv];rfl);have h1:a'.eval y= .pointer (some ⟨g,i*d.r.size,none⟩):=by
   have:=hin (y,.ptr ℓ (i*d.r.size)) (by simp);rw [show a'.eval y=_ from this,hbox]
  have hz:=hd γ w _ (hin (z,a) (by simp));simp only at hz;have hzl:=d.lv hz;have hVl:(a'.eval z).cells.toList.length=d.r.size:=by rw [<-hzl.1];exact d.r.len x'
  have hcl:cs.length=xs.length*d.r.size:=hown.1;have hin':i*d.r.size+d.r.size<=xs.length*d.r.size:=by
   have:(i+1)*d.r.size<=xs.length*d.r.size:=yg _ hi;rw [yy] at this;omega
  have hcap:xs.length*d.r.size<=cap*d.r.size:=yg _ hnc;have hst:=qC P g (i*d.r.size) e (a'.eval z).cells.toList 0 cur w hh (by rw [hVl,hcs];omega) hzl.one;simp only [yL,hVl] at hst;have hrun:(execOp a'.eval o).run P w= .ok .skip (w.setRow g (cur.toList.take (i*d.r.size)++(a'.eval z).cells.toList++cur.toList.drop (i*d.r.size+d.r.size)).toArray):=by
   have hsz':(a'.eval z).cells.size=d.r.size:=by simpa using hVl
   simp [execOp,ho,h1,Instr.storeAt,Instr.sureAddr,storeVar,hsz,hsz',hst]
  have hcol':γ.col (γ.box ℓ)=ℓ:=by rw [hbox];exact hcol
  have ht:=zuY (w:=w) hcol' (cur.toList.take (i*d.r.size)++(a'.eval z).cells.toList++cur.toList.drop (i*d.r.size+d.r.size)).toArray;rw [hbox] at ht;refine zmP hrun (hk γ _ undef ht trivial fun p hp v hpv=>?_);simp only [xz,xF,xG] at hp;subst hp;obtain ⟨cs1,hown1,hgb1,hn1,hD1⟩:=hpv;rcases hown1.2 with ⟨_,hz0⟩| ⟨g1,cap1,cur1,hv1,_,hh1,hnc1,hcm1,hcs1,htake1⟩
  ·omega
  ·have hg1:g1=g:=by rw [<-(hgb1 g1 (by rw [hv1];rfl)).2,hbox]
   subst hg1;rw [hh] at hh1;simp only [yj,qG] at hh1;obtain ⟨rfl,_⟩:=hh1;have ecs:cs1=cs:=by rw [<-htake1,<-htake]
   subst ecs;have hcurl:cur.toList.length=cap*d.r.size:=by rw [yF,hcs]
   have hcap1:xs.length*d.r.size<=cap1*d.r.size:=yg _ hnc1;have hside:∀(C:List Nat),memN ℓ C=false->∀b,b<w.heap.size->γ.F C b->(w.setRow g1 (cur.toList.take (i*d.r.size)++(a'.eval z).cells.toList++cur.toList.drop (i*d.r.size+d.r.size)).toArray).heap[b]? =w.heap[b]? :=fun C hm b _ hF=>
    pH w _ b _ fun e=>by
     have:γ.col b∈C:=hF;rw [e,hcol] at this;rw [zbt.2 this] at hm;cases hm
   have hm1:memN ℓ C1'=false:=by simpa using hC3
   have hm2:memN ℓ C2=false:=by simpa using hC4
   refine ⟨cs1.take (i*d.r.size)++(a'.eval z).cells.toList++cs1.drop (i*d.r.size+d.r.size),⟨?_,.inr ⟨g1,cap1,_,hv1.trans ?_,xI _,qf w _ _ _ _ _ hh,?_,hcm1,?_,?_⟩⟩,?_,?_,fun j y hj=>?_⟩
   ·simp only [yh,xK,yq,hVl,qn,hcl];omega
   ·simp
   ·simpa using hnc1
   ·simp only [qD,yh,xK,yq,hVl,hcurl,<-hcs1,hcs];omega
   ·have e1:cur.toList.take (i*d.r.size)=cs1.take (i*d.r.size):=by rw [<-htake,qZ,yN (by omega)]
    have e2:(cur.toList.drop (i*d.r.size+d.r.size)).take (xs.length*d.r.size - (i*d.r.size+d.r.size))=cs1.drop (i*d.r.size+d.r.size):=by
     rw [<-htake,ut]
    rw [qn,<-e2,e1];simp only [qQ,xK,yh,hVl,hcl];rw [yP (l:=cs1.take (i*d.r.size)) (by rw [xK];omega),yP (l:=(a'.eval z).cells.toList) (by rw [hVl,yN (by omega)];omega)];congr 2;rw [yN (by omega)]
   ·exact hgb1
   ·rw [qn];exact hn1
   ·have hjl:=(xZ.1 hj).1;rw [qn] at hjl;by_cases hij:i=j
    ·subst hij;rw [List.getElem?_set_self hi] at hj;cases hj;refine ⟨fun _=>?_,fun h=>by omega⟩;have e3:elAt d.r.size (cs1.take (i*d.r.size)++(a'.eval z).cells.toList++cs1.drop (i*d.r.size+d.r.size)) i=(a'.eval z).cells.toList:=by
      unfold elAt;rw [yS,uJ (by rw [xK];omega),yb (by rw [xK];omega),yc,uI (by rw [hVl];exact xB _),yP (by rw [hVl];exact xB _)]
     rw [e3];exact d.move (by simp) (fun b hb hF=>⟨hside C1' hm1 b hb (zaq hC2 _ hF),zaq hC2 _ hF⟩) hz
    ·rw [List.getElem?_set_ne hij] at hj;have e3:elAt d.r.size (cs1.take (i*d.r.size)++(a'.eval z).cells.toList++cs1.drop (i*d.r.size+d.r.size)) j=elAt d.r.size cs1 j:=by
      unfold elAt;apply pL;intro q;rw [yk,yk];by_cases hq:q<d.r.size
      ·rw [xw hq,xw hq,yG,yG,yS];rcases Nat.lt_or_gt_of_ne hij with hlt| hlt
       ·have hle:(i+1)*d.r.size<=j*d.r.size:=yg _ hlt;rw [yy] at hle;rw [pr (by rw [xK];omega),pr (by rw [hVl,xK];omega),yG];congr 1;rw [hVl,xK];omega
       ·have hle:(j+1)*d.r.size<=i*d.r.size:=yg _ hlt;rw [yy] at hle;rw [uL (by rw [xK];omega),yk,xw (by omega)]
      ·rw [xu hq,xu hq]
     rw [e3];obtain ⟨q1,q2⟩:=hD1 j y hj;refine ⟨fun h=>?_,fun h=>?_⟩
     ·exact d.move (by simp) (fun b hb hF=>⟨hside C1' hm1 b hb (zaq hC1 _ hF),zaq hC1 _ hF⟩) (q1 (by omega))
     ·have h3:zW (fun b=>γ.F C2 b/\b<w.heap.size) w (d.r.lv y) (elAt d.r.size cs1 j):=(q2 (by omega)).mono fun b hl hF=>⟨hF,hl⟩
      exact (h3.keep ⟨by simp,fun b hl hF=>hside C2 hm2 b hl hF.1⟩).mono fun b _ hF=>hF.1
end
end
structure Ev (a:Act) (n:Nat) (l:List (Nat×Value)):Prop where
 defers:a.defers=[]
 size:a.tmps.size=n
 val:∀p∈l,a.tmps.getD p.1 undef=p.2
def zwC:List (Nat×Value)->Nat->Option Value
 | [],_=>none
 | p::l,k=>match Nat.beq p.1 k with
  | true=>some p.2
  | false=>zwC l k
theorem zsJ:∀{l:List (Nat×Value)} {k:Nat} {v:Value},zwC l k=some v->(k,v)∈l
 | [],_,_,h=>by cases h
 | p::l,k,v,h=>by
  rw [zwC] at h;split at h
  ·rename_i hb;cases h;rw [<-xL hb];exact xx
  ·exact xy _ (zsJ h)
def zwB:List (Nat×Value)->Nat->List (Nat×Value)
 | [],_=>[]
 | p::l,k=>match Nat.beq p.1 k with
  | true=>zwB l k
  | false=>p::zwB l k
theorem zoL:∀{l:List (Nat×Value)} {k:Nat} {p:Nat×Value},p∈zwB l k->p∈l/\p.1≠k
 | [],_,_,h=>by cases h
 | q::l,k,p,h=>by
  rw [zwB] at h;split at h
  ·exact ⟨xy _ (zoL h).1,(zoL h).2⟩
  ·rename_i hb;cases h with
   | head=>exact ⟨xx,fun e=>by rw [e,Nat.beq_refl] at hb;cases hb⟩
   | tail _ h=>exact ⟨xy _ (zoL h).1,(zoL h).2⟩
section
variable {P:Program} {ops:Array Oper} {Q:Exit->Act->World->Prop} {l:List Oper} {o:Oper} {a:Act} {w w':World} {n d:Nat} {es:List (Nat×Value)} {v:Value}
theorem Ev.at (h:Ev a n es) {k:Nat} (hk:zwC es k=some v):a.eval (.tmp k)=v:=h.val _ (zsJ hk)
theorem Ev.sub (h:Ev a n es) {es':List (Nat×Value)} (hs:∀p∈es',p∈es):Ev a n es':=⟨h.defers,h.size,fun p hp=>h.val p (hs p hp)⟩
theorem Ev.put (h:Ev a n es) (hd:Nat.blt d n=true):Ev (a.put (some d) v) n ((d,v)::zwB es d):=by
 have hd':d<a.tmps.size:=by rw [h.size];exact xW hd
 refine ⟨by rw [zke];exact h.defers,by rw [zrl];exact h.size,fun p hp=>?_⟩;cases hp with
 | head=>exact zfF hd'
 | tail _ hp=>
  obtain ⟨h1,h2⟩:=zoL hp;rw [zly h2];exact h.val p h1
theorem Ev.one (v:Value) (k:Nat):Ev ⟨#[v]++Array.replicate k undef,[]⟩ (1+k) [(0,v)]:=⟨rfl,by simp,fun p hp=>by
 simp only [xz,xF,xG] at hp;subst hp;rw [yD,uK (by simp)];rfl⟩
def EvIn (es:List (Nat×Value)):List (Nat×Value)->Prop
 | []=>True
 | p::l=>zwC es p.1=some p.2/\EvIn es l
theorem EvIn.mem {es:List (Nat×Value)}:∀{l:List (Nat×Value)},EvIn es l->∀p∈l,p∈es
 | q::l,h,p,hp=>by
  cases hp with
  | head=>exact zsJ h.1
  | tail _ hp=>exact h.2.mem p hp
theorem Ev.pick (h:Ev a n es) (es':List (Nat×Value)) (hs:EvIn es es'):Ev a n es':=h.sub hs.mem
theorem wk (h:Ev a n es) (hg:o.guard=none) (hd:o.dst=some d) (hn:Nat.blt d n=true) (hr:(execOp a.eval o).run P w= .ok (.value v) w')
  (k:∀a',Ev a' n ((d,v)::zwB es d)->zkt P ops Q l a' w'):zkt P ops Q (o::l) a w:=
 zhJ (by simp [Region.wanted,hg]) (zkv hr (k _ (by rw [hd];exact h.put hn)))
theorem zEN (h:Ev a n es) (hg:o.guard=none) (hd:o.dst=none) (hr:(execOp a.eval o).run P w= .ok .skip w')
  (k:∀a',Ev a' n es->zkt P ops Q l a' w'):zkt P ops Q (o::l) a w:=
 zhJ (by simp [Region.wanted,hg]) (zmP hr (k _ (by rw [hd];exact h)))
theorem zJu {f:FuncId} {x:Operand} {ts:Array TypeId} {R:World->Prop} (h:Ev a n es) (hg:o.guard=none) (hd:o.dst=some d) (hn:Nat.blt d n=true) (ho:o.op= .call ⟨.value (.func f),#[x],ts⟩)
  (hc:∀as w,(callFunc f as).run P w= .ok (.enter f as) w) (hx:a.eval x=v) {r:Value} (hcall:Calls P f #[v] w fun ex w'=>ex= .returned r/\R w') (k:∀a' w',Ev a' n ((d,r)::zwB es d)->R w'->zkt P ops Q l a' w'):zkt P ops Q (o::l) a w:=by
 refine zhJ (by simp [Region.wanted,hg]) (zre (fun c e=>by rw [ho] at e;cases e) ?_);have hrun:(execOp a.eval o).run P w= .ok (.enter f #[v]) w:=by
  have hf:a.eval (.func f)= .func (.func f) #[] #[]:=rfl;simp [execOp,ho,resolve,hf,hx,Deferred.ofValue,invoke,hc]
 unfold Oper.wp;rw [hrun,qw];refine hcall.mono fun ex w' ⟨e1,e2⟩=>?_
 subst e1;exact k _ _ (by rw [hd];exact h.put hn) e2
theorem zlZ (h:Q .normal a w):zkt P ops Q [] a w:=fun _=>h
variable {ev:Operand->Value} {x y:Operand}
theorem zny (ho:o.op= .move x) (hx:ev x=v):(execOp ev o).run P w= .ok (.value v) w:=by simp [execOp,ho,hx]
theorem zFb (ho:o.op= .assign x) (hx:ev x=v):(execOp ev o).run P w= .ok (.value v) w:=by simp [execOp,ho,hx]
theorem zGD {p:Addr} (ho:o.op= .nilCheck x) (hx:ev x= .pointer (some p)):(execOp ev o).run P w= .ok (.value (.pointer (some p))) w:=by simp [execOp,ho,hx]
theorem zzF {s f k b off:Nat} (ho:o.op= .fieldAddr s x f) (hx:ev x= .pointer (some ⟨b,off,none⟩)) (hf:zqN P s f=some k):(execOp ev o).run P w= .ok (.value (.pointer (some ⟨b,off+k,none⟩))) w:=by
 simp [execOp,ho,hx,zrt hf]
theorem zCS {t b off:Nat} (ho:o.op= .load t x) (hx:ev x= .pointer (some ⟨b,off,none⟩)) (ht:zfk P t=true) (hc:w.cell? ⟨b,off,none⟩=some v):(execOp ev o).run P w= .ok (.value v) w:=by
 simp [execOp,ho,hx,ziY ht hc]
theorem zJV {t b off s:Nat} {cs:List Value} (ho:o.op= .load t x) (hx:ev x= .pointer (some ⟨b,off,none⟩)) (ht:AggT P t s) (hn:cs.length=s) (hc:∀i,i<cs.length->w.cell? ⟨b,off+i,none⟩=cs[i]?):(execOp ev o).run P w= .ok (.value (.agg cs.toArray)) w:=by
 simp [execOp,ho,hx,Instr.loadAt,Instr.sureAddr,zfl ht hn hc]
theorem zGC {t e:TypeId} {A:Option Addr} {m c:Nat} (ho:o.op= .call ⟨.builtin .len,#[x],#[t]⟩) (hx:ev x= .slice A m c) (hu:P.underlying t=some (.slice e)):(execOp ev o).run P w= .ok (.value (.int .i64 (m:Int))) w:=by
 simp [execOp,ho,resolve,invoke,hx,builtin,Builtin.len_,run_underlying hu,goInt]
theorem zzG {t s:TypeId} {i j:Int} (ho:o.op= .binOp .lss t x y s) (hx:ev x= .int .i64 i) (hy:ev y= .int .i64 j):(execOp ev o).run P w= .ok (.value (.bool (decide (i<j)))) w:=by
 simp [execOp,ho,hx,hy,zrK,binOp,Op.intCmp]
theorem zGA {t s:TypeId} {i j:Int} (ho:o.op= .binOp .add t x y s) (hx:ev x= .int .i64 i) (hy:ev y= .int .i64 j):(execOp ev o).run P w= .ok (.value (.int .i64 (IntKind.i64.wrap (i+j)))) w:=by
 simp [execOp,ho,hx,hy,zrK,binOp];rfl
theorem zJD {t e size bytes b m c:Nat} {i:Int} (ho:o.op= .indexAddr t x y) (hT:ElT P t e size bytes) (hx:ev x= .slice (some ⟨b,0,none⟩) m c) (hy:ev y= .int .i64 i) (h0:0<=i) (h1:i<m):(execOp ev o).run P w= .ok (.value (.pointer (some ⟨b,i.toNat*size,none⟩))) w:=by
 simp [execOp,ho,hx,hy,znL hT w b 0 m c .i64 i h0 h1]
theorem zGB {t:TypeId} {z:Value} (ho:o.op= .alloc t) (hz:∀w,(zeroValue t).run P w= .ok z w):(execOp ev o).run P w= .ok (.value (.pointer (some ⟨w.heap.size,0,none⟩))) (w.alloc (.cells z.cells t)):=by
 simp [execOp,ho,Instr.alloc,Sem.run_bind,hz,newVar,newRow]
theorem zJE {t e b off s:Nat} {cur:Array Value} {u:Value} (vs:List Value) (ho:o.op= .store t x y) (hx:ev x= .pointer (some ⟨b,off,none⟩)) (hh:w.heap[b]? =some (.cells cur e (0,0))) (hsz:∀w,(sizeOf t).run P w= .ok s w)
  (hy:ev y=u) (hu:u.cells=vs.toArray) (hs:vs.length=s) (hl:off+s<=cur.size) (h1:∀v∈vs,v.oneCell'=true):
  (execOp ev o).run P w= .ok .skip (w.setRow b (cur.toList.take off++vs++cur.toList.drop (off+s)).toArray):=by
 have hst:=qC P b off e vs 0 cur w hh (by rw [hs];omega) h1;simp only [yL,hs] at hst;simp [execOp,ho,hx,hy,Instr.storeAt,Instr.sureAddr,storeVar,hsz,hu,hs,hst]
theorem zCs {m:Bool} {P:Program} {c:Code} {Q:Exit->Act->World->Prop} {a:Act} {w:World} (id:Nat) (Inv:Nat->Act->World->Prop) (n:Nat) (hr:∀i a w,i<n->Inv i a w->wq m P c (fun e a w=>e= .normal/\Inv (i+1) a w) a w)
  (he:∀a w,Inv n a w->wq m P c (fun e a w=>e= .exit id/\Inv n a w) a w) (h0:Inv 0 a w) (hq:∀a w,Inv n a w->Q .normal a w):wq m P (.block id (.loop c)) Q a w:=by
 have key:∀k i a w,i+k=n->Inv i a w->zsd m P c (Exit.inBlock id Q) (k+1) a w:=by
  intro k
  induction k with
  | zero=>
   intro i a w hi h;have hi':i=n:=by omega
   subst hi';refine zln (he a w h) fun e a w ⟨h1,h2⟩=>?_
   subst h1;simp only [Exit.then,Exit.inBlock,xw];exact hq a w h2
  | succ k ih=>
   intro i a w hi h;refine zln (hr i a w (by omega) h) fun e a w ⟨h1,h2⟩=>?_
   subst h1;exact ih (i+1) a w (by omega) h2
 exact zuo (zrH (n+1) (key n 0 a w (by omega) h0))
end
set_option linter.unusedSectionVars false
def KpOk (ins:List AV) (E:Env) (keep:List Nat):List (Nat×Nat)->Prop
 | []=>True
 | q::l=>(memN q.1 keep=true/\ins[q.1]? =some (.ptr q.2 0)/\lookup E.sl q.1=some (.ptr q.2 0))/\KpOk ins E keep l
theorem KpOk.at :∀{l:List (Nat×Nat)},KpOk ins E keep l->∀q∈l,memN q.1 keep=true/\ins[q.1]? =some (.ptr q.2 0)/\lookup E.sl q.1=some (.ptr q.2 0)
 | [],_,q,hq=>by cases hq
 | p::l,h,q,hq=>by
  cases hq with
  | head=>exact h.1
  | tail _ hq=>exact KpOk.at h.2 q hq
theorem Bxs.regh (h:∀b,b<w.heap.size->γ'.col b=γ.col b) (hb:∀ℓ,γ'.box ℓ=γ.box ℓ) (hr:Bxs γ w bs):Bxs γ' w bs:=by
 intro b hm;obtain ⟨h1,cs,hh,hL,h1c⟩:=hr b hm;have hlt:=(xY.1 hh).1;exact ⟨by rw [hb,h _ hlt];exact h1,cs,by rw [hb];exact hh,AV.reghL _ (fun b hb _=>h b hb) (fun ℓ _=>hb ℓ) hL,h1c⟩
structure zLr (γ γc:Gh) (n:Nat) (D:List Nat) (p:List (Nat×Nat)) (ks:List Nat) (w':World):Prop where
 old:∀b,b<n->(γc.col b=0/\γ.F D b)\/γc.col b=1\/(2<=γc.col b/\zsw p (γc.col b)=some (γ.col b))
 new:∀b,n<=b->b<w'.heap.size->γc.col b≠0
 box:∀k∈ks,∀ℓ,zsw p k=some ℓ->γc.box k=γ.box ℓ
section
end
set_option linter.unusedSectionVars false
structure ArT (P:Program) (t e:TypeId) (n:Nat) (zl:List LV):Prop where
 u:P.underlying t=some (.array n e)
 sz:∀w,(sizeOf e).run P w= .ok 1 w
 ex:∃z,(∀w,(zeroValue t).run P w= .ok z w)/\zokL zl z.cells.toList=true
def arB (P:Program) (t:TypeId) (zl:List LV):Bool:=match P.info? t with
 | some i=>match i.zero with
  | some z=>zokL zl z.cells.toList
  | none=>false
 | none=>false
theorem ArT.ofB {P:Program} {t e:TypeId} {n:Nat} {zl:List LV} (hu:P.underlying t=some (.array n e)) (hs:∀w,(sizeOf e).run P w= .ok 1 w) (h:arB P t zl=true):ArT P t e n zl:=by
 unfold arB at h;split at h
 ·rename_i i hi;split at h
  ·rename_i z hz;exact ⟨hu,hs,z,fun w=>by simp [zeroValue,typeInfo,hi,hz],h⟩
  ·cases h
 ·cases h
theorem zyS {P:Program} {o:Oper} {α:Type} {r:Rp α} {t e n:Nat} {parts:List (Nat×Operand)} {zl:List LV} (as:List AV) (C:List Nat) (x:α)
  (ho:o.op= .build t parts.toArray) (hT:ArT P t e n zl) (hC:subN (AV.colsL as) C=true) (hf:ziL (fun i=>some (i*1,1)) zl parts as=some (r.lv x)):
  zA P o ((parts.map (·.2)).zip as) [] [] [] (.rc r C x) []:=by
 refine zS fun γ ev w hi _=>?_
 obtain ⟨ps,hp,hf⟩:=zsK hf;obtain ⟨z,hz,hzo⟩:=hT.ex;obtain ⟨g1,g2⟩:=znG parts as ps hp hi hC;obtain ⟨cells',hfill,hA⟩:=zrM ps _ zl z.cells _ hf (zuq hzo _ w) g1 g2;refine ⟨.agg cells',w,γ,?_,Tr.refl _ _ _ _,⟨cells'.toList,by simp,hA⟩,fun b hb=>by cases hb⟩;simp only [execOp,ho,Instr.build,xO,hz,yM hT.u,xM,hT.sz,pi];have e:(List.map (fun (x:Nat×Operand)=>(x.1,ev x.2)) parts)=parts.map fun p=>(p.1,ev p.2):=rfl
 simp only [hfill,yl,xM]
def zpS (P:Program) (e:TypeId) (ls:List LV):Bool:=P.plainKey e&&ls.all fun l=>zpy (P.underlying e) l
theorem zvj {P:Program} {e:TypeId} {ls:List LV} (h:zpS P e ls=true):ls.all LV.plain=true/\∀l∈ls,∀v,l≠ .val v:=by
 simp only [zpS,xA,xJ] at h;have key:∀l∈ls,l.plain=true/\∀v,l≠ .val v:=fun l hl=>by
  have hk:=h.2 l hl;unfold zpy at hk;split at hk<;>first| exact ⟨rfl,nofun⟩| cases hk
 exact ⟨xJ.2 fun l hl=>(key l hl).1,fun l hl=>(key l hl).2⟩
section
variable {P:Program} {t e n:Nat} {zl:List LV}
theorem zrs {xs:Array Value} {ls:List LV} (hs:∀w,(sizeOf e).run P w= .ok 1 w) (h:zpS P e ls=true) (hx:xs=(ls.map zcE).toArray) (em:Bool) (k:Nat) (w:World):∀(is:List Nat),(∀i∈is,i<ls.length)->
  (forIn (m:=Sem) is PUnit.unit fun i _=>(do let sz<-sizeOf e;let p<-part e xs (i*sz);Instr.checkKey em (k+1) e p;pure (ForInStep.yield PUnit.unit))).run P w= .ok PUnit.unit w
 | [],_=>rfl
 | i::is,hi=>by
  have h':=h;simp only [zpS,xA,xJ] at h';have hlt:=hi i xx;have a4:=h'.2 _ (xC hlt);have p1:=qW h'.1 (xs:=xs) (off:=i*1) (v:=zcE ls[i]) (w:=w) (by rw [hx];simp [hlt]);have hc:(Instr.checkKey em (k+1) e (zcE ls[i])).run P w= .ok () w:=by
   generalize hu:P.underlying e=u at a4
   unfold zpy at a4;split at a4<;>first| (rename_i heq;rw [heq];exact zis hu rfl em k _ w)| (exact zis hu rfl em k _ w)| cases a4
  have ih:=zrs hs h hx em k w is (fun j hj=>hi j (xy _ hj));simp only [List.forIn_cons,xO,hs,p1,hc,xM,yl];exact ih
theorem ztc {ls:List LV} (hu:P.underlying t=some (.array n e)) (hs:∀w,(sizeOf e).run P w= .ok 1 w) (h:zpS P e ls=true) (hl:ls.length=n) (em:Bool) (k:Nat) (w:World):
  (Instr.checkKey em (k+1+1) t (.agg (ls.map zcE).toArray)).run P w= .ok () w:=by
 rw [Instr.checkKey];simp only [xO,yM hu,xM];simp only [Std.Legacy.Range.forIn_eq_forIn_range',Std.Legacy.Range.size,qE,Nat.add_one_sub_one,Nat.div_one];have:=zrs hs h rfl em k w (List.range' 0 n) (fun i hi=>by rw [hl];simp at hi;omega);rw [this];rfl
theorem zAZ {xs ys:Array Value} {ls ms:List LV} (hk:P.plainKey e=true) (h1:zpS P e ls=true) (h2:zpS P e ms=true) (hx:xs=(ls.map zcE).toArray) (hy:ys=(ms.map zcE).toArray) (hl:ls.length=ms.length) (d:Nat) (w:World):∀(c i:Nat),i+c=ls.length->
  (Op.eqItems (d+1) e 1 xs ys (List.range' i c)).run P w= .ok (eqL (ls.drop i) (ms.drop i)) w:=by
 intro c
 induction c with
 | zero=>
  intro i hi;rw [List.drop_of_length_le (by omega),List.drop_of_length_le (by omega)];rfl
 | succ c ih=>
  intro i hi;have hlt:i<ls.length:=by omega
  have hlt2:i<ms.length:=by omega
  simp only [zpS,xA,xJ] at h1 h2;have p1:=qW h1.1 (xs:=xs) (off:=i*1) (v:=zcE ls[i]) (w:=w) (by rw [hx];simp [hlt]);have p2:=qW h1.1 (xs:=ys) (off:=i*1) (v:=zcE ms[i]) (w:=w) (by rw [hy];simp [hlt2]);have hq:=zEn (h1.2 _ (xC hlt)) (h2.2 _ (xC hlt2)) d w;rw [List.range'_succ,xQ hlt,xQ hlt2];simp only [Op.eqItems,xO,p1,p2,hq,xM,eqL];cases hc:leq ls[i] ms[i] with
  | false=>rfl
  | true=>simpa using ih (i+1) (by omega)
theorem eqTr {ls ms:List LV} {b:Bool} {i:TypeInfo} (hu:P.underlying t=some (.array n e)) (hi:P.info? t=P.info? t/\P.info? e=some i) (hc:P.cellsOf e=1) (h1:zpS P e ls=true) (h2:zpS P e ms=true) (k1:ls.length=n) (k2:ms.length=n) (he:eqL ls ms=b):
  ∀w,(Op.equalIn 10000 t (.agg (ls.map zcE).toArray) (.agg (ms.map zcE).toArray)).run P w= .ok b w:=fun w=>by
 have hk:P.plainKey e=true:=by
  simp only [zpS,xA] at h1;exact h1.1
 rw [run_equalIn_array (w:=w) 9999 _ _ hu hi.2,hc,List.range_eq_range',zAZ hk h1 h2 rfl rfl (by omega) 9998 w n 0 (by omega),xX,xX,he]
theorem zHh {κ:Type} [DecidableEq κ] {r:Rp κ} (hu:P.underlying t=some (.array n e)) (hs:∀w,(sizeOf e).run P w= .ok 1 w) (hi':(P.info? e).isSome=true) (hc:P.cellsOf e=1) (hr:r.agg=true) (hsz:r.size=n) (hf:∀x,zpS P e (r.lv x)=true)
  (he:∀a b,eqL (r.lv a) (r.lv b)=decide (a=b)):KeyT P t r:=by
 obtain ⟨i,hi⟩:=uM.1 hi';have hv:∀{F:Fp} {w:World} {x:κ} {v:Value},VRel F w r x v->v= .agg ((r.lv x).map zcE).toArray:=fun {F w x v} h=>zxT hr (zvj (hf x)).1 h
 have hlen:∀x,(r.lv x).length=n:=fun x=>by rw [r.len,hsz]
 refine ⟨fun w e' F x v h=>?_,fun w F F' x v ν rv m es h hes=>?_,fun w F F' x v v' h h'=>?_⟩
 ·rw [hv h];exact ztc hu hs (hf x) (hlen x) e' 9998 w
 ·rw [hv h];cases hes with
  | nil=>simp [Instr.findKey,run_underlying hu,Instr.findNow,znz]
  | cons h1 h2 h3=>
   have hq:∀(b:κ) (u:Value),VRel F' w r b u->(Op.equal t (.agg ((r.lv x).map zcE).toArray) u).run P w= .ok (decide (x=b)) w:=fun b u hu'=>by
    rw [hv hu'];exact eqTr hu ⟨rfl,hi⟩ hc (hf x) (hf b) (hlen x) (hlen b) (he x b) w
   have:=zvi hq (.cons h1 h2 h3) 0;simp only [Instr.findKey,xO,yM hu,xM,Instr.findNow,Instr.sameNow];exact this
 ·rw [hv h,hv h'];obtain ⟨p1,p2⟩:=zvj (hf x);show Instr.sameBits (9999+1) _ _=true;simp only [Instr.sameBits,BEq.rfl,xR,xJ];intro p hp';have hz:∀(l:List Value) (q:Value×Value),q∈l.zip l->q.1=q.2/\q.1∈l:=by
   intro l
   induction l with
   | nil=>intro q hq;cases hq
   | cons a l ih=>
    intro q hq;cases hq with
    | head=>exact ⟨rfl,xx⟩
    | tail _ hq=>exact ⟨(ih q hq).1,xy _ (ih q hq).2⟩
  obtain ⟨e1,e2⟩:=hz _ p hp';obtain ⟨l,hl,e3⟩:=xP.1 (by simpa using e2);obtain ⟨pa,pb⟩:=p;simp only at e1 e3|-;subst e1;rw [<-e3];exact zot _ (by simp only [xJ] at p1;exact p1 l hl) (p2 l hl)
end
end Go.Proofs.YtekgmimingolbaaGreat
