/-
  What every proof here stands on. No condition.
-/
import Derived.MapKept
import Derived.DeepKeys
import Derived.Lib.AppendZeros
import Derived.Lib.Bytealg
import Derived.Lib.AppendStr
import Derived.RangeFuncRecord
import Derived.RangeFuncSeq
import Derived.RangeFuncBound
import Derived.Lib.SlBytesConst
import Derived.Laws.Bits64b
import Derived.IntWalk
import Derived.RowKit
import Derived.Test.YtkgohoggipdokaaGreatx2K1
set_option autoImplicit true
set_option relaxedAutoImplicit true
namespace Go.Proofs.YtkgohoggipdokaaGreat
open Go.IntKind (i32 i64 u32 u64 u8)
open Go Go.RowKit
set_option linter.unusedVariables false
set_option linter.unusedSectionVars false
theorem zmc {κ ν:Type} [DecidableEq κ] (m:List (κ×ν)) (k j:κ) (x:ν):mget (mput m k x) j=if j=k then some x else mget m j:=by
 induction m with
 | nil=>simp only [mput,mget]
 | cons p m ih=>
  rw [mput];by_cases h:k=p.1
  ·rw [xx h,mget,mget]
   grind
  ·rw [xw h,mget,mget,ih]
   grind
theorem zBq {κ ν:Type} [DecidableEq κ] {m:List (κ×ν)} {k:κ} (h:mget m k=none):k∉m.map Prod.fst:=by
 induction m with
 | nil=>simp
 | cons p m ih=>
  rw [mget] at h
  grind
theorem zvt {κ ν:Type} [DecidableEq κ] (m:List (κ×ν)) (k:κ) (x:ν):(mput m k x).map Prod.fst=match mget m k with
  | none=>m.map Prod.fst++[k]
  | some _=>m.map Prod.fst:=by
 induction m with
 | nil=>rfl
 | cons p m ih=>
  rw [mput,mget]
  grind
theorem zpv {κ ν:Type} [DecidableEq κ] {m:List (κ×ν)} (h:(m.map Prod.fst).Nodup) (k:κ) (x:ν):((mput m k x).map Prod.fst).Nodup:=by
 rw [zvt];cases hg:mget m k with
 | none=>exact List.nodup_append.2 ⟨h,by simp,fun a ha b hb e=>by
   simp only [ym] at hb;subst hb e;exact zBq hg ha⟩
 | some y=>exact h
theorem zDB {κ ν:Type} :StOk ([]:List (κ×ν)) #[] cl:=⟨fun x hx=>by simp at hx,by simp,by simp⟩
def zlU {κ ν:Type} [DecidableEq κ] (k:κ):List (κ×ν)->List MapEntry->Nat->Option (Nat×Value)
 | p::m,e::es,i=>if k=p.1 then some (i,e.val) else zlU k m es (i+1)
 | _,_,_=>none
def asV {α:Type} (r:Rp α) (x:α) (D:List Nat) (a:AV):Prop:=∀γ w v,a.rel γ w v->VRel (γ.F D) w r x v
theorem zuV {v:Value} (h:v.oneCell'=true):v.cells=#[v]:=by cases v<;>first| rfl| cases h
theorem zvS {α:Type} {F:Fp} {w:World} {r:Rp α} {x:α} {l:LV} {v:Value} (hr:r.agg=false) (hl:r.lv x=[l]) (h:zaI F w l v):VRel F w r x v:=by
 have hc:=zuV h.one;refine ⟨?_,⟨fun e=>?_,fun _=>hc⟩⟩
 ·rw [hl,hc];exact .cons h .nil
 grind
theorem zuj {α:Type} {F:Fp} {w:World} {r:Rp α} {x:α} {l:LV} {v:Value} (hr:r.agg=false) (hl:r.lv x=[l]) (h:VRel F w r x v):zaI F w l v:=by
 have h1:=h.1;rw [hl,h.2.2 hr] at h1;exact h1.2 0 l v rfl rfl
theorem zfw {α:Type} {r:Rp α} {x:α} {l:LV} (hr:r.agg=false) (hl:r.lv x=[l]):asV r x [] (.lf l):=fun γ w v h=>zvS hr hl (h.2.plain h.1)
theorem zeE {α:Type} {r:Rp α} {x:α} {C:List Nat} (hr:r.agg=true):asV r x C (.rc r C x):=fun γ w v ⟨cs,hv,hA⟩=>by
 subst hv;refine ⟨by simpa [Value.cells] using hA,⟨fun _=>⟨cs,rfl⟩,fun e=>?_⟩⟩
 grind
theorem asV.sub {α:Type} {r:Rp α} {x:α} {D D':List Nat} {a:AV} (h:asV r x D a) (hs:subN D D'=true):asV r x D' a:=fun γ w v hv=>(h γ w v hv).mono fun b _ hb=>zal hs _ hb
def elAV {α:Type} (r:Rp α) (C:List Nat) (x:α) (a:AV):Prop:=∀γ w v,VRel (γ.F C) w r x v->a.rel γ w v
theorem zEg {α:Type} {r:Rp α} {C:List Nat} {x:α} (hr:r.agg=true):elAV r C x (.rc r C x):=fun γ w v h=>by
 obtain ⟨cs,rfl⟩:=h.2.1 hr;exact ⟨cs,rfl,by simpa [Value.cells] using h.1⟩
theorem zwj {α:Type} {r:Rp α} {C:List Nat} {x:α} {l:LV} (hr:r.agg=false) (hl:r.lv x=[l]) (hp:l.plain=true):elAV r C x (.lf l):=fun γ w v h=>⟨hp,(zuj hr hl h).plain hp⟩
structure KeyT (P:Program) {κ:Type} [DecidableEq κ] (kt:TypeId) (r:Rp κ):Prop where
 check:∀(w:World) (e:Bool) (F:Fp) (k:κ) (v:Value),VRel F w r k v->(Instr.checkKey e 10000 kt v).run P w= .ok () w
 find:∀(w:World) (F F':Fp) (k:κ) (v:Value) (ν:Type) (rv:Rp ν) (m:List (κ×ν)) (es:List MapEntry),VRel F w r k v->zcP F' w r rv m es->(Instr.findKey kt v es).run P w= .ok (zlU k m es 0) w
 stays:∀(w:World) (F F':Fp) (k:κ) (v v':Value),VRel F w r k v->VRel F' w r k v'->Instr.sameBits 10000 v v'=true
theorem zuk {α:Type} {F:Fp} {w:World} {r:Rp α} {x:α} {l:LV} {v:Value} (hr:r.agg=false) (hl:r.lv x=[l]) (hp:l.plain=true) (h:VRel F w r x v):v=zdl l:=zsQ (zuj hr hl h) hp
theorem zCm {P:Program} {κ ν:Type} [DecidableEq κ] {kt:TypeId} {d:TypeDesc} {r:Rp κ} {rv:Rp ν} (hu:P.underlying kt=some d) (hs:∀(F F':Fp) (w:World) (a b:κ) (u v:Value),VRel F w r a u->VRel F' w r b v->Instr.sameNow d u v=some (decide (a=b)))
  (w:World) (F F':Fp) (k:κ) (v:Value) (m:List (κ×ν)) (es:List MapEntry) (hk:VRel F w r k v) (he:zcP F' w r rv m es):(Instr.findKey kt v es).run P w= .ok (zlU k m es 0) w:=by
 have key:∀i,Instr.findNow d v es i=some (zlU k m es i):=by
  induction he with
  | nil=>intro i;rfl
  | cons h1 h2 _ ih=>
   intro i;rw [Instr.findNow,hs _ _ w _ _ _ _ hk h1,zlU]
   grind
 simp [Instr.findKey,run_underlying hu,key 0]
def zDc:TypeDesc->Bool
 | .int _| .bool| .string=>true
 | _=>false
theorem zku (hu:P.underlying t=some d) (hd:zDc d=true) (e:Bool) (n:Nat) (v:Value) (w:World):(Instr.checkKey e (n+1) t v).run P w= .ok () w:=by
 rw [Instr.checkKey];simp only [xO,yL hu,xR];cases d<;>first| (cases v<;>rfl;done)| cases hd
theorem zpd (n:Nat) (h:l.plain=true) (hv:∀v,l≠ .val v):Instr.sameBits n (zdl l) (zdl l)=true:=by
 cases l with
 | int k a=>cases n<;>simp [Instr.sameBits,zdl]
 | bool b=>cases n<;>simp [Instr.sameBits,zdl]
 | str s=>
  have:(({data:=s.toArray}:ByteArray)=={data:=s.toArray})=true:=by rw [beq_toListBytes];simp
  cases n<;>simp [Instr.sameBits,zdl,this]
 | sl=>cases h
 | val v=>exact absurd rfl (hv v)
theorem zzn {P:Program} {κ:Type} [DecidableEq κ] {kt:TypeId} {d:TypeDesc} {r:Rp κ} (hu:P.underlying kt=some d) (hd:zDc d=true) (lf:κ->LV) (hr:r.agg=false) (hl:∀x,r.lv x=[lf x]) (hp:∀x,(lf x).plain=true) (hv:∀x v,lf x≠ .val v)
  (hs:∀a b,Instr.sameNow d (zdl (lf a)) (zdl (lf b))=some (decide (a=b))):KeyT P kt r:=by
 have hc:∀{F:Fp} {w:World} {x:κ} {v:Value},VRel F w r x v->v=zdl (lf x):=fun {F w x v} h=>zuk hr (hl x) (hp x) h
 refine ⟨fun w e F x v h=>zku hu hd e 9999 v w,fun w F F' x v ν rv m es h he=>zCm hu (fun F F' w a b u v h1 h2=>?_) w F F' x v m es h he,fun w F F' x v v' h h'=>?_⟩
 ·grind
 ·rw [hc h,hc h'];exact zpd _ (hp x) (hv x)
theorem zCC {P:Program} {kt:TypeId} {k:IntKind} (hu:P.underlying kt=some (.int k)):KeyT P kt (Rp.int k):=
 zzn hu rfl (fun x=> .int k x) rfl (fun _=>rfl) (fun _=>rfl) (fun _ _=>nofun) fun a b=>by simp only [Instr.sameNow,zdl,yp,yj];by_cases h:a=b<;>simp [h]
theorem zzL {α:Type} {F:Fp} {w:World} {r:Rp α} {x:α} {v:Value} (hr:r.agg=true) (hp:(r.lv x).all LV.plain=true) (h:VRel F w r x v):v= .agg ((r.lv x).map zdl).toArray:=by
 obtain ⟨cs,rfl⟩:=h.2.1 hr;have h1:=h.1;simp only [Value.cells] at h1;rw [<-zxt h1 hp]
theorem znG :∀(fs:List Field) (ls:List LV) (off:Nat),zmQ P off fs ls=true->ls.all LV.plain=true/\∀l∈ls,∀v,l≠ .val v
 | [],[],_,_=>⟨rfl,nofun⟩
 | f::fs,l::ls,off,h=>by
  simp only [zmQ,xA] at h;obtain ⟨⟨⟨⟨_,_⟩,_⟩,hk⟩,h2⟩:=h;obtain ⟨i1,i2⟩:=znG fs ls _ h2;have:l.plain=true/\∀v,l≠ .val v:=by
   unfold zrd at hk;split at hk<;>first| exact ⟨rfl,nofun⟩| cases hk
  refine ⟨by simp [this.1,i1],fun x hx=>?_⟩;cases hx with
  | head=>exact this.2
  | tail _ hx=>exact i2 x hx
 | [],_::_,_,h=>by cases h
 | _::_,[],_,h=>by cases h
theorem zmT (e:Bool) (n:Nat) (w:World):∀(fs:List Field) (ls:List LV) (off:Nat),zmQ P off fs ls=true->(∀i,i<ls.length->xs[off+i]? =(ls.map zdl)[i]?)->
  (forIn (m := Sem) fs PUnit.unit fun f _ => if f.name ≠ "_" then (do let p ← part f.type xs f.offset; Instr.checkKey e (n + 1) f.type p; pure (ForInStep.yield PUnit.unit)) else pure (ForInStep.yield PUnit.unit)).run P w = .ok PUnit.unit w
 | [],[],_,_,_=>rfl
 | f::fs,l::ls,off,h,hx=>by
  simp only [zmQ,xA] at h;obtain ⟨⟨⟨⟨a1,a2⟩,a3⟩,a4⟩,a5⟩:=h;have hn : f.name ≠ "_" := by simpa using a1
  have ho:=xD a2;have p1:=pu a3 (xs:=xs) (off:=f.offset) (v:=zdl l) (w:=w) (by rw [ho];simpa using hx 0 (by simp));have hc:(Instr.checkKey e (n+1) f.type (zdl l)).run P w= .ok () w:=by
   generalize hu:P.underlying f.type=u at a4
   unfold zrd at a4;split at a4<;>first| (exact zku hu rfl e n _ w)| cases a4
  have ih:=zmT e n w fs ls (off+1) a5 (fun i hi=>by have:=hx (i+1) (by simpa using hi);simpa [Nat.add_assoc,Nat.add_comm 1 i] using this);simp_all
 | [],_::_,_,h,_=>by cases h
 | _::_,[],_,h,_=>by cases h
theorem zoV (hu:P.underlying t=some (.struct fs)) (h:zmQ P 0 fs.toList ls=true) (e:Bool) (n:Nat) (w:World):
  (Instr.checkKey e (n+1+1) t (.agg (ls.map zdl).toArray)).run P w= .ok () w:=by
 rw [Instr.checkKey];simp only [xO,yL hu,xR];rw [<-Array.forIn_toList];have:=zmT (P:=P) (xs:=(ls.map zdl).toArray) e n w fs.toList ls 0 h (fun i _=>by simp);rw [this];rfl
theorem zxC {P:Program} {κ ν:Type} [DecidableEq κ] {kt:TypeId} {r:Rp κ} {rv:Rp ν} {w:World} {F':Fp} {k:κ} {v:Value} {m:List (κ×ν)} {es:List MapEntry}
  (hq:∀(b:κ) (u:Value),VRel F' w r b u->(Op.equal kt v u).run P w= .ok (decide (k=b)) w) (he:zcP F' w r rv m es):∀i,(Instr.findAsking kt v es i).run P w= .ok (zlU k m es i) w:=by
 induction he with
 | nil=>intro i;rfl
 | cons h1 h2 _ ih=>
  intro i;rw [Instr.findAsking,zlU];simp only [xO,hq _ _ h1,xR];split
  ·simp_all
  grind
theorem zvl {P:Program} {κ:Type} [DecidableEq κ] {kt:TypeId} {fs:Array Field} {r:Rp κ} (hu:P.underlying kt=some (.struct fs)) (hp:P.stoodInHeld kt=false) (hr:r.agg=true) (hf:∀x,zmQ P 0 fs.toList (r.lv x)=true)
  (he:∀a b,eqL (r.lv a) (r.lv b)=decide (a=b)):KeyT P kt r:=by
 have hv:∀{F:Fp} {w:World} {x:κ} {v:Value},VRel F w r x v->v= .agg ((r.lv x).map zdl).toArray:=fun {F w x v} h=>zzL hr (znG _ _ _ (hf x)).1 h
 refine ⟨fun w e F x v h=>?_,fun w F F' x v ν rv m es h hes=>?_,fun w F F' x v v' h h'=>?_⟩
 ·rw [hv h];exact zoV hu (hf x) e 9998 w
 ·rw [hv h];cases hes with
  | nil=>simp [Instr.findKey,run_underlying hu,Instr.findNow,zlU]
  | cons h1 h2 h3=>
   have hq:∀(b:κ) (u:Value),VRel F' w r b u->(Op.equal kt (.agg ((r.lv x).map zdl).toArray) u).run P w= .ok (decide (x=b)) w:=fun b u hu'=>by
    rw [hv hu'];exact eqT hu hp (hf x) (hf b) (he x b) w
   have:=zxC hq (.cons h1 h2 h3) 0;simp only [Instr.findKey,xO,yL hu,xR,Instr.findNow,Instr.sameNow];exact this
 ·rw [hv h,hv h'];obtain ⟨p1,p2⟩:=znG _ _ _ (hf x);show Instr.sameBits (9999+1) _ _=true;simp only [Instr.sameBits,BEq.rfl,xL,xJ];intro p hp';have hz:∀(l:List Value) (q:Value×Value),q∈l.zip l->q.1=q.2/\q.1∈l:=by
   intro l
   induction l with
   | nil=>intro q hq;cases hq
   | cons a l ih=>
    intro q hq;cases hq with
    | head=>exact ⟨rfl,xy⟩
    | tail _ hq=>exact ⟨(ih q hq).1,xz _ (ih q hq).2⟩
  obtain ⟨e1,e2⟩:=hz _ p hp';obtain ⟨l,hl,e3⟩:=xK.1 (by simpa using e2);obtain ⟨pa,pb⟩:=p;simp only at e1 e3|-;subst e1;rw [<-e3];exact zpd _ (by simp only [xJ] at p1;exact p1 l hl) (p2 l hl)
theorem zmL (h:w.heap[b]? =some (.map es cl)):(getObj b).run P w= .ok (.map es cl) w:=by simp [getObj,Sem.run,h]
theorem ztU (ob:Obj) (h:w.heap[b]? =some (.map es cl)):(setObj b ob).run P w= .ok () {w with heap:=w.heap.setIfInBounds b ob}:=by simp [setObj,Sem.run,h]
section
variable {P:Program} {o:Oper} {κ ν:Type} {rk:Rp κ} {rv:Rp ν} {C D:List Nat} {m:List (κ×ν)} {t kt et:TypeId}
def isMp (rk:Rp κ) (rv:Rp ν) (m:List (κ×ν)) (D:List Nat) (a:AV):Prop:=∀γ w v,a.rel γ w v->AV.rel γ w (.mp rk rv D m) v
theorem zAf (rk:Rp κ) (rv:Rp ν) (m:List (κ×ν)) (ℓ:Nat) (C:List Nat):isMp rk rv m (ℓ::C) (.om rk rv ℓ C m):=fun γ w v ⟨b,es,cl,hv,⟨g1,_⟩,hb,hh,hE,_⟩=>
 ⟨b,es,cl,hv,by rw [g1];exact xy,hb,hh,hE.mono fun _ _ h=>xz _ h⟩
theorem zCL (C C':List Nat) (m:List (κ×ν)) (h:subN C C'=true):AV.le (.mp rk rv C m) (.mp rk rv C' m):=fun _ _ _ ⟨b,es,cl,hv,hF,hb,hh,hE⟩=>⟨b,es,cl,hv,zal h _ hF,hb,hh,hE.mono fun _ _ h'=>zal h _ h'⟩
theorem zGS (ℓ:Nat) (C C':List Nat) (m:List (κ×ν)) (h:subN C C'=true) (hn:memN ℓ C'=false):AV.le (.om rk rv ℓ C m) (.om rk rv ℓ C' m):=fun _ _ _ ⟨b,es,cl,hv,g,hb,hh,hE,_⟩=>
 ⟨b,es,cl,hv,g,hb,hh,hE.mono fun _ _ h'=>zal h _ h',fun hc=>by rw [zas.2 hc] at hn;cases hn⟩
theorem zGc (ℓ:Nat) (C C':List Nat) (m:List (κ×ν)) (h:subN (ℓ::C) C'=true):AV.le (.om rk rv ℓ C m) (.mp rk rv C' m):=fun γ w v hv=>zCL _ _ m h γ w v (zAf rk rv m ℓ C γ w v hv)
theorem ztr (ℓ:Nat) (ho:o.op= .makeMap t none):zv P o [] [] [] [ℓ] (.om rk rv ℓ [] []) []:=by
 refine zL fun γ ev w hi _=>?_
 refine ⟨.map (some w.heap.size),w.alloc (.map #[] 0),_,?_,zpM γ w ℓ _,⟨w.heap.size,#[],0,rfl,⟨zjG _ _ _ _,zeA _ _ _ _⟩,by simp,⟨yV w _,zDB⟩,.nil,by simp⟩,fun b hb=>by cases hb⟩;simp [execOp,ho,Instr.makeMap]
end
structure MapT (P:Program) {κ ν:Type} [DecidableEq κ] (t kt et:TypeId) (rk:Rp κ) (rv:Rp ν) (x0:ν):Prop where
 u:P.underlying t=some (.map kt et)
 key:KeyT P kt rk
 zero:∃i z,P.info? et=some i/\i.zero=some z/\zokL (rv.lv x0) z.cells.toList=true/\(rv.agg=true->∃cs:List Value,z= .agg cs.toArray)/\(rv.agg=false->z.cells=#[z])
def aggB:Value->Bool
 | .agg _=>true
 | _=>false
def zvB (P:Program) {ν:Type} (et:TypeId) (rv:Rp ν) (x0:ν):Bool:=match P.info? et with
 | some i=>match i.zero with
  | some z=>zokL (rv.lv x0) z.cells.toList&&(if rv.agg then aggB z else z.oneCell')
  | none=>false
 | none=>false
theorem MapT.ofB {P:Program} {κ ν:Type} [DecidableEq κ] {t kt et:TypeId} {rk:Rp κ} {rv:Rp ν} {x0:ν} (hu:P.underlying t=some (.map kt et)) (hk:KeyT P kt rk) (h:zvB P et rv x0=true):MapT P t kt et rk rv x0:=by
 refine ⟨hu,hk,?_⟩;unfold zvB at h;split at h
 ·rename_i i hi;split at h
  ·rename_i z hz;simp only [xA] at h;refine ⟨i,z,hi,hz,h.1,fun e=>?_,fun e=>?_⟩
   ·have h2:=h.2;rw [e,xx rfl] at h2;cases z<;>first| cases h2;done| skip
    grind
   ·have h2:=h.2;rw [e] at h2;exact zuV h2
  ·cases h
 ·cases h
section
variable {P:Program} {o:Oper} {κ ν:Type} [DecidableEq κ] {rk:Rp κ} {rv:Rp ν} {C D:List Nat} {m:List (κ×ν)} {t kt et:TypeId} {x0:ν}
theorem ztb (k:κ) (h:zcP F w rk rv m es):∀i,(mget m k=none/\zlU k m es i=none)\/
  ∃x j e,mget m k=some x/\zlU k m es i=some (i+j,e.val)/\es[j]? =some e/\VRel F w rk k e.key/\VRel F w rv x e.val/\
   ∀kv xv y,VRel F w rk k kv->VRel F w rv y xv->zcP F w rk rv (mput m k y) (es.modify j fun e=>{e with key:=kv,val:=xv}):=by
 induction h with
 | nil=>intro i;exact .inl ⟨rfl,rfl⟩
 | @cons p m e es h1 h2 h3 ih=>
  intro i;by_cases hk:k=p.1
  ·refine .inr ⟨p.2,0,e,by rw [mget,xx hk],by rw [zlU,xx hk];rfl,rfl,by rw [hk];exact h1,h2,fun kv xv y g1 g2=>?_⟩;rw [mput,xx hk];simp only [List.modify_zero_cons];exact .cons g1 g2 h3
  ·rcases ih (i+1) with ⟨g1,g2⟩| ⟨x,j,e',g1,g2,g3,g4,g5,g6⟩
   ·exact .inl ⟨by rw [mget,xw hk,g1],by rw [zlU,xw hk,g2]⟩
   ·refine .inr ⟨x,j+1,e',by rw [mget,xw hk,g1],by rw [zlU,xw hk,g2];congr 2;omega,by simpa using g3,g4,g5,fun kv xv y q1 q2=>?_⟩;rw [mput,xw hk];simp only [List.modify_succ_cons];exact .cons h1 h2 (g6 kv xv y q1 q2)
theorem zcP.snoc (h:zcP F w rk rv m es) (hn:mget m k=none) (h1:VRel F w rk k e.key) (h2:VRel F w rv x e.val):zcP F w rk rv (mput m k x) (es++[e]):=by
 induction h with
 | nil=>exact .cons h1 h2 .nil
 | @cons p m e' es g1 g2 g3 ih=>
  rw [mget] at hn;split at hn
  ·cases hn
  ·rename_i hk;rw [mput,xw hk];exact .cons g1 g2 (ih hn)
theorem ztT (hT:MapT P t kt et rk rv x0) (hh:w.heap[b]? =some (.map es cl)) (hE:zcP F w rk rv m es.toList) (hk:VRel F' w rk k kv) (ok:Bool):
  ∃v,(Instr.lookup t (.map (some b)) kv ok).run P w= .ok (if ok then .tuple #[v,.bool (mget m k).isSome] else v) w/\VRel F w rv ((mget m k).getD x0) v:=by
 obtain ⟨i,z,hi,hz,hzo,hza,hzb⟩:=hT.zero;have hf:=hT.key.find w F' F k kv ν rv m es.toList hk hE;have hc:=hT.key.check w es.isEmpty F' k kv hk;have hzero:(zeroValue et).run P w= .ok z w:=by simp [zeroValue,typeInfo,hi,hz]
 rcases ztb k hE 0 with ⟨g1,g2⟩| ⟨x,j,e,g1,g2,g3,g4,g5,_⟩
 ·refine ⟨z,?_,?_⟩
  ·unfold Instr.lookup;simp only [xO,yL hT.u,xR,zmL hh,yf,hc,hf,g2,g1,hzero,Option.isSome_none]
  ·rw [g1];exact ⟨zus hzo F w,hza,hzb⟩
 ·refine ⟨e.val,?_,?_⟩
  ·unfold Instr.lookup;simp only [xO,yL hT.u,xR,zmL hh,yf,hc,hf,g2,g1,Option.isSome_some]
  grind
theorem zDr {F F' F2:Fp} {w:World} {b:Nat} {es:Array MapEntry} {cl:Nat} {k:κ} {x:ν} {kv xv:Value} (hO:StOk m es cl) (hT:MapT P t kt et rk rv x0) (hh:w.heap[b]? =some (.map es cl)) (hE:zcP F w rk rv m es.toList) (hk:VRel F' w rk k kv) (hF':∀b,F' b->F b) (hx:VRel F2 w rv x xv) (hF2:∀b,F2 b->F b):
  ∃es' cl',(Instr.mapUpdate t (.map (some b)) kv xv).run P w= .ok () {w with heap:=w.heap.setIfInBounds b (.map es' cl')}/\zcP F w rk rv (mput m k x) es'.toList/\StOk (mput m k x) es' cl':=by
 have hk1:=hk.mono (G:=F) fun b _ h=>hF' b h
 have hx1:=hx.mono (G:=F) fun b _ h=>hF2 b h
 have hf:=hT.key.find w F' F k kv ν rv m es.toList hk hE;have hc:=hT.key.check w false F' k kv hk;rcases ztb k hE 0 with ⟨g1,g2⟩| ⟨y,j,e,g1,g2,g3,g4,g5,g6⟩
 ·refine ⟨es.push {key:=kv,val:=xv,born:=cl},cl+1,?_,?_,fun y hy=>?_,?_,zpv hO.2.2 _ _⟩
  ·unfold Instr.mapUpdate;simp only [xO,yL hT.u,xR,zmL hh,hc,hf,g2];exact ztU _ hh
  ·rw [pv];exact hE.snoc g1 hk1 hx1
  ·rw [pv] at hy;rcases xE.1 hy with hy| hy
   ·exact Nat.lt_succ_of_lt (hO.1 y hy)
   grind
  ·rw [pv,q7];refine List.nodup_append.2 ⟨hO.2.1,by simp,fun a ha b hb e=>?_⟩;simp only [xM,qw,ym] at hb;subst hb e;obtain ⟨y,hy,e⟩:=xK.1 ha;exact Nat.lt_irrefl _ (e▸hO.1 y hy)
 ·have hbs:((es.modify j fun e=>{e with key:=kv,val:=xv}).toList.map (·.born))=es.toList.map (·.born):=by
   rw [Array.toList_modify];apply List.ext_getElem?;intro i;simp only [yK,List.getElem?_modify];cases es.toList[i]? with
   | none=>rfl
   | some e0=>simp only [qX];split<;>rfl
  refine ⟨es.modify j fun e=>{e with key:=kv,val:=xv},cl,?_,?_,fun y hy=>?_,by rw [hbs];exact hO.2.1,zpv hO.2.2 _ _⟩
  ·have hst:=hT.key.stays w F F' k e.key kv g4 hk;have hge:((es[j]?).map (·.key)).getD kv=e.key:=by
    grind
   unfold Instr.mapUpdate;simp only [xO,yL hT.u,xR,zmL hh,hc,hf,g2,xH,hge,Instr.keyThatStays,hst,yp,yf];exact ztU _ hh
  ·grind
  ·have:y.born∈es.toList.map (·.born):=by rw [<-hbs];exact qh hy
   obtain ⟨z,hz,e⟩:=xK.1 this;rw [<-e];exact hO.1 z hz
theorem zGD (wj:γ.col b=ℓ) (ob:Obj):Tr [ℓ] [] γ w γ {w with heap:=w.heap.setIfInBounds b ob}:=
 ⟨rfl,rfl,rfl,by simp,fun c hb hn=>by
  have:b≠c:=fun e=>hn (by rw [<-e,wj];exact xy)
  simp [this],fun _ _=>rfl,fun _ _=>rfl,fun b h1 h2=>absurd h2 (by simp;omega)⟩
theorem zcP.app (h:zcP F w rk rv m1 l1) (k:zcP F w rk rv m2 l2):zcP F w rk rv (m1++m2) (l1++l2):=by
 induction h with
 | nil=>exact k
 | cons h1 h2 _ ih=>exact .cons h1 h2 ih
theorem zcP.split :∀{l1:List MapEntry} {m:List (κ×ν)},zcP F w rk rv m (l1++e::l2)->∃m1 p m2,m=m1++p::m2/\zcP F w rk rv m1 l1/\VRel F w rk p.1 e.key/\VRel F w rv p.2 e.val/\zcP F w rk rv m2 l2
 | [],_,h=>by cases h with| cons h1 h2 h3=>exact ⟨[],_,_,rfl,.nil,h1,h2,h3⟩
 | _::l1,_,h=>by
  cases h with
  | cons h1 h2 h3=>
   obtain ⟨m1,p,m2,rfl,g1,g2,g3,g4⟩:=h3.split (l1:=l1);exact ⟨_::m1,p,m2,rfl,.cons h1 h2 g1,g2,g3,g4⟩
end
theorem zvq (ho:o.op= .call ⟨.builtin .cap,#[x],#[t]⟩) (hu:P.underlying t=some (.slice e)):
  zv P o [(x,.lf (.val (.slice none n 0)))] [] [] [] (.lf (.int .i64 0)) []:=by
 refine zL fun γ ev w hi _=>?_
 have h1:=zps (hi (x,.lf (.val (.slice none n 0))) (by simp));simp only at h1;refine ⟨.int .i64 0,w,γ,zdd (args:=[x]) (ts:=[t]) ho rfl rfl rfl fun consts=>?_,Tr.refl _ _ _ _,ziq _ _ _ _,fun b hb=>by cases hb⟩;simp [builtin,h1,Builtin.cap_,run_underlying hu,goInt]
theorem zyg {w:World} {e:TypeId} {size n:Nat} {v:Value} {cs:List Value} (h:w.ownsRow 0 e size v n cs) {j:Nat} (hj:j<=n):
  ∃A c,v= .slice A n c/\n<=c/\w.ownsRow 0 e size (.slice (if c=0 then A else A.map (·.add (0*size))) j (c - 0)) j (cs.take (j*size))/\
   Value.ownBlock (.slice (if c=0 then A else A.map (·.add (0*size))) j (c - 0))=v.ownBlock:=by
 have hle:j*size<=n*size:=yg _ hj;rcases h.2 with ⟨rfl,hz⟩| ⟨g,cap,cur,rfl,hg,hh,hnc,hcm,hcs,htake⟩
 ·subst hz;have:j=0:=by omega
  subst this;exact ⟨none,0,rfl,xB _,⟨by simp,.inl ⟨rfl,rfl⟩⟩,rfl⟩
 ·have e1:(if cap=0 then (some ⟨g,0,none⟩:Option Addr) else (some (⟨g,0,none⟩:Addr)).map (·.add (0*size)))=some ⟨g,0,none⟩:=by
   split
   ·rfl
   ·simp [ziF]
  refine ⟨_,cap,rfl,hnc,?_,by rw [e1];rfl⟩;rw [e1];refine ⟨by rw [ye,h.1];omega,.inr ⟨g,cap,cur,rfl,hg,hh,by omega,hcm,hcs,?_⟩⟩
  grind
theorem zAr {P:Program} {o:Oper} {α:Type} {r:Rp α} {xs ys:List α} {C:List Nat} {j:Int} {k:IntKind} {t e:TypeId} {x y:Operand} {bytes ℓ:Nat}
  (ho:o.op= .slice t x none (some y) none) (hT:ElT P t e r.size bytes) (hy:cut xs 0 j=some ys):
  zv P o [(x,.own r e ℓ C xs),(y,.lf (.int k j))] [] [ℓ] [] (.own r e ℓ C ys) []:=by
 refine zL fun γ ev w hin _=>?_
 obtain ⟨cs,wk,hgb,hA,hnC⟩:=hin (x,.own r e ℓ C xs) (by simp);have h2:=zes (hin (y,.lf (.int k j)) (by simp));simp only at wk hgb h2;obtain ⟨c0,c1,c2,rfl⟩:=zpW hy;have hl:=zzT hy;obtain ⟨A,c,hv,hc,hown',hblk⟩:=zyg wk (j:=j.toNat) (by omega);have hr:=zwK hT w A xs.length c hc none (some (.int k j)) 0 j (.inl ⟨rfl,rfl⟩) (.inr ⟨k,rfl⟩) (by omega) c1 c2;rw [show (0:Int).toNat=0 from rfl,q8 j.toNat] at hr;refine ⟨_,w,γ,by simp only [execOp,ho,hv,h2,Option.map_none,qX,xO,hr];rfl,Tr.refl _ _ _ _,⟨cs.take (j.toNat*r.size),?_,fun g hg=>hgb g ?_,?_,hnC⟩,fun b hb=>by cases hb⟩
 ·grind
 ·grind
 ·have:=hA.take (j.toNat*r.size);rw [show (0:Int).toNat=0 from rfl,q8,xI,r.flat_take];exact this
theorem zBn {P:Program} {o:Oper} {k:IntKind} {t e:TypeId} {x y:Operand} {size bytes:Nat} (ho:o.op= .slice t x none (some y) none) (hT:ElT P t e size bytes):
  zv P o [(x,.lf (.val (.slice none 0 0))),(y,.lf (.int k 0))] [] [] [] (.lf (.val (.slice none 0 0))) []:=by
 refine zL fun γ ev w hin _=>?_
 have h1:=zps (hin (x,.lf (.val (.slice none 0 0))) (by simp));have h2:=zes (hin (y,.lf (.int k 0)) (by simp));simp only at h1 h2;have hr:=zwK hT w none 0 0 (xB _) none (some (.int k 0)) 0 0 (.inl ⟨rfl,rfl⟩) (.inr ⟨k,rfl⟩) (by omega) (by omega) (by omega);exact ⟨_,w,γ,by simp only [execOp,ho,h1,h2,Option.map_none,qX,xO,hr];rfl,Tr.refl _ _ _ _,⟨rfl,.val _ rfl⟩,fun b hb=>by cases hb⟩
theorem zuo (z:Array Value) (n:Nat):Builtin.zeroCells z n=madeCells z (n*z.size):=rfl
theorem zEA {P:Program} {o:Oper} {α:Type} {r:Rp α} {x0:α} {k kn:IntKind} {n:Int} {xs:List α} {t tn e:TypeId} {x y:Operand} {bytes:Nat} (ℓ:Nat)
  (ho:o.op= .call ⟨.builtin .append,#[x,y],#[t,tn]⟩) (htn:P.underlying tn=some (.int kn)) (hT:ZeT P t e r bytes x0) (hb:Nat.blt 0 bytes=true) (hm:mkO bytes x0 n n=some xs):
  zv P o [(x,.lf (.val (.slice none 0 0))),(y,.lf (.int k n))] [] [] [ℓ] (.own r e ℓ [] xs) []:=by
 refine zL fun γ ev w hin _=>?_
 have h1:=zps (hin (x,.lf (.val (.slice none 0 0))) (by simp));have h2:=zes (hin (y,.lf (.int k n)) (by simp));simp only at h1 h2;unfold mkO at hm;split at hm
 case isFalse=>cases hm
 rename_i hh;obtain ⟨h0,_,hlim⟩:=hh;cases hm;obtain ⟨m,rfl⟩:∃m:Nat,n=m:=⟨n.toNat,by omega⟩;obtain ⟨i,z,hi',hz,hs,hby,hzs,hzo⟩:=hT.ex;have hbp:0<bytes:=qE (xU hb);have hL:(LIM:Int)=140737488355328:=rfl;have hlim':m*bytes<=140737488355328:=by
  grind
 have hmb:m<=m*bytes:=Nat.le_mul_of_pos_right _ hbp;rcases pq m with rfl| hpos
 ·refine ⟨.slice none 0 0,w,{γ with box:=fun q=>γ.box q},zdd (args:=[x,y]) (ts:=[t,tn]) ho rfl rfl rfl fun consts=>?_,⟨rfl,rfl,rfl,xB _,fun _ _ _=>rfl,fun _ _=>rfl,fun _ _=>rfl,fun b h1 h2=>absurd h2 (qJ.2 h1)⟩,⟨[],World.ownsRow_nil w 0 e r.size,(fun g hg=>nomatch hg),zR.nil,by simp⟩,fun b hb=>by cases hb⟩;have hw:i64.wrap 0=0:=rfl;simp [builtin,h1,h2,Builtin.append_,run_underlying hT.u,run_underlying htn,sizeOf,typeInfo,hi',asInt,asIntOf,hw]
 ·have hr:=Go.Lib.run_append_nil_zeros (P:=P) w t tn o.type e i z k kn hT.u htn hi' hz m hpos (by rw [hs];exact r.pos) (by omega) (by rw [hby];omega);have hge:=grownCap_ge w m 0 e;have hcm:grownCap w m 0 e<=maxLen:=grownCap_le_maxLen w m 0 e (by unfold maxLen;omega);have hnew:=yV w.drew (.cells (Builtin.zeroCells z.cells m++Builtin.zeroCells z.cells (grownCap w m 0 e - m)) e);have hzl:(Builtin.zeroCells z.cells m).toList.length=m*r.size:=by rw [yR,pw,hzs]
  refine ⟨.slice (some ⟨w.heap.size,0,none⟩) m (grownCap w m 0 e),w.drew.alloc (.cells (Builtin.zeroCells z.cells m++Builtin.zeroCells z.cells (grownCap w m 0 e - m)) e),zcp γ w.heap.size ℓ w.heap.size,
   zdd (args:=[x,y]) (ts:=[t,tn]) ho rfl rfl rfl fun consts=>by simp only [builtin,xM,qw,h1,h2,xO,hr];rfl,
   ⟨rfl,rfl,rfl,by simp,fun b hb _=>heap_alloc_old w.drew _ hb,fun b hb=>by simp [zcp,hb],fun k hk=>?_,fun b hb _ h=> .inr (by simp [zcp,Nat.not_lt.2 hb] at h;simp [h])⟩,⟨(Builtin.zeroCells z.cells m).toList,?_,fun g hg=>?_,?_,by simp⟩,fun b hb=>by cases hb⟩
  ·simp only [xC,xS,xT] at hk;simp [zcp,hk]
  ·rw [qW,xX];refine ⟨hzl,.inr ⟨w.heap.size,_,_,rfl,ya _,hnew,hge,hcm,?_,?_⟩⟩
   ·rw [Array.size_append,pw,pw,hzs,<-q9];congr 1;omega
   grind
  ·cases hg;simp [zcp]
  ·rw [xX];have:=ztt hzs hzo ((zcp γ w.heap.size ℓ w.heap.size).F []) (w.drew.alloc (.cells (Builtin.zeroCells z.cells m++Builtin.zeroCells z.cells (grownCap w m 0 e - m)) e)) m m (xB _);rw [yH (by rw [yR,qF];exact xB _)] at this;have e:(Builtin.zeroCells z.cells m).toList=(madeCells z.cells (m*r.size)).toList:=by rw [zuo,hzs]
   grind
theorem ztS {P:Program} (w:World) (t u ty e:TypeId) (i:TypeInfo) (ht:P.underlying t=some (.slice e)) (hu:P.underlying u=some .string) (hi:P.info? e=some i) (hz:i.zero=some (.int .u8 0)) (hsize:i.size=1) (hby:i.bytes=1)
  (v:Value) (n:Nat) (xs:List Value) (wk:w.ownsRow 0 e 1 v n xs) (s:ByteArray) (hb:n+s.size<=140737488355328):
  ∃v' w',(Builtin.append_ #[t,u] ty #[v,.string s]).run P w= .ok v' w'/\w'.ownsRow 0 e 1 v' (n+s.size) (xs++Go.Lib.strCells s)/\w.grownBy w' v.ownBlock/\(v'.ownBlock=v.ownBlock\/v'.ownBlock=some w.heap.size):=by
 obtain ⟨v',w',hr,ho,hg,hn⟩:=Go.Lib.run_append_own_string (P:=P) w 0 t u ty e i ht hu hi hz hsize hby v n xs wk s (by unfold maxLen;omega) hb (ya _);refine ⟨v',w',hr,ho,hg,?_⟩;have hxl:xs.length=n:=by simpa using wk.1
 rcases wk.2 with ⟨rfl,rfl⟩| ⟨g,cap,cur,rfl,hbg,hh,hnc,hcm,hcs,htake⟩
 ·by_cases h0:s.size=0
  ·grind
  ·right;have h1:=run_append_nil_string (P:=P) w t u ty e i (.int .u8 0) ht hu hi hz s (by omega) (by omega) (by rw [hby];omega);rw [h1] at hr;cases hr;rfl
 ·have hcs':cur.size=cap:=by simpa using hcs
  by_cases hroom:n+s.size<=cap
  ·left;have h1:=Go.Lib.run_append_room_string (P:=P) w t u ty e i ht hu hi hsize g n cap cur hh s hroom (by omega);rw [h1] at hr;cases hr;rfl
  ·right;have holds:∀j u,xs[j]? =some u->w.cell? ((⟨g,0,none⟩:Addr).add j)=some u:=wk.cells (g:=g) rfl;have h1:=Go.Lib.run_append_grow_string (P:=P) w t u ty e i (.int .u8 0) ht hu hi hz ⟨g,0,none⟩ n cap xs (by rw [hsize];simpa using hxl) holds s (by omega) (by omega) (by rw [hby];exact growslice_fits (by omega) (by omega));rw [h1] at hr;cases hr;rfl
structure ByT (P:Program) (t e:TypeId):Prop where
 u:P.underlying t=some (.slice e)
 ex:∃i,P.info? e=some i/\i.zero=some (.int .u8 0)/\i.size=1/\i.bytes=1
def byB (P:Program) (e:TypeId):Bool:=match P.info? e with
 | some i=>(match i.zero with
  | some (.int .u8 n)=>decide (n=0)
  | _=>false)&&Nat.beq i.size 1&&Nat.beq i.bytes 1
 | none=>false
theorem ByT.ofB (hu:P.underlying t=some (.slice e)) (h:byB P e=true):ByT P t e:=by
 unfold byB at h;split at h
 ·rename_i i hi;simp only [xA] at h;obtain ⟨⟨h1,h2⟩,h3⟩:=h;split at h1
  ·rename_i n hz;have:=yW h1;subst this;exact ⟨hu,i,hi,hz,xD h2,xD h3⟩
  ·cases h1
 ·cases h
theorem zEz {P:Program} {o:Oper} {xs l zs:List UInt8} {C:List Nat} {a:AV} {t u e:TypeId} {x y:Operand} (ℓ:Nat)
  (ho:o.op= .call ⟨.builtin .append,#[x,y],#[t,u]⟩) (hu:P.underlying u=some .string) (hT:ByT P t e) (hx:zAi Rp.byte e ℓ C xs a) (hz:app 1 xs l=some zs):
  zv P o [(x,a),(y,.lf (.str l))] [] [ℓ] [ℓ] (.own Rp.byte e ℓ [] zs) []:=by
 refine zL fun γ ev w hin _=>?_
 obtain ⟨cs,wk,hg,hA,hnot⟩:=hx γ w _ (hin (x,a) (by simp));have h2:=zpr (hin (y,.lf (.str l)) (by simp));simp only at wk hg h2;obtain ⟨hlim,rfl⟩:=zxj hz;obtain ⟨i,hi,hz',hs,hby⟩:=hT.ex;have hsl:(⟨l.toArray⟩:ByteArray).size=l.length:=by simp [ByteArray.size]
 have hown1:w.ownsRow 0 e 1 (ev x) xs.length cs:=wk;obtain ⟨v',w',hr,ho',hgr,hbk⟩:=ztS w t u o.type e i hT.u hu hi hz' hs hby (ev x) xs.length cs hown1 ⟨l.toArray⟩ (by rw [hsl];omega);rw [hsl] at ho';obtain ⟨γ',ht,hg'⟩:=zDI hown1 hg hgr hbk;refine ⟨v',w',γ',?_,ht,⟨cs++Go.Lib.strCells ⟨l.toArray⟩,by rw [xG];exact ho',hg',?_,by simp⟩,fun b hb=>by cases hb⟩
 ·refine zdd (args:=[x,y]) (ts:=[t,u]) ho rfl rfl rfl fun consts=>?_
  simp [builtin,h2,hr]
 ·rw [qt];refine (hA.plain (zcm.flat xs)).append ?_;rw [zqT];refine ⟨by simp [Go.Lib.strCells],fun i l' v h1 h3=>?_⟩;simp only [yK,Option.map_eq_some_iff] at h1;obtain ⟨c,hc,rfl⟩:=h1;have:v= .int .u8 c.toNat:=by
   simp only [Go.Lib.strCells,yK] at h3
   grind
  rw [this];exact .int .u8 _
theorem zrf {P:Program} {o:Oper} {α:Type} {r:Rp α} {D:List Nat} {x:α} {t:TypeId} {y:Operand} {off:Nat} (l:LV)
  (ho:o.op= .load t y) (hT:zdE P t=true) (hs:(r.lv x)[off]? =some l) (hp:l.plain=true):zv P o [(y,.ep r D x off)] [] [] [] (.lf l) []:=by
 refine zL fun γ ev w hi _=>?_
 obtain ⟨b,o',cs,hv,hF,hb,hA,hc⟩:=hi (y,.ep r D x off) (by simp);simp only at hv;have wa:off<cs.length:=by rw [<-hA.1];exact (yk.1 hs).1
 have hr:=hA.2 off _ _ hs (xQ wa);have hcell:=hc off wa;rw [xQ wa] at hcell;exact ⟨_,w,γ,by simp [execOp,ho,hv,zhU hT hcell],Tr.refl _ _ _ _,⟨hp,hr.plain hp⟩,fun b hb=>by cases hb⟩
theorem zv.withBx (h:zv P o ins bxs W V av bs) (b:Bx) (hW:memN b.lab W=false) (hV:memN b.lab V=false):
  zv P o ins (b::bxs) (b.lab::W) V av (⟨b.lab,b.typ,b.avs.map (AV.clear W V)⟩::bs):=by
 intro γ a w hi hb next Q hk;refine h γ a w hi (fun c hc=>hb c (xz _ hc)) next Q fun γ' w' v t hv hbs=>hk γ' w' v ?_ hv fun c hc=>?_
 ·exact ⟨t.os,t.tape,t.output,t.size,fun b' hb' hn=>t.block b' hb' (fun hm=>hn (xz _ hm)),t.col,t.box,fun b' h1 h2 h0=>(t.fresh b' h1 h2 h0).imp (xz _) id⟩
 ·rcases xC.1 hc with rfl| hc
  ·obtain ⟨wj,cs,hh,hL,hone⟩:=hb b xy;have nW:b.lab∉W:=fun hm=>by rw [zas.2 hm] at hW;cases hW
   have nV:b.lab∉V:=fun hm=>by rw [zas.2 hm] at hV;cases hV
   have vY:γ.box b.lab<w.heap.size:=(yv.1 hh).1;have hbx:γ'.box b.lab=γ.box b.lab:=t.box _ nV;refine ⟨?_,cs,?_,zks hL t,hone⟩
   ·simp only;rw [hbx,t.col _ vY,wj]
   ·simp only;rw [hbx,t.block _ vY (by rw [wj];exact nW)];exact hh
  ·exact hbs c hc
theorem zFC {a b c:AV} (h:a.le b) (k:b.le c):a.le c:=fun γ w v hv=>k γ w v (h γ w v hv)
theorem zmD {α:Type} (r:Rp α) (C:List Nat) (x:α) (l:List AV) (h:zfE l=some (r.lv x)) (hC:subN (AV.colsL l) C=true):AV.le (.ag l) (.rc r C x):=fun _ _ _ ⟨vs,hv,hL,_⟩=>
 ⟨vs,hv,zhC h hL (zal hC)⟩
theorem zEv {α:Type} (r:Rp α) (C:List Nat) (x:α) (l:List AV) (h:zfE l=some (r.lv x)) (hC:l.all (zpa C)=true):AV.le (.rc r C x) (.ag l):=fun _ _ _ ⟨vs,hv,hA⟩=>
 ⟨vs,hv,ziD h hA hC,hA.one⟩
theorem zCK (h:leL l m):AV.le (.ag l) (.ag m):=fun _ _ _ ⟨vs,hv,hL,h1⟩=>⟨vs,hv,zqi h hL,h1⟩
def zCc:AV->Option (List AV)
 | .ag l=>some l
 | a=>match zmE a with
  | true=>some [a]
  | false=>none
theorem zzc (h:zCc a=some l) (hr:a.rel γ w v):AV.relL γ w l v.cells.toList/\∀u∈v.cells.toList,u.oneCell'=true:=by
 have one:zmE a=true->a.rel γ w v->AV.relL γ w [a] v.cells.toList/\∀u∈v.cells.toList,u.oneCell'=true:=fun h1 h2=>by
  obtain ⟨g1,g2⟩:=zqk h1 h2;rw [g2];exact ⟨⟨v,[],rfl,h2,rfl⟩,fun u hu=>by simp at hu;subst hu;exact g1⟩
 cases a with
 | ag m=>cases h;obtain ⟨vs,rfl,hL,h1⟩:=hr;exact ⟨hL,h1⟩
 | any=>cases h
 | lf l=>cases h;exact one rfl hr
 | sl r C xs=>cases h;exact one rfl hr
 | own r e ℓ C xs=>cases h;exact one rfl hr
 | rc=>cases h
 | ep r C x off=>cases h;exact one rfl hr
 | ptr ℓ off=>cases h;exact one rfl hr
 | bs ℓ n=>cases h;exact one rfl hr
 | tl=>cases h
 | qp r C o=>cases h;exact one rfl hr
 | em rk rv C m=>cases h;exact one rfl hr
 | mo=>cases h
 | cu c ℓ C1 C2=>cases h;exact one rfl hr
 | mp rk rv C m=>cases h;exact one rfl hr
 | om rk rv ℓ C m=>cases h;exact one rfl hr
 | tup=>cases h
 | fv g l=>cases h;exact one rfl hr
 | bp=>cases h
 | it=>cases h
def setA (cs:List AV) (off:Nat) (l:List AV):List AV:=cs.take off++l++cs.drop (off+l.length)
def zxA (place:Nat->Option (Nat×Nat)) (cs:List AV):List (Nat×Operand)->List AV->Option (List AV)
 | [],[]=>some cs
 | (i,_)::ps,a::as=>match zCc a,place i with
  | some l,some (off,size)=>match Nat.beq l.length size&&Nat.ble (off+l.length) cs.length with
   | true=>zxA place (setA cs off l) ps as
   | false=>none
  | _,_=>none
 | _,_=>none
theorem zva {γ:Gh} {w:World} {ev:Operand->Value} {place:Nat->Option (Nat×Nat)}:∀(ps:List (Nat×Operand)) (as cs:List AV) (cells:Array Value) (out:List AV),zxA place cs ps as=some out->
  AV.relL γ w cs cells.toList->(∀u∈cells.toList,u.oneCell'=true)->(∀p∈(ps.map (·.2)).zip as,p.2.rel γ w (ev p.1))->
  ∃cells',Instr.fill place cells (ps.map fun p=>(p.1,ev p.2))=some cells'/\AV.relL γ w out cells'.toList/\∀u∈cells'.toList,u.oneCell'=true
 | [],[],cs,cells,out,h,hA,h1,_=>by cases h;exact ⟨cells,rfl,hA,h1⟩
 | (i,x)::ps,a::as,cs,cells,out,h,hA,h1,hp=>by
  rw [zxA] at h;split at h
  ·rename_i l off size hl hpl;split at h
   ·rename_i hb;simp only [xA] at hb;have e1:=xD hb.1;have e2:=xU hb.2;obtain ⟨g1,g2⟩:=zzc hl (hp (x,a) (by simp));have hvl:(ev x).cells.toList.length=l.length:=zcq g1;have hcl:cells.size=cs.length:=by rw [<-yR];exact zcq hA
    have hset:=zte off (ev x).cells.toList 0 cells (by simp at hvl|-;omega);simp only [yw] at hset;have hA2:AV.relL γ w (setA cs off l) ((ev x).cells.toList.zipIdx.foldl (fun (cs:Array Value) (p:Value×Nat)=>cs.setIfInBounds (off+p.2) p.1) cells).toList:=by
     rw [hset];unfold setA;rw [hvl];exact zhz (zhz (zmg _ _ _ hA) g1) (zmf _ _ _ hA)
    have h1':∀u∈((ev x).cells.toList.zipIdx.foldl (fun (cs:Array Value) (p:Value×Nat)=>cs.setIfInBounds (off+p.2) p.1) cells).toList,u.oneCell'=true:=by
     grind
    obtain ⟨cells',hf,hr,hr1⟩:=zva ps as _ _ out h hA2 h1' (fun p hp'=>hp p (by simp [hp']));refine ⟨cells',?_,hr,hr1⟩;rw [xM,Instr.fill,hpl];simp only;rw [xw (by simp at hvl|-;omega)];rw [<-hf];congr 1;rw [<-Array.foldl_toList];simp
   ·cases h
  ·cases h
 | [],_::_,_,_,_,h,_,_,_=>by cases h
 | _::_,[],_,_,_,h,_,_,_=>by cases h
structure StA (P:Program) (t:TypeId) (places:List (Nat×Nat)) (zs:List AV):Prop where
 ex:∃fs z,P.underlying t=some (.struct fs)/\(∀w,(zeroValue t).run P w= .ok z w)/\(∀w,(fs.mapM (m:=Sem) fun (f:Field)=>do pure (f.offset,<-sizeOf f.type)).run P w= .ok places.toArray w)/\zvV zs z.cells.toList=true
def staB (P:Program) (t:TypeId) (fs:Array Field) (places:List (Nat×Nat)) (zs:List AV):Bool:=ztW P fs.toList places&&match P.info? t with
 | some i=>match i.zero with
  | some z=>zvV zs z.cells.toList
  | none=>false
 | none=>false
theorem StA.ofB (hu:P.underlying t=some (.struct fs)) (h:staB P t fs places zs=true):StA P t places zs:=by
 simp only [staB,xA] at h;obtain ⟨h1,h2⟩:=h;split at h2
 ·rename_i i hi;split at h2
  ·rename_i z hz;refine ⟨fs,z,hu,fun w=>by simp [zeroValue,typeInfo,hi,hz],fun w=>?_,h2⟩;have:=zpK fs.toList places h1 w;rw [<-qr (xs:=fs),pl,Sem.run_map];rw [this];rfl
  ·cases h2
 ·cases h2
theorem zjJ {P:Program} {o:Oper} {t:TypeId} {wo:List (Nat×Operand)} {places:List (Nat×Nat)} {zs:List AV} (as l:List AV)
  (ho:o.op= .build t wo.toArray) (hT:StA P t places zs) (hf:zxA (fun i=>places[i]?) zs wo as=some l):
  zv P o ((wo.map (·.2)).zip as) [] [] [] (.ag l) []:=by
 refine zL fun γ ev w hi _=>?_
 obtain ⟨fs,z,hu,hz,hpl,hzo⟩:=hT.ex;obtain ⟨z1,z2⟩:=zvW hzo γ w;obtain ⟨cells',hfill,hA,h1⟩:=zva (γ:=γ) (w:=w) (ev:=ev) wo as zs z.cells _ hf z1 z2 hi;have hfill':Instr.fill (fun i=>places.toArray[i]?) z.cells (wo.map fun p=>(p.1,ev p.2))=some cells':=by
  simp_all
 refine ⟨.agg cells',w,γ,?_,Tr.refl _ _ _ _,⟨cells'.toList,by simp,hA,h1⟩,fun b hb=>by cases hb⟩;simp only [execOp,ho,Instr.build,xO,hz,yL hu,xR,hpl,qT];have e:(List.map (fun (x:Nat×Operand)=>(x.1,ev x.2)) wo)=wo.map fun p=>(p.1,ev p.2):=rfl
 simp only [hfill',yf,xR]
theorem zEB (ℓ:Nat) (ho:o.op= .box t x) (hf:AV.free [] [ℓ] (.ag l)=true):zv P o [(x,.ag l)] [] [] [ℓ] (.ptr ℓ 0) [⟨ℓ,t,l⟩]:=by
 refine zL fun γ ev w hi _=>?_
 have h0:=hi (x,.ag l) (by simp);obtain ⟨f1,f2⟩:=AV.free_spec hf;have h0':=(AV.ag l).keep (zpM γ w ℓ (.cells (ev x).cells t)) f1 f2 h0;obtain ⟨vs,hv,_,_⟩:=h0;obtain ⟨vs',hv',hL,h1⟩:=h0';simp only at hv hv';refine ⟨.pointer (some ⟨w.heap.size,0,none⟩),w.alloc (.cells (ev x).cells t),_,?_,zpM γ w ℓ _,?_,fun b hb=>?_⟩
 ·simp [execOp,ho,Instr.box,newVar,newRow]
 ·show _=_;rw [zeA]
 ·simp only [xC,xS,xT] at hb;subst hb;refine ⟨by rw [zeA,zjG],vs',?_,hL,h1⟩;rw [zeA];have:(ev x).cells=vs'.toArray:=by rw [hv'];rfl
  rw [this];exact yV w _
theorem zAt (m:List AV) (ho:o.op= .load t y) (hT:AggT P t n) (hs:(b.avs.drop off).take n=m) (hn:Nat.beq m.length n=true):
  zv P o [(y,.ptr b.lab off)] [b] [] [] (.ag m) []:=by
 refine zL fun γ ev w hi hb=>?_
 have h1:ev y=_:=hi (y,.ptr b.lab off) (by simp);obtain ⟨wj,cs,hh,hL,hone⟩:=hb b (by simp);subst hs;have hL':=zmg _ _ n (zmf _ _ off hL);have wa:((cs.drop off).take n).length=n:=by rw [zcq hL'];exact xD hn
 have hl:=zgi hT (w:=w) (b:=γ.box b.lab) (o:=off) (cs:=(cs.drop off).take n) wa fun i hi=>by
  rw [wa] at hi;rw [yQ w _ _ _ _ _ hh,yI,xx hi,qe];simp
 exact ⟨_,w,γ,by simp [execOp,ho,h1,Instr.loadAt,Instr.sureAddr,hl],Tr.refl _ _ _ _,⟨_,rfl,hL',fun u hu=>hone u (List.mem_of_mem_drop (List.mem_of_mem_take hu))⟩,fun b hb=>by cases hb⟩
theorem zEE (l:List AV) (ho:o.op= .store t y z) (we:∀w,(sizeOf t).run P w= .ok n w) (hn:Nat.beq l.length n=true)
  (hoff:Nat.ble (off+n) b.avs.length=true) (hf:AV.free [b.lab] [] (.ag l)=true):
  zv P o [(y,.ptr b.lab off),(z,.ag l)] [b] [b.lab] [] .any [⟨b.lab,b.typ,(b.avs.map (AV.clear [b.lab] [])).take off++l++(b.avs.map (AV.clear [b.lab] [])).drop (off+n)⟩]:=by
 intro γ av w hi hb next Q hk;have h1:av.eval y=_:=hi (y,.ptr b.lab off) (by simp);have h0:=hi (z,.ag l) (by simp);obtain ⟨us,hv,hA,hA1⟩:=h0;simp only at hv;obtain ⟨wj,cs,hh,hL,hone⟩:=hb b (by simp);have hus:us.length=n:=by rw [zcq hA];exact xD hn
 have hoff':off+n<=cs.length:=by rw [zcq hL];exact xU hoff
 have hst:=qG P (γ.box b.lab) off b.typ us 0 cs.toArray w hh (by simp;omega) hA1;simp only [yw,hus] at hst;have hrun:(execOp av.eval o).run P w= .ok .skip (w.setRow (γ.box b.lab) (cs.take off++us++cs.drop (off+n)).toArray):=by
  simp [execOp,ho,h1,hv,Instr.storeAt,Instr.sureAddr,storeVar,we,Value.cells,hus,hst]
 unfold Oper.wp;rw [hrun,pp];have ht:=zue (w:=w) wj (cs.take off++us++cs.drop (off+n)).toArray;obtain ⟨f1,f2⟩:=AV.free_spec hf;obtain ⟨us',hv',hA',_⟩:=(AV.ag l).keep ht f1 f2 (show AV.rel γ w (.ag l) (av.eval z) from ⟨us,hv,hA,hA1⟩);have eu:us'=us:=by rw [hv] at hv';simpa using hv'.symm
 subst eu;have hL':=zks hL ht;refine hk γ _ undef ht trivial fun b' hb'=>?_
 simp only [xC,xS,xT] at hb';subst hb';refine ⟨wj,cs.take off++us'++cs.drop (off+n),qH w _ _ _ _ _ hh,zhz (zhz (zmg _ _ _ hL') hA') (zmf _ _ _ hL'),fun u hu=>?_⟩;simp only [xE] at hu;rcases hu with (h| h)| h
 ·grind
 ·exact hA1 u h
 ·grind
theorem zaI.regh {γ γ':Gh} {w:World} {C:List Nat} (h:∀b,b<w.heap.size->γ.col b∈C->γ'.col b=γ.col b) {l:LV} {v:Value} (hr:zaI (γ.F C) w l v):zaI (γ'.F C) w l v:=
 hr.mono fun b hl hb=>by show γ'.col b∈C;rw [h b hl hb];exact hb
theorem zR.regh {γ γ':Gh} {w:World} {C:List Nat} (h:∀b,b<w.heap.size->γ.col b∈C->γ'.col b=γ.col b) {ls:List LV} {cs:List Value} (hr:zR (γ.F C) w ls cs):zR (γ'.F C) w ls cs:=
 hr.mono fun b hl hb=>by show γ'.col b∈C;rw [h b hl hb];exact hb
mutual
theorem AV.regh {γ γ':Gh} {w:World} (a:AV) {v:Value} (h:∀b,b<w.heap.size->γ.col b∈a.cols->γ'.col b=γ.col b) (hb:∀ℓ∈a.labs,γ'.box ℓ=γ.box ℓ) (hr:a.rel γ w v):a.rel γ' w v:=by
 match a with
 | .any=>trivial
 | .lf l=>exact hr
 | .sl r C xs=>exact zaI.regh h hr
 | .own r e ℓ C xs=>
  obtain ⟨cs,ho,hg,hA,hn⟩:=hr;refine ⟨cs,ho,fun g hgb=>?_,hA.regh (fun b hl hc=>h b hl (xz _ hc)),hn⟩;obtain ⟨g1,g2⟩:=hg g hgb;exact ⟨(h g (ho.lt g hgb).2 (by rw [g1];exact xy)).trans g1,(hb ℓ xy).trans g2⟩
 | .rc r C x=>obtain ⟨cs,hv,hA⟩:=hr;exact ⟨cs,hv,hA.regh h⟩
 | .ep r C x off=>
  obtain ⟨b,o,cs,hv,hF,vY,hA,hcell⟩:=hr;exact ⟨b,o,cs,hv,by rw [h b vY hF];exact hF,vY,hA.regh h,hcell⟩
 | .ptr ℓ off=>show v=_;rw [hb ℓ xy];exact hr
 | .bs ℓ n=>show v=_;rw [hb ℓ xy];exact hr
 | .tl ℓ off n=>obtain ⟨A,c,hv,hA⟩:=hr;exact ⟨A,c,hv,fun hn=>by rw [hb ℓ xy];exact hA hn⟩
 | .qp r C none=>exact hr
 | .qp r C (some x)=>
  obtain ⟨b,cs,hv,hF,vY,hA,hcell⟩:=hr;exact ⟨b,cs,hv,by rw [h b vY hF];exact hF,vY,hA.regh h,hcell⟩
 | .mp rk rv C m=>
  obtain ⟨b,es,cl,hv,hF,vY,hh,hE⟩:=hr;exact ⟨b,es,cl,hv,by rw [h b vY hF];exact hF,vY,hh,hE.mono fun b hl hc=>by show γ'.col b∈C;rw [h b hl hc];exact hc⟩
 | .em rk rv C m=>
  obtain ⟨a,b,es,cl,hv,hFa,ha,hc1,hF,vY,hh,hE⟩:=hr;exact ⟨a,b,es,cl,hv,by rw [h a ha hFa];exact hFa,ha,hc1,by rw [h b vY hF];exact hF,vY,hh,hE.mono fun b hl hc=>by show γ'.col b∈C;rw [h b hl hc];exact hc⟩
 | .om rk rv ℓ C m=>
  obtain ⟨b,es,cl,hv,⟨g1,g2⟩,vY,hh,hE,hn⟩:=hr;exact ⟨b,es,cl,hv,⟨(h b vY (by rw [g1];exact xy)).trans g1,(hb ℓ xy).trans g2⟩,vY,hh,hE.mono (fun b hl hc=>by show γ'.col b∈C;rw [h b hl (xz _ hc)];exact hc),hn⟩
 | @AV.mo _ _ _ rk r e ℓ C m=>
  obtain ⟨b,n,hv,hm⟩:=hr;exact ⟨b,n,hv,hm.regh (fun b hl hc=>(h b hl (by rw [hc];exact xy)).trans hc) (fun b hl hc=>by rw [h b hl (xz _ hc)];exact hc) (hb ℓ xy) hm.off⟩
 | .cu c ℓ C1 C2=>
  refine c.move (xB _) (fun _ _ _=>rfl) (fun b hl e=>(h b hl (by rw [e];exact xy)).trans e) (fun b hl hc=>?_) (fun b hl hc=>?_) (hb ℓ xy) hr
  ·show γ'.col b∈C1;rw [h b hl (xz _ (yl _ hc))];exact hc
  ·show γ'.col b∈C2;rw [h b hl (xz _ (yc _ hc))];exact hc
 | .tup l=>obtain ⟨vs,hv,hL⟩:=hr;exact ⟨vs,hv,AV.reghL l h hb hL⟩
 | .ag l=>obtain ⟨vs,hv,hL,h1⟩:=hr;exact ⟨vs,hv,AV.reghL l h hb hL,h1⟩
 | .fv g l=>obtain ⟨vs,hv,hL⟩:=hr;exact ⟨vs,hv,AV.reghL l h hb hL⟩
 | .bp r t ℓ C x=>
  obtain ⟨b,cs,hv,⟨g1,g2⟩,vY,hh,h1,hA⟩:=hr;exact ⟨b,cs,hv,⟨(h b vY (by rw [g1];exact xy)).trans g1,(hb ℓ xy).trans g2⟩,vY,hh,h1,hA.regh (fun b hl hc=>h b hl (xz _ hc))⟩
 | .it rk rv ℓ C last left=>
  obtain ⟨r,b,hv,⟨g1,g2⟩,hr',hF,vY,⟨es,cl,seen,since,c0,ls,la,i1,i2,i3,i4,i5,i6,i7,i8,i9,i10⟩,hn⟩:=hr;have key:∀b,b<w.heap.size->γ.F C b->γ'.F C b:=fun b hl hc=>by show γ'.col b∈C;rw [h b hl (xz _ hc)];exact hc
  exact ⟨r,b,hv,⟨(h r hr' (by rw [g1];exact xy)).trans g1,(hb ℓ xy).trans g2⟩,hr',key b vY hF,vY,
   ⟨es,cl,seen,since,c0,ls,la,i1,i2,i3,i4,i5,i6,i7,i8.mono key,i9.mono key,i10⟩,hn⟩
theorem AV.reghL (l:List AV) (h:∀b,b<w.heap.size->γ.col b∈AV.colsL l->γ'.col b=γ.col b) (hb:∀ℓ∈AV.labsL l,γ'.box ℓ=γ.box ℓ) (hr:AV.relL γ w l vs):AV.relL γ' w l vs:=by
 match l with
 | []=>exact hr
 | a::l=>
  obtain ⟨v,vs',rfl,h1,h2⟩:=hr
  exact ⟨v,vs',rfl,AV.regh a (fun b hl hc=>h b hl (yl _ hc)) (fun c hc=>hb c (yl _ hc)) h1,
   AV.reghL l (fun b hl hc=>h b hl (yc _ hc)) (fun c hc=>hb c (yc _ hc)) h2⟩
end
structure Lets (own:Nat->Prop) (A B:World):Prop where
 os:B.os=A.os
 tape:B.tape=A.tape
 output:B.output=A.output
 size:A.heap.size<=B.heap.size
 block:∀b,b<A.heap.size->¬own b->B.heap[b]? =A.heap[b]?
structure zHr (K:Nat->Prop) (A B:World):Prop where
 os:B.os=A.os
 tape:B.tape=A.tape
 output:B.output=A.output
 size:A.heap.size<=B.heap.size
 block:∀b,b<A.heap.size->K b->B.heap[b]? =A.heap[b]?
structure ItG (F:Fp) (own:Nat->Prop) (γ:Gh) (w:World):Prop where
 zero:∀b,b<w.heap.size->γ.col b=0->F b
 mine:∀b,b<w.heap.size->2<=γ.col b->own b
 lt:∀b,own b->b<w.heap.size
def zoC (γ:Gh) (n:Nat):Gh:=⟨fun b=>if b<n then γ.col b else 1,γ.box⟩
section
end
inductive zpi:Nat->List AV->List (Nat×AV)->List Bx->Prop
 | nil (n:Nat):zpi n [] [] []
 | cons {α:Type} {n:Nat} (r:Rp α) (t:TypeId) (ℓ:Nat) (C:List Nat) (x:α) (avs:List AV) {cs:List AV} {sl:List (Nat×AV)} {bx:List Bx} (h1:zfE avs=some (r.lv x)) (h2:avs.all (zpa C)=true)
   (h:zpi (n+1) cs sl bx):zpi n (.bp r t ℓ C x::cs) ((n,.ptr ℓ 0)::sl) (⟨ℓ,t,avs⟩::bx)
 | ep {α:Type} {n:Nat} (r:Rp α) (C:List Nat) (x:α) {cs:List AV} {sl:List (Nat×AV)} {bx:List Bx} (h:zpi (n+1) cs sl bx):zpi n (.ep r C x 0::cs) ((n,.ep r C x 0)::sl) bx
theorem zpi.rel (h:zpi n cs sl bx) :∀{vs:List Value} (pre post:List Value),pre.length=n->AV.relL γ w cs vs->
  (∀p∈sl,p.2.rel γ w ((pre++vs++post).toArray.getD p.1 undef))/\Bxs γ w bx:=by
 induction h with
 | nil n=>intro vs pre post _ _;exact ⟨(fun p hp=>by cases hp),(fun b hb=>by cases hb)⟩
 | cons r t ℓ C x avs h1 h2 h ih=>
  intro vs pre post hn hr;obtain ⟨v,vs',rfl,⟨b,cells,hv,⟨g1,g2⟩,vY,hh,hone,hA⟩,hr'⟩:=hr;obtain ⟨k1,k2⟩:=ih (vs:=vs') (pre++[v]) post (by simp [hn]) hr';refine ⟨fun p hp=>?_,fun c hc=>?_⟩
  ·rcases xC.1 hp with rfl| hp
   ·show ((pre++v::vs'++post).toArray.getD _ undef)=_;simp_all
   grind
  ·rcases xC.1 hc with rfl| hc
   ·refine ⟨by rw [g2];exact g1,cells.toList,?_,ziD h1 hA h2,hone⟩;simp_all
   ·exact k2 c hc
 | ep r C x h ih=>
  intro vs pre post hn hr;obtain ⟨v,vs',rfl,hv,hr'⟩:=hr;obtain ⟨k1,k2⟩:=ih (vs:=vs') (pre++[v]) post (by simp [hn]) hr';simp_all
def Two (X:Ext) (ds:List Deferred) (Z:Nat->Prop) (γ:Gh) (W:World):Prop:=
 ∃γx:Gh,X.X γx W/\zpR X.base γx W ds/\γx.box=γ.box/\(∀b,Z b->γx.col b=2/\γ.col b=1)/\(∀b,¬Z b->γ.col b=γx.col b)/\∀b,Z b->b<W.heap.size
section
variable {X:Ext} {ds:List Deferred} {Z:Nat->Prop} {γ γ':Gh} {W W':World}
theorem Two.tr (h:Two X ds Z γ W) (t:Tr Ws V γ W γ' W') (hW:∀c∈Ws,2<=c) (hV:∀c∈V,2<=c):Two X ds Z γ' W':=by
 obtain ⟨γx,hX,hm,hbx,hZ,hn,vY⟩:=h
 classical
 have ht:Tr Ws V γx W ⟨fun b=>if Z b then 2 else γ'.col b,γ'.box⟩ W':=by
  refine ⟨t.os,t.tape,t.output,t.size,fun b hb hc=>?_,fun b hb=>?_,fun ℓ hℓ=>?_,fun b h1 h2 h0=>?_⟩
  ·by_cases hz:Z b
   ·exact t.block b hb (by rw [(hZ b hz).2];intro h;have:=hW _ h;omega)
   ·exact t.block b hb (by rw [hn b hz];exact hc)
  ·by_cases hz:Z b
   ·grind
   ·simp [hz,t.col b hb,hn b hz]
  ·rw [hbx];exact t.box ℓ hℓ
  ·have hz:¬Z b:=fun hz=>by have:=vY b hz;omega
   simp [hz] at h0;exact t.fresh b h1 h2 h0
 refine ⟨_,X.tr hX ht hW hV,hm.tr ht hW,rfl,fun b hz=>⟨by simp [hz],?_⟩,fun b hz=>by simp [hz],fun b hz=>yi (vY b hz) t.size⟩;rw [t.col b (vY b hz)];exact (hZ b hz).2
theorem Two.ren (h:Two X ds Z γ W) (k:zuR γ γ'):Two X ds Z γ' W:=by
 obtain ⟨γx,hX,hm,hbx,hZ,hn,vY⟩:=h
 classical
 have ha:zuR γx ⟨fun b=>if Z b then 2 else γ'.col b,γ'.box⟩:=by
  refine ⟨fun b hb=>?_,fun b hb=>?_,fun b hb=>?_,fun b hb=>?_⟩
  ·have hz:¬Z b:=fun hz=>by have:=(hZ b hz).1;omega
   simp [hz];exact k.zero b (by rw [hn b hz];exact hb)
  ·have hz:¬Z b:=fun hz=>by have:=(hZ b hz).1;omega
   simp [hz];exact k.one b (by rw [hn b hz];exact hb)
  ·by_cases hz:Z b
   ·simp [hz] at hb
   ·simp [hz] at hb;rw [<-hn b hz];exact k.back b hb
  ·have hz:¬Z b:=fun hz=>by rw [(hZ b hz).1] at hb;cases hb
   have:=k.old b (by rw [hn b hz];exact hb)
   grind
 exact ⟨_,X.ren hX ha,hm.ren ha,rfl,fun b hz=>⟨by simp [hz],k.one b (hZ b hz).2⟩,fun b hz=>by simp [hz],vY⟩
theorem Two.lets (h:Two X ds Z γ W) (t:Lets Z W W'):Two X ds (fun b=>Z b\/(W.heap.size<=b/\b<W'.heap.size)) (zoC γ W.heap.size) W':=by
 obtain ⟨γx,hX,hm,hbx,hZ,hn,vY⟩:=h;have ht:Tr [2] [] γx W ⟨fun b=>if b<W.heap.size then γx.col b else if b<W'.heap.size then 2 else 1,γx.box⟩ W':=by
  refine ⟨t.os,t.tape,t.output,t.size,fun b hb hc=>t.block b hb (fun hz=>hc (by rw [(hZ b hz).1];exact xy)),fun b hb=>by simp [hb],fun ℓ _=>rfl,fun b h1 h2 h0=>?_⟩
  grind
 have hW:∀c∈[2],2<=c:=fun c hc=>by simp at hc;omega
 refine ⟨_,X.tr hX ht hW (fun c hc=>by cases hc),hm.tr ht hW,hbx,fun b hz=>?_,fun b hz=>?_,fun b hz=>?_⟩
 ·rcases hz with hz| ⟨h1,h2⟩
  ·simp [zoC,vY b hz];exact hZ b hz
  ·simp [zoC,Nat.not_lt.2 h1,h2]
 ·by_cases hb:b<W.heap.size
  ·simp [zoC,hb];exact hn b fun h=>hz (.inl h)
  ·have h2:¬b<W'.heap.size:=fun h=>hz (.inr ⟨qA hb,h⟩)
   simp [zoC,hb,h2]
 ·rcases hz with hz| ⟨_,h2⟩
  ·exact yi (vY b hz) t.size
  ·exact h2
theorem Two.out (h:Two X ds Z γ W):X.X γ W/\zpR X.base γ W ds:=by
 obtain ⟨γx,hX,hm,hbx,hZ,hn,vY⟩:=h;have ha:zuR γx γ:=by
  refine ⟨fun b hb=>?_,fun b hb=>?_,fun b hb=>?_,fun b hb=>?_⟩
  ·grind
  ·grind
  ·grind
  ·have hz:¬Z b:=fun hz=>by rw [(hZ b hz).1] at hb;cases hb
   exact hn b hz
 exact ⟨X.ren hX ha,hm.ren ha⟩
end
def Zof (own:Nat->Prop) (l D:Nat):Nat->Prop:=fun b=>own b\/b=l\/b=D
theorem Two.congr (h:Two X ds Z γ W) (e:∀b,Z b↔Z' b):Two X ds Z' γ W:=by
 have:Z=Z':=funext fun b=>propext (e b)
 grind
def lpOf {σ ρ:Type} (rec:LoopState->Option Code->Loop) (cd:ρ->Code):σ⊕ρ->Loop
 | .inl _=>rec .ready none
 | .inr r=>rec .done (some (cd r))
def bxOf {σ ρ:Type} (Bs:σ->List Bx) (Br:ρ->List Bx):σ⊕ρ->List Bx
 | .inl s=>Bs s
 | .inr r=>Br r
structure CI {σ ρ:Type} (X:Ext) (ds:List Deferred) (F:Fp) (l D:Nat) (rec:LoopState->Option Code->Loop) (old:Array Value) (slE:List (Nat×AV)) (Bs:σ->List Bx) (Br:ρ->List Bx) (cd:ρ->Code) (st:σ⊕ρ) (own:Nat->Prop) (W:World) (γ:Gh):Prop where
 two:Two X ds (Zof own l D) γ W
 data:∀b,F b->γ.col b=0/\b<W.heap.size
 nl:¬own l
 nD:¬own D
 blk:W.heap[D]? =some (.deferred (some []))
 sl:∀p∈slE,p.2.rel γ W (old.getD p.1 undef)
 bx:Bxs γ W (bxOf Bs Br st)
 lp:W.heap[l]? =some (.loop (lpOf rec cd st))
theorem Lets.put (hl:Z l) (o:Obj):Lets Z W (W.putObj l o):=
 ⟨rfl,rfl,rfl,by simp,fun b _ hb=>World.putObj_heap_other fun e=>hb (e▸hl)⟩
theorem Two.put (h:Two X ds Z γ W) (hl:Z l) (o:Obj):Two X ds Z (zoC γ W.heap.size) (W.putObj l o):=
 (h.lets (Lets.put hl o)).congr fun b=>⟨fun h=>h.elim id fun ⟨h1,h2⟩=>by simp at h2;omega,.inl⟩
theorem Two.one (h:Two X ds Z γ W):∀b,Z b->γ.col b=1:=fun b hb=>by
 obtain ⟨γx,_,_,_,hZ,_⟩:=h
 grind
theorem Two.lt (h:Two X ds Z γ W):∀b,Z b->b<W.heap.size:=fun b hb=>by
 obtain ⟨γx,_,_,_,_,_,hl⟩:=h;exact hl b hb
section
end
abbrev kI (x:Int):AV:= .lf (.int .i64 x)
abbrev kU (x:Int):AV:= .lf (.int .u64 x)
abbrev k8 (x:Int):AV:= .lf (.int .u8 x)
abbrev kB (x:Bool):AV:= .lf (.bool x)
abbrev kS (x:List UInt8):AV:= .lf (.str x)
abbrev kN:AV:= .lf (.val (.slice none 0 0))
theorem bnd {α β:Type} {x:Option α} {f:α->Option β} {r:β} (h:(x>>=f)=some r):∃a,x=some a/\f a=some r:=zyX h
theorem jb {α β:Type} {x:Option α} {f:α->Option β} {r:β} {G:Prop} (h:(x>>=f)=some r) (k:∀a,x=some a->f a=some r->G):G:=let ⟨a,e,q⟩:=bnd h;k a e q
theorem sj {α:Type} {a b:α} (h:some a=some b):a=b:=qi h
def Env.keys (E:Env):List Nat:=E.sl.map (·.1)
def Env.labs (E:Env):List Nat:=E.bx.map (·.lab)
def nthO {α:Type}:List α->Nat->Option α
 | [],_=>none
 | x::_,0=>some x
 | _::l,n+1=>nthO l n
theorem zmd {α:Type}:∀{l:List α} {n:Nat} {x:α},nthO l n=some x->l.drop n=x::l.drop (n+1)
 | [],_,_,h=>by cases h
 | y::l,0,x,h=>by cases h;rfl
 | y::l,n+1,x,h=>by
  have:=zmd (l:=l) (n:=n) h;simpa using this
def zjk (E:Env):List Operand->Option (List AV)
 | []=>some []
 | x::l=>match E.opd x,zjk E l with
  | some a,some r=>some (a::r)
  | _,_=>none
theorem zmG :∀{ins:List (Operand×AV)},zjk E (ins.map (·.1))=some (ins.map (·.2))->zpj E ins
 | [],_=>trivial
 | p::l,h=>by
  simp only [xM,zjk] at h;split at h
  ·rename_i a r h1 h2;simp only [yj,yA] at h;obtain ⟨rfl,rfl⟩:=h;exact ⟨h1,zmG h2⟩
  ·cases h
theorem ztH :∀{bxs:List Bx},znU E.bx (bxs.map (·.lab))=some bxs->zsH E bxs
 | [],_=>trivial
 | b::l,h=>by
  simp only [xM,znU] at h;split at h
  ·rename_i a r h1 h2;simp only [yj,yA] at h;obtain ⟨rfl,rfl⟩:=h;exact ⟨h1,ztH h2⟩
  ·cases h
section
variable {P:Program} {N:Lim} {ops:Array Oper} {vW:List Oper} {E E':Env} {o:Oper} {ins:List (Operand×AV)} {bxs:List Bx} {W V:List Nat} {av:AV} {bs:List Bx}
def zFL (t:Nat) (b:Bool) (E:Env):Env:=⟨E.sl.map fun p=>match Nat.beq p.1 t with
 | true=>(p.1,.lf (.bool b))
 | false=>p,E.bx⟩
theorem zFB (x o:Nat) (h:(Nat.ble 2 x&&Nat.ble 2 o&& !spB x)=true) (k:zev (E.ren x o) E'):zev E E':=(zGe x o h).trans k
end
section
variable {m:Bool} {P:Program} {l l':List It} {cx:Cx} {E E1:Env} {Q:Exit->Act->World->Prop} {id:Nat} {ops:List Oper}
theorem zz (h:zev E E1):JI m P (.c .ret::l) (Sx cx E) fun e a w=>e= .ret/\Sx cx E1 a w:=zzl fun _ _ hs=>⟨rfl,h.go hs⟩
theorem zwo (h:zev E E1):JI m P (.c .ret::l) (Sx cx E) fun e a w=>e≠ .normal/\e= .ret/\Sx cx E1 a w:=zzl fun _ _ hs=>⟨nofun,rfl,h.go hs⟩
theorem zY (h:zev E E1):JI m P [] (Sx cx E) fun e a w=>e= .normal/\Sx cx E1 a w:=zCz fun _ _ hs=>⟨rfl,h.go hs⟩
theorem zX (he:zpZ id l=none) (h:zev E E1):JI m P (.c (.exit id)::l) (Sx cx E) fun e a w=>e≠ .normal/\e= .exit id/\Sx cx E1 a w:=zCy he fun _ _ hs=>⟨nofun,rfl,h.go hs⟩
end
section
variable {m:Bool} {P:Program} {l:List It} {cx:Cx} {E E1:Env} {Q:Exit->Act->World->Prop} {c:Code}
theorem zEp {σ ρ:Type} (vX:σ->Option (σ⊕ρ)) (Es:σ->Env) (R:ρ->Exit->Act->World->Prop)
  (hb:∀s o,vX s=some o->J m P c (Sx cx (Es s)) (match o with
   | .inl s'=>fun e a w=>e= .normal/\Sx cx (Es s') a w
   | .inr r=>fun e a w=>e≠ .normal/\R r e a w))
  {s:σ} {r:ρ} (h:zT vX s=some r) (hS:zev E (Es s)) (k:∀e a w,R r e a w->zhK m P Q l e a w):JI m P (.c (.loop c)::l) (Sx cx E) Q:=
 zEq vX (fun s=>Sx cx (Es s)) R hb h (fun _ _ hs=>hS.go hs) k
theorem zeQ (h:zev E E1):∀e a w,(e= .ret/\Sx cx E a w)->zhK m P (fun e a w=>e= .ret/\Sx cx E1 a w) l e a w:=zFq fun _ _ hs=>⟨rfl,h.go hs⟩
theorem zwp (h:zev E E1):∀e a w,(e= .ret/\Sx cx E a w)->zhK m P (fun e a w=>e≠ .normal/\e= .ret/\Sx cx E1 a w) l e a w:=zFq fun _ _ hs=>⟨nofun,rfl,h.go hs⟩
end
theorem zCU {P:Program} {o:Oper} {α:Type} {r:Rp α} {e ℓ:Nat} {C:List Nat} {xs:List α} {k:IntKind} {i:Int} {x:α} {t e':TypeId} {y z:Operand} {bytes:Nat}
  (ho:o.op= .indexAddr t y z) (hT:ElT P t e' r.size bytes) (hx:idx xs i=some x):zv P o [(y,.own r e ℓ C xs),(z,.lf (.int k i))] [] [] [] (.ptr ℓ (i.toNat*r.size)) []:=by
 refine zL fun γ ev w hi _=>?_
 obtain ⟨cs,wk,hg,hA,hn⟩:=hi (y,.own r e ℓ C xs) (by simp);have h2:=zes (hi (z,.lf (.int k i)) (by simp));simp only at wk hg h2;obtain ⟨i0,i1,_⟩:=zqf hx;rcases wk.2 with ⟨_,hz⟩| ⟨g,cap,cur,hv,_,hh,hnc,hcm,hcs,htake⟩
 ·omega
 ·have hbox:=(hg g (by rw [hv];rfl)).2;refine ⟨.pointer (some ⟨g,0+i.toNat*r.size,none⟩),w,γ,by simp [execOp,ho,hv,h2,zrT hT w g 0 _ cap k i i0 i1],Tr.refl _ _ _ _,?_,fun b hb=>by cases hb⟩;show _=_;rw [hbox,xH]
theorem zxH {α:Type} (r:Rp α) (xs:List α) (i f:Nat) (x x':α) (ls:List LV) (hx:xs[i]? =some x) (hf:f+ls.length<=r.size) (h:r.lv x'=(r.lv x).take f++ls++(r.lv x).drop (f+ls.length)):
  (xs.set i x').flatMap r.lv=(xs.flatMap r.lv).take (i*r.size+f)++ls++(xs.flatMap r.lv).drop (i*r.size+f+ls.length):=by
 have hi:=(yk.1 hx).1;have hs:xs=xs.take i++x::xs.drop (i+1):=by
  have h1:=(yk.1 hx).2;rw [<-h1,<-yb hi,px]
 have hA:((xs.take i).flatMap r.lv).length=i*r.size:=by rw [r.flat,ye,yX (by omega)]
 have hB:=r.len x;have e:xs.flatMap r.lv=(xs.take i).flatMap r.lv++(r.lv x++(xs.drop (i+1)).flatMap r.lv):=by
  have:=congrArg (List.flatMap r.lv) hs;rw [qt,xN] at this;exact this
 have e1:(xs.flatMap r.lv).take (i*r.size+f)=(xs.take i).flatMap r.lv++(r.lv x).take f:=by
  rw [e,qo,hA,yH (by omega),pK,py (by omega)]
 have e2:(xs.flatMap r.lv).drop (i*r.size+f+ls.length)=(r.lv x).drop (f+ls.length)++(xs.drop (i+1)).flatMap r.lv:=by
  rw [e,List.drop_append,hA,yh (by omega),xZ,show i*r.size+f+ls.length - i*r.size=f+ls.length by omega,qK (by omega)]
 rw [po,xx hi,qt,xN,h,e1,e2];simp only [yM]
theorem zEQ {α:Type} {r:Rp α} {x':α} {ls:List LV} (h:ls=r.lv x') (x:α):r.lv x'=(r.lv x).take 0++ls++(r.lv x).drop (0+ls.length):=by
 subst h;rw [yu,xZ,yh (by rw [r.len,r.len];omega),yY]
theorem zDu {v:Int} {y:UInt8} (h:zgA v=some y) (x:UInt8):Rp.byte.lv y=(Rp.byte.lv x).take 0++[LV.int .u8 v]++(Rp.byte.lv x).drop (0+[LV.int .u8 v].length):=by rw [zxr h];rfl
theorem zAd {α:Type} {xs:List α} {i:Int} {x:α} (h:idx xs i=some x):xs[i.toNat]? =some x:=by
 unfold idx at h;split at h
 ·exact h
 ·cases h
theorem zGv {P:Program} {N:Lim} {ops:Array Oper} {vW:List Oper} {E E':Env} {o:Oper} {α:Type} {r:Rp α} {e ℓ:Nat} {C:List Nat} {xs:List α} {t:TypeId} {y z:Operand} {a:AV} {ls:List LV} {off:Nat}
  (ks:List Nat) (i f:Nat) (x x':α) (C2:List Nat) (hg:zfH ops E o=some true) (ho:o.op= .store t y z) (hd:o.dst=none) (hy:E.opd y=some (.ptr ℓ off)) (hz:E.opd z=some a) (hp:zmH a=some ls) (we:∀w,(sizeOf t).run P w= .ok ls.length w)
  (hoff:off=i*r.size+f) (hk:E.pick ks []=some ⟨ks.map fun k=>(k,.own r e ℓ C xs),[]⟩) (hne:ks.isEmpty=false) (hx:xs[i]? =some x) (hf:Nat.ble (f+ls.length) r.size=true)
  (hx':r.lv x'=(r.lv x).take f++ls++(r.lv x).drop (f+ls.length)) (hC:(subN a.cols C2&&subN C C2&& !memN ℓ C2&&Nat.ble 2 ℓ)=true)
  (k:zbf P N ops vW ⟨(ks.map fun k=>(k,.own r e ℓ C2 (xs.set i x')))++(E.step [ℓ] [] none .any []).sl,(E.step [ℓ] [] none .any []).bx⟩ E'):zbf P N ops (o::vW) E E':=by
 intro cx a' w Q hn hs hQ;simp only [xA] at hC;obtain ⟨⟨⟨hC1,hC2⟩,hC3⟩,hC4⟩:=hC;have hs2:=hs;obtain ⟨γ,hB,hS,hX⟩:=hs;have hsl:∀kk∈ks,AV.rel γ w (.own r e ℓ C xs) (a'.tmps.getD kk undef):=by
  have hS1:Sl γ w a' (ks.map fun k=>(k,AV.own r e ℓ C xs)):=by
   have hk':=hk;unfold Env.pick at hk';split at hk'
   ·rename_i s b h1 h2;simp only [yj,Env.mk.injEq] at hk';rw [<-hk'.1];exact fun p hp=>hS p (zpE _ _ h1 p hp)
   ·cases hk'
  intro kk hkk;exact hS1 (kk,.own r e ℓ C xs) (xK.2 ⟨kk,hkk,rfl⟩)
 obtain ⟨k0,hk0⟩:∃k0,k0∈ks:=by
  cases ks with
  | nil=>cases hne
  | cons k0 ks=>exact ⟨k0,xy⟩
 obtain ⟨cs,wk,hgb,hA,hnC⟩:=hsl k0 hk0;have hi:=(yk.1 hx).1;rcases wk.2 with ⟨_,hz0⟩| ⟨g,cap,cur,hv,_,hh,hnc,hcm,hcs,htake⟩
 ·omega
 ·obtain ⟨wj,hbox⟩:=hgb g (by rw [hv];rfl);have hf':=xU hf;have h1:a'.eval y= .pointer (some ⟨g,off,none⟩):=by
   have:=Env.opd_rel hy hS;rw [show a'.eval y=_ from this,hbox]
  have hzr:=Env.opd_rel hz hS;have hV:=zmI hp hzr hC1;have hVl:(a'.eval z).cells.toList.length=ls.length:=hV.1.symm;have hcl:cs.length=xs.length*r.size:=wk.1;have hin:i*r.size+f+ls.length<=xs.length*r.size:=by
   have:(i+1)*r.size<=xs.length*r.size:=yg _ hi;rw [qb] at this;omega
  have hcap:xs.length*r.size<=cap*r.size:=yg _ hnc;have hst:=qG P g off e (a'.eval z).cells.toList 0 cur w hh (by rw [hVl,hoff,hcs];omega) hV.one;simp only [yw,hVl] at hst;have hrun:(execOp a'.eval o).run P w= .ok .skip (w.setRow g (cur.toList.take off++(a'.eval z).cells.toList++cur.toList.drop (off+ls.length)).toArray):=by
   have hsz':(a'.eval z).cells.size=ls.length:=by simpa using hVl
   simp [execOp,ho,h1,Instr.storeAt,Instr.sureAddr,storeVar,we,hsz',hst]
  have hcol':γ.col (γ.box ℓ)=ℓ:=by rw [hbox];exact wj
  have ht:=zue (w:=w) hcol' (cur.toList.take off++(a'.eval z).cells.toList++cur.toList.drop (off+ls.length)).toArray;rw [hbox] at ht;refine zkn (zgb hg hS) (ztA hrun ?_);rw [hd];have hnot:∀c∈C2,c∉[ℓ]:=fun c hc h=>by
   simp only [xC,xS,xT] at h;subst h;exact zdM hC3 hc
  have hA2:zR (γ.F C2) w (xs.flatMap r.lv) cs:=hA.mono fun b _ hb=>zal hC2 _ hb
  refine k cx _ _ Q hn ⟨γ,(hB.tr ht (W:=[ℓ]) (V:=[]) (by simp [okW,hC4]) rfl).put _ _ (fun k hk=>by first| cases hk| (rw [hd] at hk;cases hk)),?_,hX.tr ht⟩ hQ;intro p hp;rcases xE.1 hp with hp| hp
  ·obtain ⟨kk,hkk,rfl⟩:=xK.1 hp;obtain ⟨cs1,hown1,hgb1,_,_⟩:=hsl kk hkk;show AV.rel γ _ (.own r e ℓ C2 (xs.set i x')) (a'.tmps.getD kk undef);rcases hown1.2 with ⟨_,hz0⟩| ⟨g1,cap1,cur1,hv1,_,hh1,hnc1,hcm1,hcs1,htake1⟩
   ·omega
   ·have hg1:g1=g:=by rw [<-(hgb1 g1 (by rw [hv1];rfl)).2,hbox]
    subst hg1;rw [hh] at hh1;simp only [yj,pz] at hh1;obtain ⟨rfl,_⟩:=hh1;have ecs:cs1=cs:=by rw [<-htake1,<-htake]
    subst ecs;have hcurl:cur.toList.length=cap*r.size:=by rw [yR,hcs]
    have hcap1:xs.length*r.size<=cap1*r.size:=yg _ hnc1;refine ⟨cs1.take off++(a'.eval z).cells.toList++cs1.drop (off+ls.length),⟨?_,.inr ⟨g1,cap1,_,hv1.trans ?_,ya _,qH w _ _ _ _ _ hh,?_,hcm1,?_,?_⟩⟩,?_,?_,fun hc=>zdM hC3 hc⟩
    ·simp only [xG,ye,yn,hVl,pA,hcl,hoff];omega
    ·simp
    ·simpa using hnc1
    ·simp only [q6,xG,ye,yn,hVl,hcurl,<-hcs1,hcs];omega
    ·have e1:cur.toList.take off=cs1.take off:=by rw [<-htake,pc,yX (by omega)]
     have e2:(cur.toList.drop (off+ls.length)).take (xs.length*r.size - (off+ls.length))=cs1.drop (off+ls.length):=by
      rw [<-htake,List.drop_take]
     have e3:(cs1.take off++(a'.eval z).cells.toList).length=off+ls.length:=by simp only [xG,ye,hVl,hcl,hoff];omega
     rw [pA,e1,qo,e3,yH (by omega),e2]
    ·intro g2 hg2;have:g2=g1:=by rw [hv1] at hg2;simpa [Value.ownBlock] using hg2.symm
     subst this;exact ⟨wj,hbox⟩
    ·rw [zxH r xs i f x x' ls hx hf' hx',<-hoff];exact ((ht.all hnot (hA2.take off)).append (ht.all hnot hV)).append (ht.all hnot (hA2.drop (off+ls.length)))
  ·exact ((hS.tr ht):Sl _ _ _ _) p hp
set_option linter.unusedSectionVars false
def zms (γ:Gh) (w:World) (γ':Gh) (w':World) (p:AV×AV):Prop:=∀v,p.1.rel γ w v->p.2.rel γ' w' v
def zrA (W V:List Nat) (T:List (AV×AV)) (a a':AV):Prop:=∀γ w γ' w',Tr W V γ w γ' w'->(∀p∈T,zms γ w γ' w' p)->∀v,a.rel γ w v->a'.rel γ' w' v
def zmt (W V:List Nat) (T:List (AV×AV)):List AV->List AV->Prop
 | [],[]=>True
 | a::l,b::m=>zrA W V T a b/\zmt W V T l m
 | _,_=>False
section
variable {W V:List Nat} {T:List (AV×AV)} {a a':AV} {l l':List AV}
theorem zaO (h:a.free W V=true):zrA W V T a a:=fun _ _ _ _ t _ v hv=>a.keep t (AV.free_spec h).1 (AV.free_spec h).2 hv
theorem zGC:zrA W V T a .any:=fun _ _ _ _ _ _ _ _=>trivial
theorem zpf (i:Nat) (h:T[i]? =some (a,a')):zrA W V T a a':=fun _ _ _ _ _ hT v hv=>hT _ (qD h) v hv
theorem zmt.rel (t:Tr W V γ w γ' w') (hT:∀p∈T,zms γ w γ' w' p):∀{l l':List AV} {vs:List Value},zmt W V T l l'->AV.relL γ w l vs->AV.relL γ' w' l' vs
 | [],[],_,_,h=>h
 | a::l,b::m,_,h,hr=>by
  obtain ⟨v,vs',rfl,h1,h2⟩:=hr;exact ⟨v,vs',rfl,h.1 _ _ _ _ t hT v h1,zmt.rel t hT h.2 h2⟩
 | [],_::_,_,h,_=>h.elim
 | _::_,[],_,h,_=>h.elim
theorem zDH (h:zmt W V T l l'):zrA W V T (.ag l) (.ag l'):=fun _ _ _ _ t hT v ⟨vs,hv,hL,h1⟩=>⟨vs,hv,h.rel t hT hL,h1⟩
end
def SlT (W V:List Nat) (T:List (AV×AV)) (l:List (Nat×AV)):List (Nat×AV)->Prop
 | []=>True
 | p::r=>(∃a,lookup l p.1=some a/\zrA W V T a p.2)/\SlT W V T l r
def BxT (W V:List Nat) (T:List (AV×AV)) (l:List Bx):List Bx->Prop
 | []=>True
 | b::r=>(∃c,zga l b.lab=some c/\c.typ=b.typ/\(!memN b.lab W&& !memN b.lab V)=true/\zmt W V T c.avs b.avs)/\BxT W V T l r
section
variable {W V:List Nat} {T:List (AV×AV)} {γ γ':Gh} {w w':World}
theorem SlT.rel (t:Tr W V γ w γ' w') (hT:∀p∈T,zms γ w γ' w' p) (hs:Sl γ w a l):∀{r:List (Nat×AV)},SlT W V T l r->Sl γ' w' a r
 | [],_,p,hp=>by cases hp
 | q::r,h,p,hp=>by
  obtain ⟨⟨x,hx,ht⟩,h2⟩:=h;cases hp with
  | head=>exact ht _ _ _ _ t hT _ (hs _ (zcO hx))
  | tail _ hp=>exact SlT.rel t hT hs h2 p hp
theorem BxT.rel (t:Tr W V γ w γ' w') (hT:∀p∈T,zms γ w γ' w' p) (hs:Bxs γ w l):∀{r:List Bx},BxT W V T l r->Bxs γ' w' r
 | [],_,p,hp=>by cases hp
 | q::r,h,p,hp=>by
  obtain ⟨⟨c,hc,hty,hWV,ht⟩,h2⟩:=h;cases hp with
  | head=>
   obtain ⟨hm,hlab⟩:=zdD hc;obtain ⟨g1,cs,hh,hL,h1⟩:=hs c hm;simp only [xA] at hWV;have vY:=(yv.1 hh).1;refine ⟨?_,cs,?_,ht.rel t hT hL,h1⟩
   ·rw [t.box _ (zdM hWV.2),<-hlab,t.col _ vY];exact g1
   ·rw [t.box _ (zdM hWV.2),<-hlab,<-hty,t.block _ vY (by rw [g1,hlab];exact zdM hWV.1)];exact hh
  | tail _ hp=>exact BxT.rel t hT hs h2 p hp
end
def zns (P:Program) (o:Oper) (ins:List (Operand×AV)) (W V:List Nat) (av:AV) (T:List (AV×AV)):Prop:=
 ∀(γ:Gh) (a:Act) (w:World),(∀p∈ins,p.2.rel γ w (a.eval p.1))->∀(next:Act->World->Prop) (Q:Exit->Act->World->Prop),
  (∀γ' w' v,Tr W V γ w γ' w'->av.rel γ' w' v->(∀p∈T,zms γ w γ' w' p)->next (a.put o.dst v) w')->opq P o a w next Q
theorem zAI (E1:Env)
  (hs:zns P o ins W V av T) (hg:zfH ops E o=some true) (hi:zjk E (ins.map (·.1))=some (ins.map (·.2))) (hc:(okW W&&okW V&&ziV N o.dst)=true)
  (hS:SlT W V T E.sl E1.sl) (hB:BxT W V T E.bx E1.bx) (k:zbf P N ops vW ⟨zie o.dst av E1.sl,E1.bx⟩ E'):zbf P N ops (o::vW) E E':=by
 intro cx a w Q hn hx hQ;obtain ⟨γ,hb,hsl,hbx⟩:=hx;simp only [xA] at hc;obtain ⟨⟨c1,c2⟩,c3⟩:=hc;refine zkn (zgb hg hsl) (hs γ a w ((zmG hi).rel hsl) _ Q fun γ' w' v ht hv hT=>?_);refine k cx _ _ Q hn ⟨γ',(hb.tr ht c1 c2).put _ _ (by rw [hn];exact zfA c3),?_,hB.rel ht hT hbx⟩ hQ;exact (hS.rel ht hT hsl).put (fun k hk=>by rw [hb.size,hn];exact zhm c3 k hk) hv
theorem zEV {P:Program} {o:Oper} {κ ν:Type} [DecidableEq κ] {rk:Rp κ} {rv:Rp ν} {m:List (κ×ν)} {t kt et:TypeId} {x0:ν} {ℓ:Nat} {y z u:Operand} {ak av:AV} {C C1 D:List Nat} (k:κ) (x:ν) (C2:List Nat) (hT:MapT P t kt et rk rv x0)
  (ho:o.op= .mapUpdate t y z u\/o.op= .insert t y z u) (hka:asV rk k C1 ak) (hva:asV rv x D av) (hC:(subN C C2&&subN C1 C2&&subN D C2&& !memN ℓ C2)=true):
  zns P o [(y,.om rk rv ℓ C m),(z,ak),(u,av)] [ℓ] [] .any [(.om rk rv ℓ C m,.om rk rv ℓ C2 (mput m k x))]:=by
 intro γ a w hi next Q hk;simp only [xA] at hC;obtain ⟨⟨⟨hC1,hC2⟩,hC3⟩,hC4⟩:=hC;obtain ⟨b,es,cl,hv,⟨g1,g2⟩,hb,hh,hE,hnC⟩:=hi (y,.om rk rv ℓ C m) (by simp);have hkr:=hka γ w _ (hi (z,ak) (by simp));have hxr:=hva γ w _ (hi (u,av) (by simp));simp only at hv hkr hxr;have hE2:zcP (γ.F C2) w rk rv m es.toList:=hE.mono fun b _ h=>zal hC1 _ h
 obtain ⟨es',cl',hrun,hE',hO'⟩:=zDr hh.2 hT hh.1 hE2 hkr (fun b h=>zal hC2 _ h) hxr (fun b h=>zal hC3 _ h);have hrun':(execOp a.eval o).run P w= .ok .skip {w with heap:=w.heap.setIfInBounds b (.map es' cl')}:=by
  rcases ho with ho| ho<;>simp [execOp,ho,hv,hrun]
 have ht:=zGD (w:=w) g1 (.map es' cl');have hnot:∀c∈C2,c∉[ℓ]:=fun c hc h=>by
  simp only [xC,xS,xT] at h;subst h;exact zdM hC4 hc
 refine ztA hrun' (hk γ _ undef ht trivial fun p hp v hpv=>?_);simp only [xC,xS,xT] at hp;subst hp;obtain ⟨b',es2,cl2,hv2,⟨q1,q2⟩,_⟩:=hpv;have hbb:b'=b:=by rw [<-q2,g2]
 subst hbb;exact ⟨b',es',cl',hv2,⟨q1,q2⟩,by simpa using hb,⟨by simp [hb],hO'⟩,ht.es hnot hE',fun hc=>zdM hC4 hc⟩
theorem zGx {P:Program} {o:Oper} {α:Type} {r:Rp α} {e ℓ:Nat} {C:List Nat} {xs:List α} {t:TypeId} {y z:Operand} {a:AV} {ls:List LV} {off:Nat}
  (y0:Operand) (i f:Nat) (x x':α) (C2:List Nat) (ho:o.op= .store t y z) (hp:zmH a=some ls) (we:∀w,(sizeOf t).run P w= .ok ls.length w)
  (hoff:off=i*r.size+f) (hx:xs[i]? =some x) (hf:Nat.ble (f+ls.length) r.size=true)
  (hx':r.lv x'=(r.lv x).take f++ls++(r.lv x).drop (f+ls.length)) (hC:(subN a.cols C2&&subN C C2&& !memN ℓ C2)=true):
  zns P o [(y0,.own r e ℓ C xs),(y,.ptr ℓ off),(z,a)] [ℓ] [] .any [(.own r e ℓ C xs,.own r e ℓ C2 (xs.set i x'))]:=by
 intro γ a' w hin next Q hk;simp only [xA] at hC;obtain ⟨⟨hC1,hC2⟩,hC3⟩:=hC;obtain ⟨cs,wk,hgb,hA,hnC⟩:=hin (y0,.own r e ℓ C xs) (by simp);have hi:=(yk.1 hx).1;rcases wk.2 with ⟨_,hz0⟩| ⟨g,cap,cur,hv,_,hh,hnc,hcm,hcs,htake⟩
 ·omega
 ·obtain ⟨wj,hbox⟩:=hgb g (by rw [hv];rfl);have hf':=xU hf;have h1:a'.eval y= .pointer (some ⟨g,off,none⟩):=by
   have:=hin (y,.ptr ℓ off) (by simp);rw [show a'.eval y=_ from this,hbox]
  have hzr:=hin (z,a) (by simp);have hV:=zmI hp hzr hC1;have hVl:(a'.eval z).cells.toList.length=ls.length:=hV.1.symm;have hcl:cs.length=xs.length*r.size:=wk.1;have hin':i*r.size+f+ls.length<=xs.length*r.size:=by
   have:(i+1)*r.size<=xs.length*r.size:=yg _ hi
   grind
  have hcap:xs.length*r.size<=cap*r.size:=yg _ hnc;have hst:=qG P g off e (a'.eval z).cells.toList 0 cur w hh (by rw [hVl,hoff,hcs];omega) hV.one;simp only [yw,hVl] at hst;have hrun:(execOp a'.eval o).run P w= .ok .skip (w.setRow g (cur.toList.take off++(a'.eval z).cells.toList++cur.toList.drop (off+ls.length)).toArray):=by
   have hsz':(a'.eval z).cells.size=ls.length:=by simpa using hVl
   simp [execOp,ho,h1,Instr.storeAt,Instr.sureAddr,storeVar,we,hsz',hst]
  have hcol':γ.col (γ.box ℓ)=ℓ:=by rw [hbox];exact wj
  have ht:=zue (w:=w) hcol' (cur.toList.take off++(a'.eval z).cells.toList++cur.toList.drop (off+ls.length)).toArray;rw [hbox] at ht;have hnot:∀c∈C2,c∉[ℓ]:=fun c hc h=>by
   simp only [xC,xS,xT] at h;subst h;exact zdM hC3 hc
  have hA2:zR (γ.F C2) w (xs.flatMap r.lv) cs:=hA.mono fun b _ hb=>zal hC2 _ hb
  refine ztA hrun (hk γ _ undef ht trivial fun p hp v hpv=>?_);simp only [xC,xS,xT] at hp;subst hp;obtain ⟨cs1,hown1,hgb1,_,_⟩:=hpv;rcases hown1.2 with ⟨_,hz0⟩| ⟨g1,cap1,cur1,hv1,_,hh1,hnc1,hcm1,hcs1,htake1⟩
  ·omega
  ·have hg1:g1=g:=by rw [<-(hgb1 g1 (by rw [hv1];rfl)).2,hbox]
   subst hg1;rw [hh] at hh1;simp only [yj,pz] at hh1;obtain ⟨rfl,_⟩:=hh1;have ecs:cs1=cs:=by rw [<-htake1,<-htake]
   subst ecs;have hcurl:cur.toList.length=cap*r.size:=by rw [yR,hcs]
   have hcap1:xs.length*r.size<=cap1*r.size:=yg _ hnc1;refine ⟨cs1.take off++(a'.eval z).cells.toList++cs1.drop (off+ls.length),⟨?_,.inr ⟨g1,cap1,_,hv1.trans ?_,ya _,qH w _ _ _ _ _ hh,?_,hcm1,?_,?_⟩⟩,?_,?_,fun hc=>zdM hC3 hc⟩
   ·grind
   ·simp
   ·simpa using hnc1
   ·grind
   ·have e1:cur.toList.take off=cs1.take off:=by rw [<-htake,pc,yX (by omega)]
    have e2:(cur.toList.drop (off+ls.length)).take (xs.length*r.size - (off+ls.length))=cs1.drop (off+ls.length):=by
     rw [<-htake,List.drop_take]
    have e3:(cs1.take off++(a'.eval z).cells.toList).length=off+ls.length:=by simp only [xG,ye,hVl,hcl,hoff];omega
    rw [pA,e1,qo,e3,yH (by omega),e2]
   ·grind
   ·rw [zxH r xs i f x x' ls hx hf' hx',<-hoff];exact ((ht.all hnot (hA2.take off)).append (ht.all hnot hV)).append (ht.all hnot (hA2.drop (off+ls.length)))
def fnXW (w0:World) (γ0:Gh):Ext where
 X γ w:=(w.os=w0.os/\w.tape=w0.tape/\w.output=w0.output/\w0.heap.size<=w.heap.size)/\(∀b,b<w0.heap.size->γ0.col b<2->γ.col b=γ0.col b/\w.heap[b]? =w0.heap[b]?)/\
  (∀b,b<w0.heap.size->2<=γ0.col b->γ.col b≠0)/\∀b,w0.heap.size<=b->b<w.heap.size->γ.col b≠0
 tr:=fun {γ γ' w w' W V} ⟨⟨h1,h2,h3,h4⟩,h5,h6,h7⟩ t hW hV=>by
  have vY:∀b,b<w0.heap.size->b<w.heap.size:=fun b hb=>yi hb h4
  refine ⟨⟨t.os.trans h1,t.tape.trans h2,t.output.trans h3,yE h4 t.size⟩,fun b hb h0=>?_,fun b hb h0=>?_,fun b k1 k2 h0=>?_⟩
  ·obtain ⟨e1,e2⟩:=h5 b hb h0;refine ⟨(t.col b (vY b hb)).trans e1,(t.block b (vY b hb) fun hc=>?_).trans e2⟩;have:=hW _ hc;omega
  ·rw [t.col b (vY b hb)];exact h6 b hb h0
  ·by_cases hb:b<w.heap.size
   ·exact h7 b k1 hb (by rw [<-t.col b hb];exact h0)
   ·rcases t.fresh b (qA hb) k2 h0 with e| e
    ·have:=hW _ e;omega
    ·have:=hV _ e;omega
 ren:=fun {γ γ' w} ⟨h1,h2,h3,h4⟩ k=>⟨h1,fun b hb h0=>by
  obtain ⟨e1,e2⟩:=h2 b hb h0;refine ⟨?_,e2⟩;rcases yN (γ0.col b) 1 with h| h
  ·have h':γ0.col b=0:=by omega
   rw [h'];exact k.zero b (by rw [e1,h'])
  ·have h':γ0.col b=1:=by omega
   rw [h'];exact k.one b (by rw [e1,h']),fun b hb h0 h=>h3 b hb h0 (k.back b h),fun b k1 k2 h=>h4 b k1 k2 (k.back b h)⟩
 base:=w0.heap.size
 le:=fun h=>h.1.2.2.2
def zrx (P:Program) (f:FuncId) (ins wb ts:List AV):Prop:=
 ∀(w:World) (γ0:Gh) (vs:List Value),AV.relL γ0 w ins vs->Calls P f vs.toArray w fun e w'=>∃γ us,e= .returned (zhT us)/\(fnXW w γ0).X γ w'/\AV.relL γ w' wb us/\AV.relL γ w' ts vs
def anyB:AV->Bool
 | .any=>true
 | _=>false
def TsOk (E:Env) (ks:List Nat):Nat->List AV->Prop
 | _,[]=>True
 | n,a::l=>(anyB a=true\/memN n ks=true/\lookup E.sl n=some a)/\TsOk E ks (n+1) l
theorem TsOk.rel {E:Env} {ks:List Nat} {γ:Gh} {w:World} {a:Act} (hs:Sl γ w a E.sl) {old:Array Value} (hk:∀k∈ks,a.tmps.getD k undef=old.getD k undef):∀(l:List AV) (vs:List Value) (n:Nat),TsOk E ks n l->l.length=vs.length->
  (∀i v,vs[i]? =some v->old.getD (n+i) undef=v)->AV.relL γ w l vs
 | [],[],_,_,_,_=>rfl
 | x::l,v::vs,n,h,hl,ho=>by
  refine ⟨v,vs,rfl,?_,TsOk.rel hs hk l vs (n+1) h.2 (by simpa using hl) fun i u hu=>by rw [show n+1+i=n+(i+1) by omega];exact ho (i+1) u (by simpa using hu)⟩;rcases h.1 with h1| ⟨h1,h2⟩
  ·cases x<;>first| trivial| cases h1
  ·have:=hs _ (zcO h2);have e:=(hk n (zas.1 h1)).trans (ho 0 v rfl)
   grind
 | [],_::_,_,_,h,_=>by simp at h
 | _::_,[],_,_,h,_=>by simp at h
theorem zvf {P:Program} {f:FuncId} {fn:Func} {c:Code} {ins wb ts:List AV} {E:Env} (N:Nat) (ks:List Nat) (hf:P.funcs[f]? =some fn) (hb:fn.body=some c) (hN:fn.ntmps=N) (wa:Nat.ble ins.length N=true) (hres:zkV P E fn.results.toList wb)
  (hts:TsOk E ks 0 ts) (hl2:ts.length=ins.length)
  (hj:∀(X:Ext) (old:Array Value),J true P c (Sx ⟨⟨N,ks⟩,X,false,old⟩ ⟨zmB 0 ins,[]⟩) fun e a w=>(e= .ret\/e= .normal)/\Sx ⟨⟨N,ks⟩,X,false,old⟩ E a w):zrx P f ins wb ts:=by
 subst hN;intro w γ0 vs hr;have hl:=zcq hr;have wa:=xU wa;obtain ⟨tm,htm⟩:∃tm:Array Value,tm=vs.toArray++Array.replicate (fn.ntmps - vs.toArray.size) undef:=⟨_,rfl⟩;have hX0:(fnXW w (⟨fun b=>if b<w.heap.size then γ0.col b else 2,γ0.box⟩)).X ⟨fun b=>if b<w.heap.size then γ0.col b else 2,γ0.box⟩ w->(fnXW w γ0).X ⟨fun b=>if b<w.heap.size then γ0.col b else 2,γ0.box⟩ w:=fun h=>⟨h.1,fun b hb h0=>by simp [hb],fun b hb h0=>by simp only [xx hb];omega,fun b k1 k2=>by omega⟩
 have hr':AV.relL ⟨fun b=>if b<w.heap.size then γ0.col b else 2,γ0.box⟩ w ins vs:=AV.reghL (γ:=γ0) ins (fun b hb _=>by simp [hb]) (fun ℓ _=>rfl) hr;have hwp:=hj (fnXW w γ0) tm {tmps:=tm,defers:=[]} w ⟨_,⟨⟨[],rfl,pm,fun D hD=>by cases hD⟩,fun _=>rfl,?_,fun k hk=>rfl,hX0 ⟨⟨rfl,rfl,rfl,xB _⟩,fun b hb h0=>⟨rfl,rfl⟩,fun b hb h0=>by have h0':=h0;simp only [xx hb] at h0'|-;omega,fun b k1 k2=>by omega⟩⟩,?_,fun b hb=>by cases hb⟩
 ·subst htm;refine calls_of_wp hf hb (wp_mono (zDX hwp) ?_);rintro e a w' ⟨he,γ,hB,hS,hX⟩;obtain ⟨us,hu,hu'⟩:=zob (P:=P) (fn:=fn) hS hX hres;have hts':AV.relL γ w' ts vs:=hts.rel hS (hB.kept) ts vs 0 (by rw [hl2,<-hl]) fun i v hv=>by
   rw [xH,yF,pL (by simpa using (yk.1 hv).1)];simp [hv]
  have key:∃γ us',zhT us=zhT us'/\(fnXW w γ0).X γ w'/\AV.relL γ w' wb us'/\AV.relL γ w' ts vs:=⟨γ,us,rfl,hB.ext,hu',hts'⟩;obtain ⟨γ2,us2,k1,k2,k3,k4⟩:=key;rcases he with rfl| rfl
  ·exact ⟨hB.clean rfl,zhT us,hu,γ2,us2,by rw [k1],k2,k3,k4⟩
  ·exact ⟨hB.clean rfl,zhT us,hu,γ2,us2,by rw [k1],k2,k3,k4⟩
 ·grind
 ·intro p hp;have:=zpm hr' [] (List.replicate (fn.ntmps - vs.length) undef) p hp;simp only [xZ] at this;have e:(vs++List.replicate (fn.ntmps - vs.length) undef).toArray=tm:=by rw [htm];simp
  grind
def zdU:List (Nat×Nat)->Nat->Option Nat
 | [],_=>none
 | p::l,c=>match Nat.beq p.1 c with
  | true=>some p.2
  | false=>zdU l c
def zgF:List (Nat×Nat)->Nat->Option Nat
 | [],_=>none
 | p::l,c=>match Nat.beq p.2 c with
  | true=>some p.1
  | false=>zgF l c
theorem zdA:∀{l:List (Nat×Nat)} {c k:Nat},zdU l c=some k->(c,k)∈l
 | [],_,_,h=>by cases h
 | p::l,c,k,h=>by
  rw [zdU] at h;split at h
  ·rename_i hb;cases h;rw [<-xD hb];exact xy
  ·exact xz _ (zdA h)
def inW1 (p:List (Nat×Nat)):AV->AV
 | .own r e ℓ C xs=>match zdU p ℓ with
  | some k=> .own r e k [0] xs
  | none=> .sl r [0] xs
 | .om rk rv ℓ C m=>match zdU p ℓ with
  | some k=> .om rk rv k [0] m
  | none=> .mp rk rv [0] m
 | a=>zth a
def inW (p:List (Nat×Nat)):AV->AV
 | .ag l=> .ag (l.map (inW1 p))
 | .fv g l=> .fv g (l.map (inW1 p))
 | a=>inW1 p a
def mlab (p:List (Nat×Nat)):AV->Option Nat
 | .own _ _ ℓ _ _=>match zdU p ℓ with
  | some _=>some ℓ
  | none=>none
 | .om _ _ ℓ _ _=>match zdU p ℓ with
  | some _=>some ℓ
  | none=>none
 | _=>none
def zgf (p:List (Nat×Nat)):AV->List Nat
 | .own r e ℓ C xs=>match zdU p ℓ with
  | some _=>C
  | none=>ℓ::C
 | .om rk rv ℓ C m=>match zdU p ℓ with
  | some _=>C
  | none=>ℓ::C
 | a=>zoD a
def blk:Value->Option Nat
 | .map b=>b
 | v=>v.ownBlock
def zra:AV->List AV
 | .ag m=>m
 | .fv _ m=>m
 | a=>[a]
def zhN:List AV->List AV
 | []=>[]
 | x::l=>(zra x)++zhN l
def zzR:Value->List Value
 | .func _ _ cs=>cs.toList
 | _=>[]
def zlC:AV->Value->List Value
 | .ag _,v=>v.cells.toList
 | .fv _ _,v=>zzR v
 | _,v=>[v]
def zrE:List AV->List Value->List Value
 | x::l,v::vs=>(zlC x v)++zrE l vs
 | _,_=>[]
def ztc:AV->AV->List AV
 | .ag _,.ag m=>m
 | .ag m,_=>m.map fun _=> .any
 | .fv _ m,_=>m.map fun _=> .any
 | _,t=>[t]
def zwk:List AV->List AV->List AV
 | x::l,t::ts=>(ztc x t)++zwk l ts
 | _,_=>[]
theorem zqu :∀{l m:List AV} {us vs:List Value},AV.relL γ w l us->AV.relL γ w m vs->AV.relL γ w (l++m) (us++vs)
 | [],_,_,_,h,k=>by cases h;exact k
 | a::l,_,_,_,h,k=>by
  obtain ⟨v,vs',rfl,h1,h2⟩:=h;exact ⟨v,_,rfl,h1,zqu h2 k⟩
theorem zrn :∀{l:List AV} {vs:List Value},l.length=vs.length->AV.relL γ w (l.map fun _=> .any) vs
 | [],[],_=>rfl
 | _::l,v::vs,h=>⟨v,vs,rfl,trivial,zrn (by simpa using h)⟩
 | [],_::_,h=>by simp at h
 | _::_,[],h=>by simp at h
theorem zxF (h:x.rel γ w v):AV.relL γ w (zra x) (zlC x v):=by
 cases x with
 | ag l=>obtain ⟨vs,rfl,hL,h1⟩:=h;simpa [zra,zlC,Value.cells] using hL
 | fv g l=>obtain ⟨vs,rfl,hL⟩:=h;simpa [zra,zlC,zzR] using hL
 | _=>exact ⟨v,[],rfl,h,rfl⟩
theorem zxG :∀{l:List AV} {vs:List Value},AV.relL γ w l vs->AV.relL γ w (zhN l) (zrE l vs)
 | [],_,h=>by cases h;rfl
 | x::l,_,h=>by
  obtain ⟨v,vs',rfl,h1,h2⟩:=h;exact zqu (zxF h1) (zxG h2)
theorem zAZ (h:x.rel γ w v) (k:t.rel γ' w' v):AV.relL γ' w' (ztc x t) (zlC x v):=by
 cases x with
 | ag l=>
  obtain ⟨vs,rfl,hL,h1⟩:=h;have hl:l.length=vs.length:=(zcq hL).symm;cases t with
  | ag m=>obtain ⟨vs2,e,hL2,_⟩:=k;cases e;simpa [ztc,zlC,Value.cells] using hL2
  | _=>simpa [ztc,zlC,Value.cells] using zrn (γ:=γ') (w:=w') hl
 | fv g l=>
  obtain ⟨vs,rfl,hL⟩:=h;have hl:l.length=vs.length:=(zcq hL).symm;cases t<;>simpa [ztc,zlC,zzR] using zrn (γ:=γ') (w:=w') hl
 | _=>exact ⟨v,[],rfl,k,rfl⟩
theorem zvc :∀{l ts:List AV} {vs:List Value},AV.relL γ w l vs->AV.relL γ' w' ts vs->AV.relL γ' w' (zwk l ts) (zrE l vs)
 | [],_,_,h,_=>by cases h;rfl
 | x::l,[],_,h,k=>by obtain ⟨v,vs',rfl,_⟩:=h;cases k
 | x::l,t::ts,_,h,k=>by
  obtain ⟨v,vs',rfl,h1,h2⟩:=h;obtain ⟨v2,vs2,e,k1,k2⟩:=k;cases e;exact zqu (zAZ h1 k1) (zvc h2 k2)
theorem zyu :∀{l m:List AV} {us:List Value},AV.relL γ w l us->AV.relL γ' w' m us->∀p∈l.zip m,∃u,(p.1,u)∈l.zip us/\p.1.rel γ w u/\p.2.rel γ' w' u
 | [],_,_,_,_,p,hp=>by cases hp
 | _::_,[],_,_,_,p,hp=>by cases hp
 | a::l,b::m,_,h,k,p,hp=>by
  obtain ⟨v,vs',rfl,h1,h2⟩:=h;obtain ⟨v2,vs2,e,k1,k2⟩:=k;cases e;cases hp with
  | head=>exact ⟨v,xy,h1,k1⟩
  | tail _ hp=>
   obtain ⟨u,g1,g2⟩:=zyu h2 k2 p hp;exact ⟨u,xz _ g1,g2⟩
theorem zro :∀{l m:List AV} {us:List Value},AV.relL γ w l us->AV.relL γ' w' m us->∀q∈l.zip us,∃t,(q.1,t)∈l.zip m/\q.1.rel γ w q.2/\t.rel γ' w' q.2
 | [],_,_,_,_,p,hp=>by cases hp
 | a::l,[],_,h,k,p,hp=>by obtain ⟨v,vs',rfl,_⟩:=h;cases k
 | a::l,b::m,_,h,k,p,hp=>by
  obtain ⟨v,vs',rfl,h1,h2⟩:=h;obtain ⟨v2,vs2,e,k1,k2⟩:=k;cases e;cases hp with
  | head=>exact ⟨b,xy,h1,k1⟩
  | tail _ hp=>
   obtain ⟨u,g1,g2⟩:=zro h2 k2 p hp;exact ⟨u,xz _ g1,g2⟩
def zrL (p:List (Nat×Nat)):List AV->List Nat
 | []=>[]
 | a::l=>(match mlab p a with
  | some ℓ=>[ℓ]
  | none=>[])++zrL p l
theorem zrh :∀{l:List AV} {us:List Value} {q:AV×Value},q∈l.zip us->mlab p q.1=some ℓ->ℓ∈zrL p l
 | [],_,_,h,_=>by cases h
 | _::_,[],_,h,_=>by cases h
 | a::l,u::us,q,h,hl=>by
  rw [zrL];cases h with
  | head=>rw [hl];simp
  | tail _ h=>exact yc _ (zrh h hl)
def ztw:List Nat->Bool
 | []=>true
 | c::l=> !memN c l&&ztw l
theorem zvs :∀{l:List AV} {us:List Value} {q q':AV×Value},ztw (zrL p l)=true->q∈l.zip us->q'∈l.zip us->mlab p q.1=some ℓ->mlab p q'.1=some ℓ->q=q'
 | [],_,_,_,_,h,_,_,_=>by cases h
 | _::_,[],_,_,_,h,_,_,_=>by cases h
 | a::l,u::us,q,q',hn,h,h',hl,hl'=>by
  rw [zrL] at hn;have tl:ztw (zrL p l)=true/\(mlab p a=some ℓ->ℓ∉zrL p l):=by
   cases ha:mlab p a with
   | none=>rw [ha] at hn;exact ⟨hn,fun e=>by cases e⟩
   | some x=>
    rw [ha] at hn;simp only [yo,xZ,ztw,xA] at hn;exact ⟨hn.2,fun e=>by cases e;exact zdM hn.1⟩
  cases h with
  | head=>
   cases h' with
   | head=>rfl
   | tail _ h'=>exact absurd (zrh h' hl') (tl.2 hl)
  | tail _ h=>
   cases h' with
   | head=>exact absurd (zrh h hl) (tl.2 hl')
   | tail _ h'=>exact zvs tl.1 h h' hl hl'
def beqT {α β:Type} (r:Rp α) (r':Rp β) (e e' k k':Nat):Bool:=Nat.beq r.size r'.size&&Nat.beq e e'&&Nat.beq k k'
def tOk (p:List (Nat×Nat)) (D:List Nat) (s:Nat) (K:List Nat):AV×AV->Bool
 | (.own r e ℓ C xs,t)=>(match zdU p ℓ with
  | some k=>(match t with
   | .own r' e' k' C' xs'=>beqT r r' e e' k k'&&zgC K C'&& !memN ℓ (outC D s C')
   | _=>false)
  | none=>anyB t)
 | (.om rk rv ℓ C m,t)=>(match zdU p ℓ with
  | some k=>(match t with
   | .om rk' rv' k' C' m'=>Nat.beq k k'&&zgC K C'&& !memN ℓ (outC D s C')
   | _=>false)
  | none=>anyB t)
 | (_,t)=>anyB t
def tp1 (D:List Nat) (s:Nat):AV×AV->List (AV×AV)
 | (.own r e ℓ C xs,.own r' e' _ C' xs')=>[(.own r e ℓ C xs,.own r' e' ℓ (outC D s C') xs')]
 | (.om rk rv ℓ C m,.om rk' rv' _ C' m')=>[(.om rk rv ℓ C m,.om rk' rv' ℓ (outC D s C') m')]
 | _=>[]
def zwS (D:List Nat) (s:Nat) (xs ts:List AV):List (AV×AV):=((zhN xs).zip (zwk xs ts)).flatMap (tp1 D s)
def zBX (p:List (Nat×Nat)) (D:List Nat) (s:Nat) (V:List Nat) (xs ts:List AV):Bool:=
 ztw (zrL p (zhN xs))&&(p.all fun q=>Nat.ble 2 q.2&&(match zgF p q.2 with| some c=>Nat.beq c q.1| none=>false))&&zgC (p.map (·.1)) D&&
  ((zhN xs).all fun a=>subN (zgf p a) D)&&(((zhN xs).zip (zwk xs ts)).all (tOk p D s (1::p.map (·.2))))&&zgC (p.map (·.1)) V
open Classical in
noncomputable def ghW (γ:Gh) (D:List Nat) (p:List (Nat×Nat)) (S:Fp):Gh:=
 ⟨fun b=>match (if S b then zdU p (γ.col b) else none) with
  | some k=>k
  | none=>if γ.F D b then 0 else 1,fun k=>match zgF p k with
  | some ℓ=>γ.box ℓ
  | none=>0⟩
theorem zGO (hd:zgC (p.map (·.1)) D=true) (h:γ.F D b):(ghW γ D p S).col b=0:=by
 have hn:zdU p (γ.col b)=none:=by
  cases hf:zdU p (γ.col b) with
  | none=>rfl
  | some k=>exact absurd h (zkc hd _ (xK.2 ⟨_,zdA hf,rfl⟩))
 unfold ghW
 grind
theorem zAc (h:S b) (hk:zdU p (γ.col b)=some k):(ghW γ D p S).col b=k:=by
 unfold ghW
 grind
theorem zss (h:2<=(ghW γ D p S).col b):S b/\∃k,zdU p (γ.col b)=some k:=by
 unfold ghW at h
 grind
theorem zxI (hp:(p.all fun q=>Nat.ble 2 q.2)=true) (h:(ghW γ D p S).col b=0):γ.F D b:=by
 unfold ghW at h;simp only at h;split at h
 ·rename_i k hk;split at hk
  ·have:=xJ.1 hp _ (zdA hk);simp_all
  ·cases hk
 grind
section
variable {γ:Gh} {w:World} {D:List Nat} {p:List (Nat×Nat)} {S:Fp}
theorem zxL (h:a.rel γ w v) (hD:∀c∈zgf p a,c∈D) (hd:zgC (p.map (·.1)) D=true) (hb:∀q∈p,zgF p q.2=some q.1) (h2:∀q∈p,2<=q.2) (hS:∀ℓ,mlab p a=some ℓ->∀b,blk v=some b->S b):(inW1 p a).rel (ghW γ D p S) w v:=by
 have key:∀(C:List Nat),(∀c∈C,c∈D)->∀b,b<w.heap.size->γ.F C b->(ghW γ D p S).F [0] b:=fun C hC b _ hb=>by
  show (ghW γ D p S).col b∈[0];rw [zGO hd (hC _ hb)];exact xy
 have hbx:∀ℓ k,zdU p ℓ=some k->(ghW γ D p S).box k=γ.box ℓ:=fun ℓ k hk=>by
  have:=hb _ (zdA hk);unfold ghW;simp only [this]
 cases a with
 | own r e ℓ C xs=>
  simp only [inW1];cases hf:zdU p ℓ with
  | some k=>
   obtain ⟨cs,ho,hg,hA,hn⟩:=h;refine ⟨cs,ho,fun g hgb=>?_,hA.mono (key C (by simpa [zgf,hf] using hD)),by have:=h2 _ (zdA hf);simp only [xC,xS,xT];simp only at this;omega⟩;obtain ⟨g1,g2⟩:=hg g hgb;have hbv:blk v=some g:=by cases v<;>first| (cases hgb;done)| exact hgb
   exact ⟨zAc (hS ℓ (by simp [mlab,hf]) g hbv) (by rw [g1];exact hf),(hbx ℓ k hf).trans g2⟩
  | none=>exact (zpB h).mono (key _ (by simpa [zgf,hf] using hD))
 | om rk rv ℓ C m=>
  simp only [inW1];cases hf:zdU p ℓ with
  | some k=>
   obtain ⟨b,es,cl,hv,⟨g1,g2⟩,vY,hh,hE,hn⟩:=h;refine ⟨b,es,cl,hv,⟨zAc (hS ℓ (by simp [mlab,hf]) b (by rw [hv];rfl)) (by rw [g1];exact hf),(hbx ℓ k hf).trans g2⟩,vY,hh,hE.mono (key C (by simpa [zgf,hf] using hD)),by have:=h2 _ (zdA hf);simp only [xC,xS,xT];simp only at this;omega⟩
  | none=>
   obtain ⟨b,es,cl,hv,⟨g1,g2⟩,vY,hh,hE,hn⟩:=h;have hC:∀c∈ℓ::C,c∈D:=by simpa [zgf,hf] using hD
   exact ⟨b,es,cl,hv,key (ℓ::C) hC b vY (by show γ.col b∈ℓ::C;rw [g1];exact xy),vY,hh,(hE.mono fun b _ hb=>xz _ hb).mono (key (ℓ::C) hC)⟩
 | any=>trivial
 | lf l=>exact h
 | sl r C xs=>exact zaI.mono h (key C hD)
 | rc r C x=>obtain ⟨cs,hv,hA⟩:=h;exact ⟨cs,hv,hA.mono (key C hD)⟩
 | mp rk rv C m=>
  obtain ⟨b,es,cl,hv,hF,vY,hh,hE⟩:=h;exact ⟨b,es,cl,hv,key C hD b vY hF,vY,hh,hE.mono (key C hD)⟩
 | ep r C x off=>
  obtain ⟨b,o,cs,hv,hF,vY,hA,hc⟩:=h;exact ⟨b,o,cs,hv,key C hD b vY hF,vY,hA.mono (key C hD),hc⟩
 | qp r C o=>
  cases o with
  | none=>exact h
  | some x=>
   obtain ⟨b,cs,hv,hF,vY,hA,hc⟩:=h;exact ⟨b,cs,hv,key C hD b vY hF,vY,hA.mono (key C hD),hc⟩
 | em rk rv C m=>
  obtain ⟨a,b,es,cl,hv,hFa,ha,hc1,hF,vY,hh,hE⟩:=h;exact ⟨a,b,es,cl,hv,key C hD a ha hFa,ha,hc1,key C hD b vY hF,vY,hh,hE.mono (key C hD)⟩
 | mo=>trivial
 | cu=>trivial
 | bs=>trivial
 | tl=>trivial
 | ptr=>trivial
 | tup=>trivial
 | ag=>trivial
 | fv=>trivial
 | bp=>trivial
 | it=>trivial
theorem zoE (hd:zgC (p.map (·.1)) D=true) (hb:∀q∈p,zgF p q.2=some q.1) (h2:∀q∈p,2<=q.2):∀{l:List AV} {vs:List Value},AV.relL γ w l vs->(∀a∈l,∀c∈zgf p a,c∈D)->
  (∀q∈l.zip vs,∀ℓ,mlab p q.1=some ℓ->∀b,blk q.2=some b->S b)->AV.relL (ghW γ D p S) w (l.map (inW1 p)) vs
 | [],_,h,_,_=>h
 | a::l,_,h,hD,hS=>by
  obtain ⟨v,vs',rfl,h1,h2'⟩:=h;exact ⟨v,vs',rfl,zxL h1 (hD a xy) hd hb h2 (hS (a,v) xy),zoE hd hb h2 h2' (fun x hx=>hD x (xz _ hx)) (fun q hq=>hS q (xz _ hq))⟩
theorem zwn (hd:zgC (p.map (·.1)) D=true) (hb:∀q∈p,zgF p q.2=some q.1) (h2:∀q∈p,2<=q.2):∀{l:List AV} {vs:List Value},AV.relL γ w l vs->(∀a∈zhN l,∀c∈zgf p a,c∈D)->
  (∀q∈(zhN l).zip (zrE l vs),∀ℓ,mlab p q.1=some ℓ->∀b,blk q.2=some b->S b)->AV.relL (ghW γ D p S) w (l.map (inW p)) vs
 | [],_,h,_,_=>h
 | a::l,_,h,hD,hS=>by
  obtain ⟨v,vs',rfl,h1,h2'⟩:=h;have hf:=zxF h1;have wa:=(zcq hf).symm;have hz:∀q∈(zhN l).zip (zrE l vs'),∀ℓ,mlab p q.1=some ℓ->∀b,blk q.2=some b->S b:=fun q hq=>hS q (by
   rw [zhN,zrE,List.zip_append wa];exact yc _ hq)
  have hz1:=fun q hq=>hS q (by rw [zhN,zrE,List.zip_append wa];exact yl _ hq)
  have hD1:=fun x hx=>hD x (by rw [zhN];exact yl _ hx)
  refine ⟨v,vs',rfl,?_,zwn hd hb h2 h2' (fun x hx=>hD x (by rw [zhN];exact yc _ hx)) hz⟩;cases a with
  | ag m=>obtain ⟨us,rfl,hL,h1c⟩:=h1;exact ⟨us,rfl,zoE hd hb h2 hL hD1 (fun q hq=>hz1 q (by simpa [zra,zlC,Value.cells] using hq)),h1c⟩
  | fv g m=>obtain ⟨us,rfl,hL⟩:=h1;exact ⟨us,rfl,zoE hd hb h2 hL hD1 (fun q hq=>hz1 q (by simpa [zra,zlC,zzR] using hq))⟩
  | _=>exact zxL h1 (hD1 _ xy) hd hb h2 (hz1 (_,v) xy)
end
theorem zoI {γ:Gh} {w:World} {a:Act}:∀{args:List Operand} {xs:List AV},xs.length=args.length->(∀p∈args.zip xs,p.2.rel γ w (a.eval p.1))->AV.relL γ w xs (args.map a.eval)
 | [],[],_,_=>rfl
 | y::args,x::xs,hl,hi=>⟨_,_,rfl,hi (y,x) (by simp),zoI (by simpa using hl) (fun p hp=>hi p (by simp [hp]))⟩
 | [],_::_,h,_=>by simp at h
 | _::_,[],h,_=>by simp at h
theorem zDb {γ:Gh} {w:World} {α:Type} {r:Rp α} {e ℓ:Nat} {C:List Nat} {xs:List α} {v u:Value} {g:Nat} (h:AV.rel γ w (.own r e ℓ C xs) v) (k:AV.rel γ w (.own r e ℓ C xs) u) (hv:v.ownBlock=some g) (hu:u≠ .slice none 0 0):v=u:=by
 obtain ⟨cs,ho,hg,_⟩:=h;obtain ⟨cs2,ho2,hg2,_⟩:=k;rcases ho.2 with ⟨rfl,_⟩| ⟨g1,cap,cur,rfl,_,hh,hc,_,hs,_⟩
 ·cases hv
 ·rcases ho2.2 with ⟨rfl,_⟩| ⟨g2,cap2,cur2,rfl,_,hh2,hc2,_,hs2,_⟩
  ·grind
  ·have e1:=(hg g1 rfl).2;have e2:=(hg2 g2 rfl).2;have:g2=g1:=by rw [<-e1,<-e2]
   subst this;rw [hh] at hh2;simp only [yj,pz] at hh2;obtain ⟨rfl,_⟩:=hh2;have:cap=cap2:=Nat.eq_of_mul_eq_mul_right r.pos (hs.symm.trans hs2);subst this;rfl
theorem zkq {γ:Gh} {w:World} {α:Type} {r:Rp α} {e ℓ:Nat} {C:List Nat} {xs:List α} {v:Value} (h:AV.rel γ w (.own r e ℓ C xs) v):(v= .slice none 0 0/\xs=[])\/∃g cap,v= .slice (some ⟨g,0,none⟩) xs.length cap/\γ.col g=ℓ/\γ.box ℓ=g/\g<w.heap.size:=by
 obtain ⟨cs,ho,hg,_⟩:=h;rcases ho.2 with ⟨rfl,h0⟩| ⟨g1,cap,cur,rfl,_,hh,hc,_,hs,_⟩
 ·grind
 ·obtain ⟨q1,q2⟩:=hg g1 rfl
  grind
theorem zAz {α:Type} (r:Rp α) (e ℓ:Nat) (C:List Nat) (hn:ℓ∉C):AV.rel γ w (.own r e ℓ C ([]:List α)) (.slice none 0 0):=
 ⟨[],⟨by simp,.inl ⟨rfl,rfl⟩⟩,fun g hg=>(by cases hg),zR.nil,hn⟩
theorem zzK {γ γc:Gh} {w w':World} {K D V:List Nat} {s:Nat} {α β:Type} {r:Rp α} {r':Rp β} {e ℓ k':Nat} {C C':List Nat} {xs:List α} {xs':List β} {u:Value}
  (h1:AV.rel γ w (.own r e ℓ C xs) u) (h2:AV.rel γc w' (.own r' e k' C' xs') u) (we:r.size=r'.size) (hold:zsI γ γc w.heap.size K D) (hk1:1∈K) (hD:D≠[]) (hdis:zgC K C'=true) (hn:ℓ∉outC D s C') (hV:ℓ∉V)
  (hnil:u= .slice none 0 0->∀g,g<w.heap.size->γ.col g=ℓ->w'.heap[g]? =w.heap[g]?):zms γ w (zeX γ γc w.heap.size D s V) w' (.own r e ℓ C xs,.own r' e ℓ (outC D s C') xs'):=by
 intro v hv;have hF:∀b,b<w'.heap.size->γc.F C' b->(zeX γ γc w.heap.size D s V).F (outC D s C') b:=fun b _ hb=>outF hold (zkc hdis) hk1 hb (fun _ e=>absurd e hD)
 have wj:∀g,g<w.heap.size->γ.col g=ℓ->(zeX γ γc w.heap.size D s V).col g=ℓ:=fun g hg h=>by unfold zeX;simp only [xx hg];exact h
 have hbox:(zeX γ γc w.heap.size D s V).box ℓ=γ.box ℓ:=by unfold zeX;simp only [xw hV]
 rcases zkq h1 with ⟨hu,hx⟩| ⟨g,cap,hu,hg1,hg2,hglt⟩
 ·have hx':xs'=[]:=by
   rcases zkq h2 with ⟨_,h⟩| ⟨g,cap,hu',_⟩
   ·exact h
   grind
  subst hx hx';rcases zkq hv with ⟨rfl,_⟩| ⟨g',cap',hv',q1,q2,q3⟩
  ·exact zAz r' e ℓ _ hn
  ·obtain ⟨cs,ho,_,_,_⟩:=hv;refine ⟨[],⟨by simp,?_⟩,fun g hg=>?_,zR.nil,hn⟩
   ·rcases ho.2 with ⟨e1,_⟩| ⟨g1,cap1,cur,e1,e2,e3,e4,e5,e6,e7⟩
    ·grind
    ·have hg1:g1=g':=by rw [hv'] at e1;cases e1;rfl
     subst hg1;exact .inr ⟨g1,cap1,cur,e1,e2,(hnil hu g1 q3 q1).trans e3,ya _,e5,by rw [<-we];exact e6,by simp⟩
   grind
 ·by_cases hvn:v= .slice none 0 0
  ·subst hvn;have hx:xs=[]:=by
    rcases zkq hv with ⟨_,h⟩| ⟨g,cap,hu',_⟩
    ·exact h
    ·cases hu'
   have hx':xs'=[]:=by
    rcases zkq h2 with ⟨_,h⟩| ⟨g,cap,hu',_⟩
    ·exact h
    grind
   subst hx';exact zAz r' e ℓ _ hn
  ·have huv:u=v:=zDb h1 hv (by rw [hu];rfl) hvn;subst huv;obtain ⟨cs,ho,hg,hA,_⟩:=h2;refine ⟨cs,ho,fun g' hg'=>?_,hA.mono hF,hn⟩;have:g'=g:=by rw [hu] at hg';cases hg';rfl
   grind
theorem zBK {γ γc:Gh} {w w':World} {K D V:List Nat} {s:Nat} {κ ν κ' ν':Type} {rk:Rp κ} {rv:Rp ν} {rk':Rp κ'} {rv':Rp ν'} {ℓ k':Nat} {C C':List Nat} {m:List (κ×ν)} {m':List (κ'×ν')} {u:Value}
  (h1:AV.rel γ w (.om rk rv ℓ C m) u) (h2:AV.rel γc w' (.om rk' rv' k' C' m') u) (hold:zsI γ γc w.heap.size K D) (hk1:1∈K) (hD:D≠[]) (hdis:zgC K C'=true) (hn:ℓ∉outC D s C') (hV:ℓ∉V):
  zms γ w (zeX γ γc w.heap.size D s V) w' (.om rk rv ℓ C m,.om rk' rv' ℓ (outC D s C') m'):=by
 intro v hv;have hF:∀b,b<w'.heap.size->γc.F C' b->(zeX γ γc w.heap.size D s V).F (outC D s C') b:=fun b _ hb=>outF hold (zkc hdis) hk1 hb (fun _ e=>absurd e hD)
 have hbox:(zeX γ γc w.heap.size D s V).box ℓ=γ.box ℓ:=by unfold zeX;simp only [xw hV]
 obtain ⟨b,es,cl,hu,⟨g1,g2⟩,hb,_⟩:=h1;obtain ⟨b',es',cl',hu',_,hb',hh',hE',_⟩:=h2;obtain ⟨b2,es2,cl2,hv2,⟨q1,q2⟩,_⟩:=hv;have e1:b'=b:=by rw [hu] at hu';cases hu';rfl
 have e2:b2=b:=by rw [<-q2,<-g2]
 subst e1 e2;exact ⟨_,es',cl',hv2,⟨by unfold zeX;simp only [xx hb];exact g1,hbox.trans g2⟩,hb',hh',hE'.mono hF,hn⟩
theorem zEX {p:List (Nat×Nat)} {D:List Nat} {s:Nat} {K:List Nat} {a t:AV} {ℓ b:Nat} {γ:Gh} {w:World} {v:Value} (h:tOk p D s K (a,t)=true) (hl:mlab p a=some ℓ) (hb:blk v=some b) (hr:t.rel γ w v):∃k,(ℓ,k)∈p/\γ.col b=k:=by
 cases a with
 | own r e ℓ' C xs=>
  simp only [mlab] at hl;cases hf:zdU p ℓ' with
  | none=>rw [hf] at hl;cases hl
  | some k=>
   rw [hf] at hl;cases hl;simp only [tOk,hf] at h;cases t with
   | own r' e' k' C' xs'=>
    simp only [xA,beqT] at h;have hk:=xD h.1.1.2;subst hk;refine ⟨k,zdA hf,?_⟩;rcases zkq hr with ⟨rfl,_⟩| ⟨g,cap,rfl,g1,_⟩
    ·cases hb
    ·cases hb;exact g1
   | _=>cases h
 | om rk rv ℓ' C m=>
  simp only [mlab] at hl;cases hf:zdU p ℓ' with
  | none=>rw [hf] at hl;cases hl
  | some k=>
   rw [hf] at hl;cases hl;simp only [tOk,hf] at h;cases t with
   | om rk' rv' k' C' m'=>
    simp only [xA] at h;have hk:=xD h.1.1;subst hk;obtain ⟨b',_,_,rfl,⟨g1,_⟩,_⟩:=hr;cases hb;exact ⟨k,zdA hf,g1⟩
   | _=>cases h
 | _=>cases hl
theorem zFe {P:Program} {o:Oper} {f:FuncId} {args:List Operand} {ts:Array TypeId} {a:Act} {w:World} {next:Act->World->Prop} {Q:Exit->Act->World->Prop} {R:Ending->World->Prop} {vs:List Value}
  (hrun:(execOp a.eval o).run P w= .ok (.enter f vs.toArray) w) (hd:∀c,o.op≠ .defer c) (h:Calls P f vs.toArray w R) (k:∀e w',R e w'->∃v,e= .returned v/\next (a.put o.dst v) w'):opq P o a w next Q:=by
 refine zpy hd ?_;unfold Oper.wp;rw [hrun,qs];refine h.mono fun e w' hR=>?_
 obtain ⟨v,rfl,hn⟩:=k e w' hR;exact hn
theorem zDC {P:Program} {o:Oper} {f:FuncId} {args:List Operand} {ins wb tns:List AV} (xs:List AV) (p:List (Nat×Nat)) (D:List Nat) (s:Nat) (V:List Nat) (ok:zrx P f ins wb tns)
  (hrun:∀(a:Act) (w:World) (γ:Gh),AV.relL γ w xs (args.map a.eval)->∃vs:List Value,(execOp a.eval o).run P w= .ok (.enter f vs.toArray) w/\∃ys,ys.map (inW p)=ins/\zBX p D s V ys tns=true/\zwS D s ys tns=zwS D s xs tns/\AV.relL γ w ys vs) (hdf:∀c,o.op≠ .defer c)
  (wa:xs.length=args.length) (hD0:D.isEmpty=false) (hout:(wb.all (zrO (1::p.map (·.2)) D s))=true) (hV:wb.flatMap (zfB s)=V):
  zns P o (args.zip xs) (p.map (·.1)) V (zmh (wb.map (zla D s))) (zwS D s xs tns):=by
 intro γ a w hi next Q hk;obtain ⟨vs,hr0,ys,hin,hB,hTP,hvs⟩:=hrun a w γ (zoI wa hi);simp only [zBX,xA,xJ] at hB;obtain ⟨⟨⟨⟨⟨b1,b2⟩,b3⟩,b4⟩,b5⟩,b6⟩:=hB;have h2:∀q∈p,2<=q.2:=fun q hq=>xU (b2 q hq).1
 have hpb:∀q∈p,zgF p q.2=some q.1:=fun q hq=>by
  have:=(b2 q hq).2;cases hf:zgF p q.2 with
  | none=>rw [hf] at this;cases this
  | some c=>rw [hf] at this;rw [xD this]
 obtain ⟨S,hS⟩:∃S:Fp,∀b,S b↔∃q∈(zhN ys).zip (zrE ys vs),(∃ℓ,mlab p q.1=some ℓ)/\blk q.2=some b:=⟨_,fun b=>Iff.rfl⟩;have hin':AV.relL (ghW γ D p S) w ins vs:=by
  rw [<-hin];exact zwn b3 hpb h2 hvs (fun x hx c hc=>zal (b4 x hx) c hc) (fun q hq ℓ hℓ b hb=>(hS b).2 ⟨q,hq,⟨ℓ,hℓ⟩,hb⟩)
 have hp2:(p.all fun q=>Nat.ble 2 q.2)=true:=xJ.2 fun q hq=>(b2 q hq).1
 refine zFe (args:=args) (ts:=#[]) hr0 hdf (ok w _ _ hin') fun e w' hR=>?_
 obtain ⟨γc,us,rfl,⟨⟨x1,x2,x3,x4⟩,x5,x6,x7⟩,hr,ht⟩:=hR;have hA:=zxG hvs;have hTt:=zvc hvs ht;have hold:zsI γ γc w.heap.size (1::p.map (·.2)) D:=fun b hb=>by
  rcases yN ((ghW γ D p S).col b) 2 with h| h
  ·obtain ⟨e1,_⟩:=x5 b hb h;rcases yN ((ghW γ D p S).col b) 1 with h0| h0
   ·exact .inl ⟨by omega,zxI (p:=p) (S:=S) hp2 (by omega)⟩
   grind
  ·obtain ⟨hs,_⟩:=zss h;obtain ⟨q,hq,⟨ℓ,hℓ⟩,hbk⟩:=(hS b).1 hs;obtain ⟨t,hqt,_,g2⟩:=zro hA hTt q hq;obtain ⟨k,hk1,hk2⟩:=zEX (b5 _ hqt) hℓ hbk g2
   grind
 have hDne:D≠[]:=fun e=>by rw [e] at hD0;cases hD0
 have low:∀b,b<w.heap.size->¬(S b/\∃k,zdU p (γ.col b)=some k)->w'.heap[b]? =w.heap[b]? :=fun b hb hn=>by
  rcases yN ((ghW γ D p S).col b) 2 with h| h
  ·grind
  ·exact absurd (zss h) hn
 simp only [xJ] at hout;subst hV;refine ⟨_,rfl,hk (zeX γ γc w.heap.size D s (wb.flatMap (zfB s))) w' _ ⟨x1,x2,x3,x4,fun b hb hn=>low b hb (fun ⟨_,k,hk⟩=>hn (xK.2 ⟨_,zdA hk,rfl⟩)),fun b hb=>?_,fun ℓ hℓ=>?_,fun b h1 h2 h0=>?_⟩ (zoK (zoa hr fun x hx v hv=>?_)) ?_⟩
 ·show (if b<w.heap.size then γ.col b else _)=_;rw [xx hb]
 ·show (if ℓ∈wb.flatMap (zfB s) then _ else γ.box ℓ)=_;rw [xw hℓ]
 ·exfalso;have hne:=x7 b h1 h2;have h0':(if b<w.heap.size then γ.col b else if γc.col b=0 then D.headD 1 else if γc.col b=1 then 1 else γc.col b+s)=0:=h0
  grind
 ·exact zrk hold xy hDne (hout x hx) (fun c hc=>qd.2 ⟨x,hx,hc⟩) hv
 ·intro q hq;rw [<-hTP] at hq;obtain ⟨⟨x,t⟩,hm,hq⟩:=qd.1 hq;obtain ⟨u,hu,g1,g2⟩:=zyu hA hTt (x,t) hm;have htk:=b5 _ hm;simp only at g1 g2 hu;have hdV:∀ℓ k,zdU p ℓ=some k->ℓ∉wb.flatMap (zfB s):=fun ℓ k hf=>zkc b6 _ (xK.2 ⟨_,zdA hf,rfl⟩)
  cases x with
  | own r e ℓ C xs=>
   cases t with
   | own r' e' k' C' xs'=>
    simp only [tp1,ym] at hq;subst hq;simp only [tOk] at htk;cases hf:zdU p ℓ with
    | none=>rw [hf] at htk;cases htk
    | some k=>
     rw [hf] at htk;simp only [xA,beqT] at htk;obtain ⟨⟨⟨⟨t1,t2⟩,t3⟩,t4⟩,t5⟩:=htk;have e1:=xD t2;subst e1;refine zzK g1 g2 (xD t1) hold xy hDne t4 (zdM t5) (hdV ℓ k hf) fun hnil g hg wj=>low g hg fun ⟨hs,_⟩=>?_
     obtain ⟨q2,hq2,⟨ℓ2,hℓ2⟩,hbk⟩:=(hS g).1 hs;obtain ⟨t',hqt',g3,_⟩:=zro hA hTt q2 hq2;have hc2:γ.col g=ℓ2:=by
      obtain ⟨a2,v2⟩:=q2;simp only at hℓ2 hbk g3;cases a2 with
      | own r2 e2 l2 C2 y2=>
       simp only [mlab] at hℓ2;rcases zkq g3 with ⟨rfl,_⟩| ⟨g',cap',rfl,p1,_⟩
       ·cases hbk
       ·cases hbk;split at hℓ2<;>cases hℓ2;exact p1
      | om rk2 vV l2 C2 m2=>
       simp only [mlab] at hℓ2;obtain ⟨b2,_,_,rfl,⟨p1,_⟩,_⟩:=g3;cases hbk;split at hℓ2<;>cases hℓ2;exact p1
      | _=>cases hℓ2
     have hl2:ℓ2=ℓ:=by rw [<-hc2,wj]
     subst hl2;have:=zvs b1 hq2 hu hℓ2 (by simp [mlab,hf]);subst this;simp only at hbk;rw [hnil] at hbk;cases hbk
   | _=>simp [tp1] at hq
  | om rk rv ℓ C m=>
   cases t with
   | om rk' rv' k' C' m'=>
    simp only [tp1,ym] at hq;subst hq;simp only [tOk] at htk;cases hf:zdU p ℓ with
    | none=>rw [hf] at htk;cases htk
    | some k=>
     rw [hf] at htk;simp only [xA] at htk;obtain ⟨⟨t3,t4⟩,t5⟩:=htk;exact zBK g1 g2 hold xy hDne t4 (zdM t5) (hdV ℓ k hf)
   | _=>simp [tp1] at hq
  | _=>simp [tp1] at hq
theorem zAM {P:Program} {o:Oper} {f:FuncId} {args:List Operand} {ts:Array TypeId} {ins wb tns:List AV} (xs:List AV) (p:List (Nat×Nat)) (D:List Nat) (s:Nat) (V:List Nat) (ho:o.op= .call ⟨.value (.func f),args.toArray,ts⟩)
  (hc:∀as w,(callFunc f as).run P w= .ok (.enter f as) w) (ok:zrx P f ins wb tns) (hin:xs.map (inW p)=ins) (wa:xs.length=args.length) (hB:zBX p D s V xs tns=true) (hD0:D.isEmpty=false)
  (hout:(wb.all (zrO (1::p.map (·.2)) D s))=true) (hV:wb.flatMap (zfB s)=V):zns P o (args.zip xs) (p.map (·.1)) V (zmh (wb.map (zla D s))) (zwS D s xs tns):=
 zDC xs p D s V ok (fun a w γ h=>⟨_,by simp [execOp,ho,resolve,Act.eval,Deferred.ofValue,invoke,hc],xs,hin,hB,rfl,h⟩) (fun c=>by rw [ho];exact nofun) wa hD0 hout hV
def zAa:List Bx->List AV->Prop
 | [],[]=>True
 | b::bs,.ep r C x off::cs=>(off=0/\zfE b.avs=some (r.lv x)/\subN (b.lab::AV.colsL b.avs) C=true)/\zAa bs cs
 | b::bs,.em rk rv C m::cs=>((∃ℓ C0,b.avs=[.om rk rv ℓ C0 m]/\subN (b.lab::ℓ::C0) C=true)\/∃C0,b.avs=[.mp rk rv C0 m]/\subN (b.lab::C0) C=true)/\zAa bs cs
 | _,_=>False
theorem zqW :∀(xs:List Operand) (bs:List Bx) (cs:List AV),zAa bs cs->xs.length=bs.length->(∀p∈xs.zip (bs.map fun b=>AV.ptr b.lab 0),p.2.rel γ w (ev p.1))->Bxs γ w bs->AV.relL γ w cs (xs.map ev)
 | [],[],[],_,_,_,_=>rfl
 | [],[],_::_,h,_,_,_=>h.elim
 | x::xs,b::bs,.ep r C y off::cs,h,hl,hi,hb=>by
  obtain ⟨⟨rfl,h1,h2⟩,h3⟩:=h;refine ⟨ev x,xs.map ev,rfl,?_,zqW xs bs cs h3 (by simpa using hl) (fun p hp=>hi p (xz _ hp)) (fun c hc=>hb c (xz _ hc))⟩;have hv:=hi (x,.ptr b.lab 0) xy;obtain ⟨hc,cells,hh,hL,hone⟩:=hb b xy;have hsub:=zal h2;refine ⟨γ.box b.lab,0,cells,hv,by rw [hc];exact hsub _ xy,(yv.1 hh).1,zhC h1 hL (fun c hc=>hsub c (xz _ hc)),fun i hi=>?_⟩;rw [yQ w _ _ _ _ _ hh];simp
 | x::xs,b::bs,.em rk rv C m::cs,h,hl,hi,hb=>by
  obtain ⟨h1,h3⟩:=h;refine ⟨ev x,xs.map ev,rfl,?_,zqW xs bs cs h3 (by simpa using hl) (fun p hp=>hi p (xz _ hp)) (fun c hc=>hb c (xz _ hc))⟩;have hv:=hi (x,.ptr b.lab 0) xy;obtain ⟨hc,cells,hh,hL,hone⟩:=hb b xy;have vY:=(yv.1 hh).1;have hcell:∀u,cells=[u]->w.cell? ⟨γ.box b.lab,0,none⟩=some u:=fun u hu=>by rw [yQ w _ _ _ _ _ hh];simp [hu]
  rcases h1 with ⟨ℓ,C0,e1,h2⟩| ⟨C0,e1,h2⟩
  ·have hsub:=zal h2;rw [e1] at hL;obtain ⟨u,r,hu,⟨b',es,cl,hu',⟨g1,_⟩,hlt',hh',hE,_⟩,hr⟩:=hL;cases hr;exact ⟨γ.box b.lab,b',es,cl,hv,by rw [hc];exact hsub _ xy,vY,by rw [hcell u hu,hu'],by rw [g1];exact hsub _ (xz _ xy),hlt',hh',hE.mono fun c _ hc'=>hsub _ (xz _ (xz _ hc'))⟩
  ·have hsub:=zal h2;rw [e1] at hL;obtain ⟨u,r,hu,⟨b',es,cl,hu',hF,hlt',hh',hE⟩,hr⟩:=hL;cases hr;exact ⟨γ.box b.lab,b',es,cl,hv,by rw [hc];exact hsub _ xy,vY,by rw [hcell u hu,hu'],hsub _ (xz _ hF),hlt',hh',hE.mono fun c _ hc'=>hsub _ (xz _ hc')⟩
 | _::_,_::_,[],h,_,_,_=>h.elim
 | _::_,_::_,.any::_,h,_,_,_=>h.elim
 | _::_,_::_,.lf _::_,h,_,_,_=>h.elim
 | _::_,_::_,.sl ..::_,h,_,_,_=>h.elim
 | _::_,_::_,.own ..::_,h,_,_,_=>h.elim
 | _::_,_::_,.rc ..::_,h,_,_,_=>h.elim
 | _::_,_::_,.ptr ..::_,h,_,_,_=>h.elim
 | _::_,_::_,.bs ..::_,h,_,_,_=>h.elim
 | _::_,_::_,.tl ..::_,h,_,_,_=>h.elim
 | _::_,_::_,@AV.mo _ _ _ _ _ _ _ _ _::_,h,_,_,_=>h.elim
 | _::_,_::_,.cu ..::_,h,_,_,_=>h.elim
 | _::_,_::_,.qp ..::_,h,_,_,_=>h.elim
 | _::_,_::_,.mp ..::_,h,_,_,_=>h.elim
 | _::_,_::_,.om ..::_,h,_,_,_=>h.elim
 | _::_,_::_,.tup ..::_,h,_,_,_=>h.elim
 | _::_,_::_,.ag ..::_,h,_,_,_=>h.elim
 | _::_,_::_,.fv ..::_,h,_,_,_=>h.elim
 | _::_,_::_,.bp ..::_,h,_,_,_=>h.elim
 | _::_,_::_,.it ..::_,h,_,_,_=>h.elim
 | [],_::_,_,_,hl,_,_=>by simp at hl
 | _::_,[],_,_,hl,_,_=>by simp at hl
theorem zEC (xs:List Operand) (bs:List Bx) (cs:List AV) (ho:o.op= .makeFunc (.func g) #[] xs.toArray) (hc:zAa bs cs) (hl:xs.length=bs.length):
  zv P o (xs.zip (bs.map fun b=>AV.ptr b.lab 0)) bs [] [] (.fv g cs) []:=by
 refine zL fun γ ev w hi hb=>?_
 exact ⟨.func (.func g) #[] (xs.map ev).toArray,w,γ,by simp [execOp,ho,Instr.makeFunc],Tr.refl _ _ _ _,⟨xs.map ev,rfl,zqW xs bs cs hc hl hi hb⟩,fun b hb=>by cases hb⟩
def isFv (g:Nat) (l:List AV) (a:AV):Prop:=∀γ w v,a.rel γ w v->∃us:List Value,v= .func (.func g) #[] us.toArray/\AV.relL γ w l us
theorem zEm (g:Nat) (l:List AV):isFv g l (.fv g l):=fun _ _ _ ⟨vs,hv,hL⟩=>⟨vs,hv,hL⟩
theorem zCT {P:Program} {o:Oper} {f:FuncId} {y:Operand} {a:AV} {caps:List AV} {args:List Operand} {ts:Array TypeId} {ins wb:List AV} (xs:List AV) (D:List Nat) (s:Nat)
  (ho:o.op= .call ⟨.value y,args.toArray,ts⟩) (hf:isFv f caps a) (hc:∀as w,(callFunc f as).run P w= .ok (.enter f as) w) (ok:FnOk P f ins wb)
  (hin:(xs++caps).map inAV=ins) (wa:xs.length=args.length) (hD:((xs++caps).all fun a=>subN (zrc a) D)=true) (hD0:D.isEmpty=false) (hout:(wb.all (zrO [1] D s))=true):
  zv P o ((y,a)::args.zip xs) [] [] (wb.flatMap (zfB s)) (zmh (wb.map (zla D s))) []:=by
 intro γ av w hi hb next Q hk;obtain ⟨us,hv,hcaps⟩:=hf γ w _ (hi (y,a) xy);have hxs:AV.relL γ w xs (args.map av.eval):=zoI wa fun p hp=>hi p (xz _ hp)
 have hall:=zqu hxs hcaps;have hvs:AV.relL (gh0 (γ.F D)) w ins (args.map av.eval++us):=by
  subst hin;simp only [xJ] at hD;exact zoa hall fun x hx v hv=>zxK hv (zal (hD x hx))
 have hcall:=ok w (γ.F D) _ hvs;have hrun:(execOp av.eval o).run P w= .ok (.enter f (args.map av.eval++us).toArray) w:=by
  simp only at hv;simp [execOp,ho,resolve,hv,Deferred.ofValue,invoke,hc]
 unfold Oper.wp;rw [hrun,qs];refine hcall.mono fun e w' ⟨γc,us,he,hB,⟨hold,hfr⟩,hr⟩=>?_
 subst he;have hDne:D≠[]:=fun e=>by rw [e] at hD0;cases hD0
 simp only [xJ] at hout;refine hk (zeX γ γc w.heap.size D s (wb.flatMap (zfB s))) w' _ ⟨hB.os,hB.tape,hB.output,hB.size,fun b hb _=>hB.block b hb,fun b hb=>?_,fun ℓ hℓ=>?_,fun b h1 h2 h0=>?_⟩ (zoK (zoa hr fun x hx v hv=>?_)) (fun b hb=>by cases hb)
 ·show (if b<w.heap.size then γ.col b else _)=_;rw [xx hb]
 ·show (if ℓ∈wb.flatMap (zfB s) then _ else γ.box ℓ)=_;rw [xw hℓ]
 ·exfalso;have hne:=hfr b h1 h2;have h0':(if b<w.heap.size then γ.col b else if γc.col b=0 then D.headD 1 else if γc.col b=1 then 1 else γc.col b+s)=0:=h0
  grind
 ·exact zrk (K:=[1]) (fun b hb=>(hold b hb).imp id fun h=>by simp [h]) (by simp) hDne (hout x hx) (fun c hc=>qd.2 ⟨x,hx,hc⟩) hv
section
variable {m:Bool} {P:Program} {l:List It} {cx:Cx} {E E1:Env}
theorem zlZ (h:zev E E1):JI m P (.c .ret::l) (Sx cx E) fun e a w=>(e= .ret\/e= .normal)/\Sx cx E1 a w:=zzl fun _ _ hs=>⟨.inl rfl,h.go hs⟩
theorem zvi (h:zev E E1):JI m P [] (Sx cx E) fun e a w=>(e= .ret\/e= .normal)/\Sx cx E1 a w:=zCz fun _ _ hs=>⟨.inr rfl,h.go hs⟩
end
theorem zns.le (h:zns P o ins W V av T) (hl:leI ins' ins):zns P o ins' W V av T:=
 fun γ a w hi=>h γ a w (zwu _ _ hl hi)
theorem zrx.le (h:zrx P f ins wb ts) (hl:leL ins' ins):zrx P f ins' wb ts:=fun w γ vs hr=>h w γ vs (zqi hl hr)
theorem zBH {γ':Gh} {a:Act} {w':World} {d:Option Nat} {av:AV} {v:Value} (hd:∀k,d=some k->k<a.tmps.size) (hv:av.rel γ' w' v):∀f∈slOf d av,f.rel γ' (a.put d v) w':=by
 intro f hf;cases d with
 | none=>cases hf
 | some k=>
  simp only [slOf,xC,xS,xT] at hf;subst hf;show av.rel γ' w' ((a.put (some k) v).tmps.getD k undef);rw [zhc (hd k rfl)];exact hv
def zFU:Operand×AV->Prop
 | (.tmp _,_)=>True
 | (.const v,a)=>zoz v=some a
 | _=>False
def zsS:List (Operand×AV)->Prop
 | []=>True
 | p::l=>zFU p/\zsS l
theorem zyv :∀{ins:List (Operand×AV)},zsS ins->(∀f∈zlc ins,f.rel γ a w)->∀p∈ins,p.2.rel γ w (a.eval p.1)
 | [],_,_,p,hp=>by cases hp
 | (x,y)::l,hc,h,p,hp=>by
  obtain ⟨h1,h2⟩:=hc;have ht:∀f∈zlc l,f.rel γ a w:=fun f hf=>h f (by cases x<;>simp [zlc,hf])
  cases hp with
  | head=>
   cases x with
   | tmp k=>exact h (.sl k y) (by simp [zlc])
   | const v=>exact zkW h1 γ w
   | _=>exact h1.elim
  | tail _ hp=>exact zyv h2 ht p hp
section
end
set_option linter.unusedSectionVars false
section
variable {κ ν μ α:Type} [DecidableEq κ]
theorem zFa {F:Fp} {w:World} {x v:Value} (h:VRel F w Rp.valR x v):v=x/\x.oneCell'=true:=by
 have h1:zaI F w (.val x) v:=zuj rfl rfl h;cases h1 with
 | val _ h'=>exact ⟨rfl,h'⟩
theorem znr.own (h:znr γ w r e ℓ C xs v) (hn:ℓ∉C):AV.rel ⟨γ.col,fun _=>v.ownBlock.getD 0⟩ w (.own r e ℓ C xs) v:=by
 obtain ⟨cs,ho,hg,hA⟩:=h;exact ⟨cs,ho,fun g hgb=>⟨hg g hgb,by simp [hgb]⟩,hA,hn⟩
theorem znr.vrel (h:znr γ w r e ℓ C xs v) (hn:ℓ∉C):VRel (γ.F (ℓ::C)) w (Rp.list r) xs v:=
 zvS rfl rfl (zaI.mono (zpB (h.own hn)) fun _ _ h=>h)
theorem znr.one (h:znr γ w r e ℓ C xs v):v.oneCell'=true:=by
 obtain ⟨cs,ho,_⟩:=h;rcases ho.2 with ⟨rfl,_⟩| ⟨g,cap,cur,rfl,_⟩<;>rfl
theorem esOf (h:zcP F w rk Rp.valR n es) (hFG:∀b,F b->G b):∀{m:List (κ×ν)},m.map Prod.fst=n.map Prod.fst->(n.map Prod.fst).Nodup->
  (∀k xs u,mget m k=some xs->mget n k=some u->VRel G w rv xs u)->zcP G w rk rv m es:=by
 induction h with
 | nil=>intro m hm _ _;cases m with
  | nil=>exact .nil
  | cons p m=>simp at hm
 | @cons q n e es h1 h2 h3 ih=>
  intro m hm hnd hr;cases m with
  | nil=>simp at hm
  | cons p m=>
   simp only [xM,yA] at hm;rw [xM,List.nodup_cons] at hnd;refine .cons ?_ ?_ (ih hm.2 hnd.2 fun k xs u k1 k2=>?_)
   ·rw [hm.1];exact h1.mono fun b _ hb=>hFG b hb
   ·rw [(zFa h2).1];exact hr q.1 p.2 q.2 (by rw [mget,xx hm.1.symm]) (by rw [mget,xx rfl])
   ·have hk:k∈n.map Prod.fst:=Classical.byContradiction fun hk=>by
     have:mget n k=none:=by
      clear k2 k1 ih h3 hr hnd hm
      induction n with
      | nil=>rfl
      | cons x n ih=>rw [mget,xw (fun e=>hk (by rw [e];exact xy))];exact ih fun h=>hk (xz _ h)
     grind
    have hne:k≠q.1:=fun e=>hnd.1 (by rw [<-e];exact hk)
    exact hr k xs u (by rw [mget,xw (by rw [hm.1];exact hne)];exact k1) (by rw [mget,xw hne];exact k2)
theorem zEn (rk:Rp κ) (r:Rp α) (e:TypeId) (ℓ:Nat) (C:List Nat) (m:List (κ×List α)):isMp rk (Rp.list r) m (ℓ::C) (.mo rk r e ℓ C m):=fun γ w v ⟨b,n,hv,es,cl,⟨g1,g2⟩,hb,hh,hO,hE,hR,hn⟩=>
 ⟨b,es,cl,hv,by rw [g1];exact xy,hb,⟨hh,hO.1,hO.2.1,by rw [hR.keys];exact hO.2.2⟩,esOf hE (fun b hb=>xz _ hb) hR.keys hO.2.2 fun k xs u k1 k2=>(hR.row k xs u k1 k2 trivial).vrel hn⟩
theorem zGR (rk:Rp κ) (r:Rp α) (e:TypeId) (ℓ:Nat) (C C':List Nat) (m:List (κ×List α)) (h:subN C C'=true) (hn:memN ℓ C'=false):AV.le (.mo rk r e ℓ C m) (.mo rk r e ℓ C' m):=fun _ _ _ ⟨b,n,hv,hm⟩=>
 ⟨b,n,hv,hm.regh (fun _ _ h=>h) (fun _ _ hb=>zal h _ hb) rfl fun hc=>by rw [zas.2 hc] at hn;cases hn⟩
theorem zGb (rk:Rp κ) (r:Rp α) (e:TypeId) (ℓ:Nat) (C C':List Nat) (m:List (κ×List α)) (h:subN (ℓ::C) C'=true):AV.le (.mo rk r e ℓ C m) (.mp rk (Rp.list r) C' m):=fun γ w v hv=>zCL _ _ m h γ w v (zEn rk r e ℓ C m γ w v hv)
end
section
variable {P:Program} {o:Oper} {κ α:Type} [DecidableEq κ] {rk:Rp κ} {r:Rp α} {e:TypeId} {ℓ:Nat} {C D C1:List Nat} {m:List (κ×List α)} {t kt et:TypeId} {q:κ}
theorem zGG (h:zok (.sl n s ls) z=true):z= .slice none 0 0:=by
 unfold zok at h
 grind
theorem MapT.val (hT:MapT P t kt et rk (Rp.list r) ([]:List α)):MapT P t kt et rk Rp.valR (.slice none 0 0):=by
 refine ⟨hT.u,hT.key,?_⟩;obtain ⟨i,z,hi,hz,hzo,hza,hzb⟩:=hT.zero;have hz0:z= .slice none 0 0:=by
  have hc:=hzb rfl;rw [hc] at hzo;have h1:zokL [LV.sl 0 r.size []] [z]=true:=hzo;simp only [zokL,xA] at h1;exact zGG h1.1
 subst hz0;exact ⟨i,_,hi,hz,by simp [Rp.valR,Value.cells,zokL,zok],⟨fun h=>(by cases h),fun _=>rfl⟩⟩
end
def BxsT (W V:List Nat) (T:List (AV×AV)):List (Bx×Bx)->Prop
 | []=>True
 | (b,c)::l=>(b.lab=c.lab/\b.typ=c.typ/\(!memN b.lab W&& !memN b.lab V)=true/\zmt W V T b.avs c.avs)/\BxsT W V T l
theorem BxsT.rel (t:Tr W V γ w γ' w') (hT:∀p∈T,zms γ w γ' w' p):∀{l:List (Bx×Bx)},BxsT W V T l->(∀p∈l,p.1.rel γ w)->∀p∈l,p.2.rel γ' w'
 | [],_,_,p,hp=>by cases hp
 | (b,c)::l,h,hs,p,hp=>by
  obtain ⟨⟨hlab,hty,hWV,ht⟩,h2⟩:=h;cases hp with
  | head=>
   obtain ⟨g1,cs,hh,hL,h1⟩:=hs (b,c) xy;simp only [xA] at hWV;simp only at g1 hh hL;have vY:=(yv.1 hh).1;refine ⟨?_,cs,?_,ht.rel t hT hL,h1⟩
   ·simp only;rw [<-hlab,t.box _ (zdM hWV.2),t.col _ vY];exact g1
   ·simp only;rw [<-hlab,t.box _ (zdM hWV.2),<-hty,t.block _ vY (by rw [g1];exact zdM hWV.1)];exact hh
  | tail _ hp=>exact BxsT.rel t hT h2 (fun p hp=>hs p (xz _ hp)) p hp
theorem zBy (ks:List Nat) (bs:List (Bx×Bx)) (h:zns P o ins W V av [(a,a')]) (hc:zsS ins) (hd:∀k∈ks,o.dst≠some k) (hb:BxsT W V [(a,a')] bs):
  zxg P o (zlc ins++(ks.map (fun k=> .sl k a)++bs.map fun p=> .bx p.1)) W V (slOf o.dst av++(ks.map (fun k=> .sl k a')++bs.map fun p=> .bx p.2)):=by
 intro γ ac w we hr next Q hk;refine h γ ac w (zyv hc fun f hf=>hr f (yl _ hf)) next Q fun γ' w' v ht hv hT=>hk γ' w' v ht fun f hf=>?_
 rcases xE.1 hf with hf| hf
 ·exact zBH we hv f hf
 ·rcases xE.1 hf with hf| hf
  ·obtain ⟨k,hk',rfl⟩:=xK.1 hf;have h0:=hr (.sl k a) (yc _ (yl _ (xK.2 ⟨k,hk',rfl⟩)));have h1:=hT (a,a') (by simp) _ h0;show a'.rel γ' w' ((ac.put o.dst v).tmps.getD k undef);cases hdd:o.dst with
   | none=>exact h1
   | some d=>rw [zkj (fun e=>hd k hk' (by rw [hdd,e]))];exact h1
  ·obtain ⟨p,hp,rfl⟩:=xK.1 hf;exact hb.rel ht hT (fun p hp=>hr (.bx p.1) (yc _ (yc _ (xK.2 ⟨p,hp,rfl⟩)))) p hp
section
variable {κ ν:Type} [DecidableEq κ]
variable {rk:Rp κ} {rv:Rp ν}
theorem ztq (ea:AV) (ho:o.op= .lookup t x z false) (hT:MapT P t kt et rk rv x0) (hk:asV rk k C1 b) (he:elAV rv C ((mget m k).getD x0) ea):
  zv P o [(x,.om rk rv ℓ C m),(z,b)] [] [] [] ea []:=by
 refine zL fun γ ev w hi _=>?_
 obtain ⟨b',es,cl,hv,hF,hb,hh,hE,hn⟩:=hi (x,.om rk rv ℓ C m) (by simp);have h2:=hk γ w _ (hi (z,b) (by simp));simp only at hv h2;obtain ⟨v,hr,hV⟩:=ztT hT hh.1 hE h2 false;exact ⟨v,w,γ,by simp [execOp,ho,hv,hr],Tr.refl _ _ _ _,he γ w v hV,fun b hb=>by cases hb⟩
theorem zBo (ea:AV) (ho:o.op= .lookup t x z true) (hT:MapT P t kt et rk rv x0) (hk:asV rk k C1 b) (he:elAV rv C ((mget m k).getD x0) ea):
  zv P o [(x,.om rk rv ℓ C m),(z,b)] [] [] [] (.tup [ea,.lf (.bool (mget m k).isSome)]) []:=by
 refine zL fun γ ev w hi _=>?_
 obtain ⟨b',es,cl,hv,hF,hb,hh,hE,hn⟩:=hi (x,.om rk rv ℓ C m) (by simp);have h2:=hk γ w _ (hi (z,b) (by simp));simp only at hv h2;obtain ⟨v,hr,hV⟩:=ztT hT hh.1 hE h2 true;exact ⟨_,w,γ,by simp [execOp,ho,hv,hr],Tr.refl _ _ _ _,⟨[v,.bool (mget m k).isSome],rfl,v,_,rfl,he γ w v hV,_,_,rfl,zAx _ _ _,rfl⟩,fun b hb=>by cases hb⟩
end
set_option linter.unusedSectionVars false
def fnXP (w0:World) (γ0:Gh):Ext where
 X γ w:=(fnXW w0 γ0).X γ w/\∀b,b<w0.heap.size->spB (γ0.col b)=true->γ.col b=γ0.col b
 tr:=fun {γ γ' w w' W V} h t hW hV=>⟨(fnXW w0 γ0).tr h.1 t hW hV,fun b hb hs=>(t.col b (yi hb h.1.1.2.2.2)).trans (h.2 b hb hs)⟩
 ren:=fun {γ γ' w} h k=>⟨(fnXW w0 γ0).ren h.1 k,fun b hb hs=>(k.old b (by rw [h.2 b hb hs];exact hs)).trans (h.2 b hb hs)⟩
 base:=w0.heap.size
 le:=fun h=>h.1.1.2.2.2
def zgO (P:Program) (f:FuncId) (ins wb:List AV) (bs:List Bx) (ks:List Nat) (bs2:List Bx):Prop:=
 ∀(w:World) (γ0:Gh) (vs:List Value),AV.relL γ0 w ins vs->Bxs γ0 w bs->Calls P f vs.toArray w fun e w'=>∃γ us,e= .returned (zhT us)/\(fnXP w γ0).X γ w'/\AV.relL γ w' wb us/\Bxs γ w' bs2/\∀k∈ks,γ.box k=γ0.box k
def KpOk (ins:List AV) (E:Env) (keep:List Nat):List (Nat×Nat)->Prop
 | []=>True
 | q::l=>(memN q.1 keep=true/\ins[q.1]? =some (.ptr q.2 0)/\lookup E.sl q.1=some (.ptr q.2 0))/\KpOk ins E keep l
theorem KpOk.at :∀{l:List (Nat×Nat)},KpOk ins E keep l->∀q∈l,memN q.1 keep=true/\ins[q.1]? =some (.ptr q.2 0)/\lookup E.sl q.1=some (.ptr q.2 0)
 | [],_,q,hq=>by cases hq
 | p::l,h,q,hq=>by
  cases hq with
  | head=>exact h.1
  | tail _ hq=>exact KpOk.at h.2 q hq
theorem Bxs.regh (h:∀b,b<w.heap.size->γ'.col b=γ.col b) (hb:∀ℓ,γ'.box ℓ=γ.box ℓ) (hr:Bxs γ w bs):Bxs γ' w bs:=by
 intro b hm;obtain ⟨h1,cs,hh,hL,h1c⟩:=hr b hm;have vY:=(yv.1 hh).1;exact ⟨by rw [hb,h _ vY];exact h1,cs,by rw [hb];exact hh,AV.reghL _ (fun b hb _=>h b hb) (fun ℓ _=>hb ℓ) hL,h1c⟩
theorem zjF {P:Program} {f:FuncId} {fn:Func} {c:Code} {ins wb:List AV} {bs bs2:List Bx} {E:Env} (N:Nat) (ks:List Nat) (kp:List (Nat×Nat)) (hf:P.funcs[f]? =some fn) (hb:fn.body=some c) (hN:fn.ntmps=N) (wa:Nat.ble ins.length N=true)
  (hres:zkV P E fn.results.toList wb) (hkp:KpOk ins E ks kp) (hbs:zsH E bs2)
  (hj:∀(X:Ext) (old:Array Value),J true P c (Sx ⟨⟨N,ks⟩,X,false,old⟩ ⟨zmB 0 ins,bs⟩) fun e a w=>(e= .ret\/e= .normal)/\Sx ⟨⟨N,ks⟩,X,false,old⟩ E a w):zgO P f ins wb bs (kp.map (·.2)) bs2:=by
 subst hN;intro w γ0 vs hr hbx0;have hl:=zcq hr;have wa:=xU wa;obtain ⟨tm,htm⟩:∃tm:Array Value,tm=vs.toArray++Array.replicate (fn.ntmps - vs.toArray.size) undef:=⟨_,rfl⟩;obtain ⟨γ1,hγ1⟩:∃γ1:Gh,γ1=⟨fun b=>if b<w.heap.size then γ0.col b else 2,γ0.box⟩:=⟨_,rfl⟩;have wj:∀b,b<w.heap.size->γ1.col b=γ0.col b:=fun b hb=>by rw [hγ1];simp only [xx hb]
 have hbox:∀ℓ,γ1.box ℓ=γ0.box ℓ:=fun ℓ=>by rw [hγ1]
 have hX0:(fnXP w γ0).X γ1 w:=by
  refine ⟨⟨⟨rfl,rfl,rfl,xB _⟩,fun b hb h0=>⟨wj b hb,rfl⟩,fun b hb h0=>by rw [wj b hb];omega,fun b k1 k2=>by omega⟩,fun b hb _=>wj b hb⟩
 have hr':AV.relL γ1 w ins vs:=AV.reghL (γ:=γ0) ins (fun b hb _=>wj b hb) (fun ℓ _=>hbox ℓ) hr;have hb':Bxs γ1 w bs:=hbx0.regh wj hbox;have hgetv:∀(i:Nat) (v:Value),vs[i]? =some v->tm.getD i undef=v:=fun i v hv=>by
  rw [htm,yF,pL (by simpa using (yk.1 hv).1)];simp [hv]
 have hwp:=hj (fnXP w γ0) tm {tmps:=tm,defers:=[]} w ⟨γ1,⟨⟨[],rfl,pm,fun D hD=>by cases hD⟩,fun _=>rfl,?_,fun k hk=>rfl,hX0⟩,?_,hb'⟩
 ·have htm':=htm;subst htm;refine calls_of_wp hf hb (wp_mono (zDX hwp) ?_);rintro e a w' ⟨he,γ,hB,hS,hX⟩;obtain ⟨us,hu,hu'⟩:=zob (P:=P) (fn:=fn) hS hX hres;have hks:∀k∈kp.map (·.2),γ.box k=γ0.box k:=fun k hk=>by
   obtain ⟨q,hq,rfl⟩:=xK.1 hk;obtain ⟨m1,m2,m3⟩:=hkp.at q hq;have e1:a.tmps.getD q.1 undef= .pointer (some ⟨γ.box q.2,0,none⟩):=hS _ (zcO m3);have e2:=hB.kept q.1 (zas.1 m1);obtain ⟨v,hv,hvr⟩:=ztN hr m2;have e3:v= .pointer (some ⟨γ0.box q.2,0,none⟩):=hvr
   grind
  have key:∃γ us',zhT us=zhT us'/\(fnXP w γ0).X γ w'/\AV.relL γ w' wb us'/\Bxs γ w' bs2/\∀k∈kp.map (·.2),γ.box k=γ0.box k:=⟨γ,us,rfl,hB.ext,hu',hbs.rel hX,hks⟩;obtain ⟨γ2,us2,k1,k2,k3,k4⟩:=key;rcases he with rfl| rfl
  ·exact ⟨hB.clean rfl,zhT us,hu,γ2,us2,by rw [k1],k2,k3,k4⟩
  ·exact ⟨hB.clean rfl,zhT us,hu,γ2,us2,by rw [k1],k2,k3,k4⟩
 ·grind
 ·intro p hp;have:=zpm hr' [] (List.replicate (fn.ntmps - vs.length) undef) p hp;simp only [xZ] at this;have e:(vs++List.replicate (fn.ntmps - vs.length) undef).toArray=tm:=by rw [htm];simp
  grind
def inP (p:List (Nat×Nat)):AV->AV
 | .ptr ℓ off=>match zdU p ℓ with
  | some k=> .ptr k off
  | none=> .any
 | a=>inW p a
def inB (p:List (Nat×Nat)) (b:Bx):Bx:=⟨(zdU p b.lab).getD 0,b.typ,b.avs.map (inW1 p)⟩
def mapP (p:List (Nat×Nat)) (s c:Nat):Nat:=match zgF p c with
 | some ℓ=>ℓ
 | none=>c+s
def ziW (D:List Nat) (p:List (Nat×Nat)) (s:Nat):List Nat->List Nat
 | []=>[]
 | c::C=>(match c with
  | 0=>D
  | c+1=>[mapP p s (c+1)])++ziW D p s C
def zyf (D:List Nat) (p:List (Nat×Nat)) (s:Nat):AV->AV
 | .lf l=> .lf l
 | .sl r C xs=> .sl r (ziW D p s C) xs
 | .own r e ℓ C xs=> .own r e (mapP p s ℓ) (ziW D p s C) xs
 | .rc r C x=> .rc r (ziW D p s C) x
 | .qp r C o=> .qp r (ziW D p s C) o
 | .mp rk rv C m=> .mp rk rv (ziW D p s C) m
 | .om rk rv ℓ C m=> .om rk rv (mapP p s ℓ) (ziW D p s C) m
 | .ptr k off=> .ptr (mapP p s k) off
 | _=> .any
def outP (D:List Nat) (p:List (Nat×Nat)) (s:Nat):AV->AV
 | .ag l=> .ag (l.map (zyf D p s))
 | a=>zyf D p s a
def outB (D:List Nat) (p:List (Nat×Nat)) (s:Nat) (b:Bx):Bx:=⟨mapP p s b.lab,b.typ,b.avs.map (zyf D p s)⟩
def labP (p:List (Nat×Nat)) (s k:Nat):Bool:=Nat.ble 2 k&&(match zgF p k with
 | some ℓ=>(match zdU p ℓ with
  | some k'=>Nat.beq k' k
  | none=>false)
 | none=>(match zdU p (k+s) with
  | some _=>false
  | none=>true))
def boxP (p:List (Nat×Nat)) (s:Nat) (V ks:List Nat) (k:Nat):Bool:=labP p s k&&(memN (mapP p s k) V|| (memN k ks&&(match zgF p k with
 | some _=>true
 | none=>false)))
def okP1 (D:List Nat) (p:List (Nat×Nat)) (s:Nat) (V ks:List Nat):AV->Bool
 | .sl _ C _| .rc _ C _| .qp _ C _=> !memN 1 C
 | .mp _ _ C _=> !memN 1 C
 | .own _ _ ℓ C _=> !memN 1 C&&labP p s ℓ&&memN (mapP p s ℓ) V&& !memN (mapP p s ℓ) (ziW D p s C)
 | .om _ _ ℓ C _=> !memN 1 C&&labP p s ℓ&&memN (mapP p s ℓ) V&& !memN (mapP p s ℓ) (ziW D p s C)
 | .ptr k _=>boxP p s V ks k
 | _=>true
def okP (D:List Nat) (p:List (Nat×Nat)) (s:Nat) (V ks:List Nat):AV->Bool
 | .ag l=>l.all (okP1 D p s V ks)
 | a=>okP1 D p s V ks a
def okB (D:List Nat) (p:List (Nat×Nat)) (s:Nat) (V ks:List Nat) (b:Bx):Bool:=boxP p s V ks b.lab&&b.avs.all (okP1 D p s V ks)
def pOk (p:List (Nat×Nat)) (D:List Nat):Bool:=(p.all fun q=>Nat.ble 2 q.1&&spB q.2&&(match zgF p q.2 with
 | some c=>Nat.beq c q.1
 | none=>false))&&zgC (p.map (·.1)) D
theorem zvC:∀{l:List (Nat×Nat)} {c k:Nat},zgF l k=some c->(c,k)∈l
 | [],_,_,h=>by cases h
 | p::l,c,k,h=>by
  rw [zgF] at h;split at h
  ·rename_i hb;cases h;rw [<-xD hb];exact xy
  ·exact xz _ (zvC h)
noncomputable def ghP (γ γc:Gh) (n:Nat) (D:List Nat) (p:List (Nat×Nat)) (s:Nat) (V:List Nat):Gh:=
 ⟨fun b=>if b<n then γ.col b else if γc.col b=0 then D.headD 1 else if γc.col b=1 then 1 else mapP p s (γc.col b),fun ℓ=>match memN ℓ V with
  | true=>γc.box (match zdU p ℓ with
   | some k=>k
   | none=>ℓ - s)
  | false=>γ.box ℓ⟩
structure zry (γ γc:Gh) (n:Nat) (D:List Nat) (p:List (Nat×Nat)) (ks:List Nat) (w':World):Prop where
 old:∀b,b<n->(γc.col b=0/\γ.F D b)\/γc.col b=1\/(2<=γc.col b/\zgF p (γc.col b)=some (γ.col b))
 new:∀b,n<=b->b<w'.heap.size->γc.col b≠0
 box:∀k∈ks,∀ℓ,zgF p k=some ℓ->γc.box k=γ.box ℓ
section
variable {γ γc:Gh} {n:Nat} {D:List Nat} {p:List (Nat×Nat)} {s:Nat} {V ks:List Nat} {w':World}
theorem zvx {C:List Nat} {c:Nat} (h:c∈C):(c=0->∀d∈D,d∈ziW D p s C)/\(c≠0->mapP p s c∈ziW D p s C):=by
 induction C with
 | nil=>cases h
 | cons x C ih=>
  cases h with
  | head=>
   refine ⟨?_,?_⟩
   ·rintro rfl d hd;simp [ziW,hd]
   ·intro hc;cases c with
    | zero=>exact absurd rfl hc
    | succ c=>simp [ziW]
  | tail _ h=>
   obtain ⟨h1,h2⟩:=ih h;exact ⟨fun h0 d hd=>by simp only [ziW,xE];exact .inr (h1 h0 d hd),fun h0=>by simp only [ziW,xE];exact .inr (h2 h0)⟩
theorem zsr (h:zry γ γc n D p ks w') {b:Nat} (hk:2<=γc.col b):(ghP γ γc n D p s V).col b=mapP p s (γc.col b):=by
 unfold ghP;simp only;by_cases hb:b<n
 ·rw [xx hb];rcases h.old b hb with ⟨h0,_⟩| h1| ⟨_,h2⟩
  ·omega
  ·omega
  ·unfold mapP;rw [h2]
 grind
theorem zGN (h:zry γ γc n D p ks w') {C:List Nat} (h1:memN 1 C=false) {b:Nat} (vY:b<w'.heap.size) (hb:γc.F C b):(ghP γ γc n D p s V).F (ziW D p s C) b:=by
 have hb':γc.col b∈C:=hb;show (ghP γ γc n D p s V).col b∈_;by_cases h0:γc.col b=0
 ·by_cases hn:b<n
  ·rcases h.old b hn with ⟨_,hF⟩| h1'| ⟨h2,_⟩
   ·rw [h0] at hb';have:(ghP γ γc n D p s V).col b=γ.col b:=by unfold ghP;simp only [xx hn]
    rw [this];exact (zvx hb').1 rfl _ hF
   ·omega
   ·omega
  ·exact absurd h0 (h.new b (qA hn) vY)
 ·by_cases hk:γc.col b=1
  ·rw [hk] at hb';rw [zas.2 hb'] at h1;cases h1
  ·rw [zsr h (by omega)];exact (zvx hb').2 h0
theorem zsq (h:zry γ γc n D p ks w') {k:Nat} (hk:boxP p s V ks k=true):(ghP γ γc n D p s V).box (mapP p s k)=γc.box k:=by
 simp only [boxP,labP,xA,qv] at hk;obtain ⟨⟨h2,hl⟩,hv⟩:=hk;unfold ghP;simp only;cases hm:memN (mapP p s k) V with
 | true=>
  simp only;unfold mapP;cases hp:zgF p k with
  | some ℓ=>
   rw [hp] at hl;simp only at hl|-;cases hf:zdU p ℓ with
   | some k'=>rw [hf] at hl;simp only at hl|-;rw [xD hl]
   | none=>rw [hf] at hl;cases hl
  | none=>
   rw [hp] at hl;simp only at hl|-;cases hf:zdU p (k+s) with
   | some k'=>rw [hf] at hl;cases hl
   | none=>simp
 | false=>
  rw [hm] at hv;simp only [qj,false_or] at hv;cases hp:zgF p k with
  | some ℓ=>
   simp only;rw [show mapP p s k=ℓ by unfold mapP;rw [hp]];exact (h.box k (zas.1 hv.1) ℓ hp).symm
  | none=>rw [hp] at hv;exact absurd hv.2 (by simp)
theorem zzQ {k:Nat} (h:labP p s k=true) (hv:memN (mapP p s k) V=true):boxP p s V ks k=true:=by unfold boxP;rw [h,hv];rfl
theorem ztn {k:Nat} (h:labP p s k=true):2<=k:=by
 simp only [labP,xA] at h;simp_all
theorem zbY (h:zry γ γc n D p ks w') {a:AV} {v:Value} (wg:okP1 D p s V ks a=true) (hr:a.rel γc w' v):(zyf D p s a).rel (ghP γ γc n D p s V) w' v:=by
 have hF:∀C,memN 1 C=false->∀b,b<w'.heap.size->γc.F C b->(ghP γ γc n D p s V).F (ziW D p s C) b:=fun C h1 b hb hF=>zGN h h1 hb hF
 cases a with
 | any=>trivial
 | lf l=>exact hr
 | sl r C xs=>simp only [okP1,yd] at wg;exact zaI.mono hr (hF C wg)
 | rc r C x=>
  simp only [okP1,yd] at wg;obtain ⟨cs,hv,hA⟩:=hr;exact ⟨cs,hv,hA.mono (hF C wg)⟩
 | own r e ℓ C xs=>
  obtain ⟨cs,ho,hg,hA,hnot⟩:=hr;simp only [okP1,xA,yd] at wg;obtain ⟨⟨⟨k1,k2⟩,k3⟩,k4⟩:=wg;refine ⟨cs,ho,fun g hgb=>?_,hA.mono (hF C k1),fun hc=>by rw [zas.2 hc] at k4;cases k4⟩;obtain ⟨g1,g2⟩:=hg g hgb;refine ⟨?_,?_⟩
  ·rw [zsr h (by rw [g1];exact ztn k2),g1]
  ·rw [zsq h (zzQ k2 k3)];exact g2
 | mp rk rv C m=>
  simp only [okP1,yd] at wg;obtain ⟨b,es,cl,hv,hF',hb,hh,hE⟩:=hr;exact ⟨b,es,cl,hv,hF C wg b hb hF',hb,hh,hE.mono (hF C wg)⟩
 | om rk rv ℓ C m=>
  obtain ⟨b,es,cl,hv,⟨g1,g2⟩,hb,hh,hE,hnot⟩:=hr;simp only [okP1,xA,yd] at wg;obtain ⟨⟨⟨k1,k2⟩,k3⟩,k4⟩:=wg;refine ⟨b,es,cl,hv,⟨?_,?_⟩,hb,hh,hE.mono (hF C k1),fun hc=>by rw [zas.2 hc] at k4;cases k4⟩
  ·rw [zsr h (by rw [g1];exact ztn k2),g1]
  ·rw [zsq h (zzQ k2 k3)];exact g2
 | ptr k off=>
  have hv:v= .pointer (some ⟨γc.box k,off,none⟩):=hr;show v=_;rw [zsq h wg];exact hv
 | ep=>trivial
 | bs=>trivial
 | tl=>trivial
 | qp r C o=>
  simp only [okP1,yd] at wg;cases o with
  | none=>exact hr
  | some x=>
   obtain ⟨b,cs,hv,hF',hb,hA,hc⟩:=hr;exact ⟨b,cs,hv,hF C wg b hb hF',hb,hA.mono (hF C wg),hc⟩
 | em=>trivial
 | mo=>trivial
 | cu=>trivial
 | tup=>trivial
 | ag=>trivial
 | fv=>trivial
 | bp=>trivial
 | it=>trivial
theorem zpA (h:zry γ γc n D p ks w'):∀{l:List AV} {vs:List Value},l.all (okP1 D p s V ks)=true->AV.relL γc w' l vs->AV.relL (ghP γ γc n D p s V) w' (l.map (zyf D p s)) vs
 | [],_,_,hr=>hr
 | a::l,_,wg,hr=>by
  obtain ⟨v,vs',rfl,h1,h2⟩:=hr;simp only [yr,xA] at wg;exact ⟨v,vs',rfl,zbY h wg.1 h1,zpA h wg.2 h2⟩
theorem zDa (h:zry γ γc n D p ks w') {a:AV} {v:Value} (wg:okP D p s V ks a=true) (hr:a.rel γc w' v):(outP D p s a).rel (ghP γ γc n D p s V) w' v:=by
 cases a with
 | ag l=>obtain ⟨vs,hv,hL,h1⟩:=hr;exact ⟨vs,hv,zpA h wg hL,h1⟩
 | any=>exact zbY (s:=s) (V:=V) (ks:=ks) (a:= .any) h wg hr
 | lf l=>exact zbY (s:=s) (V:=V) (ks:=ks) (a:= .lf l) h wg hr
 | sl r C xs=>exact zbY (s:=s) (V:=V) (ks:=ks) (a:= .sl r C xs) h wg hr
 | own r e ℓ C xs=>exact zbY (s:=s) (V:=V) (ks:=ks) (a:= .own r e ℓ C xs) h wg hr
 | rc r C x=>exact zbY (s:=s) (V:=V) (ks:=ks) (a:= .rc r C x) h wg hr
 | ep r C x off=>exact zbY (s:=s) (V:=V) (ks:=ks) (a:= .ep r C x off) h wg hr
 | ptr ℓ off=>exact zbY (s:=s) (V:=V) (ks:=ks) (a:= .ptr ℓ off) h wg hr
 | bs ℓ n=>exact zbY (s:=s) (V:=V) (ks:=ks) (a:= .bs ℓ n) h wg hr
 | tl ℓ off n=>exact zbY (s:=s) (V:=V) (ks:=ks) (a:= .tl ℓ off n) h wg hr
 | qp r C o=>exact zbY (s:=s) (V:=V) (ks:=ks) (a:= .qp r C o) h wg hr
 | em rk rv C m=>exact zbY (s:=s) (V:=V) (ks:=ks) (a:= .em rk rv C m) h wg hr
 | cu c ℓ C1 C2=>exact zbY (s:=s) (V:=V) (ks:=ks) (a:= .cu c ℓ C1 C2) h wg hr
 | mo rk r e ℓ C m=>exact zbY (s:=s) (V:=V) (ks:=ks) (a:= .mo rk r e ℓ C m) h wg hr
 | mp rk rv C m=>exact zbY (s:=s) (V:=V) (ks:=ks) (a:= .mp rk rv C m) h wg hr
 | om rk rv ℓ C m=>exact zbY (s:=s) (V:=V) (ks:=ks) (a:= .om rk rv ℓ C m) h wg hr
 | tup l=>exact zbY (s:=s) (V:=V) (ks:=ks) (a:= .tup l) h wg hr
 | fv g l=>exact zbY (s:=s) (V:=V) (ks:=ks) (a:= .fv g l) h wg hr
 | bp r t ℓ C x=>exact zbY (s:=s) (V:=V) (ks:=ks) (a:= .bp r t ℓ C x) h wg hr
 | it rk rv ℓ C last left=>exact zbY (s:=s) (V:=V) (ks:=ks) (a:= .it rk rv ℓ C last left) h wg hr
theorem zCZ (h:zry γ γc n D p ks w') {b:Bx} (wg:okB D p s V ks b=true) (hr:b.rel γc w'):(outB D p s b).rel (ghP γ γc n D p s V) w':=by
 simp only [okB,xA] at wg;obtain ⟨h1,cs,hh,hL,h1c⟩:=hr;have hbx:=zsq h wg.1;have h2:labP p s b.lab=true:=by
  have:=wg.1;simp only [boxP,xA] at this;exact this.1
 refine ⟨?_,cs,?_,zpA h wg.2 hL,h1c⟩
 ·show (ghP γ γc n D p s V).col ((ghP γ γc n D p s V).box (mapP p s b.lab))=mapP p s b.lab;rw [hbx,zsr h (by rw [h1];exact ztn h2),h1]
 ·show w'.heap[(ghP γ γc n D p s V).box (mapP p s b.lab)]? =_;rw [hbx];exact hh
end
theorem zAe {γ:Gh} {w:World} {D:List Nat} {p:List (Nat×Nat)} (hd:zgC (p.map (·.1)) D=true) (hb:∀q∈p,zgF p q.2=some q.1) (h2:∀q∈p,2<=q.2):∀{l:List AV} {vs:List Value},AV.relL γ w l vs->
  (∀a∈zhN l,∀c∈zgf p a,c∈D)->AV.relL (ghW γ D p fun _=>True) w (l.map (inP p)) vs
 | [],_,h,_=>h
 | a::l,_,h,hD=>by
  obtain ⟨v,vs',rfl,h1,h2'⟩:=h;refine ⟨v,vs',rfl,?_,zAe hd hb h2 h2' (fun x hx=>hD x (by rw [zhN];exact yc _ hx))⟩;have key:(inW p a).rel (ghW γ D p fun _=>True) w v:=by
   have:=zwn (S:=fun _=>True) hd hb h2 (l:=[a]) (vs:=[v]) ⟨v,[],rfl,h1,rfl⟩ (fun x hx=>hD x (by rw [zhN] at hx|-;simp only [zhN,yY] at hx;exact yl _ hx)) (fun _ _ _ _ _ _=>trivial);obtain ⟨v',_,e,hr,_⟩:=this;cases e;exact hr
  cases a with
  | ptr ℓ off=>
   have hv:v= .pointer (some ⟨γ.box ℓ,off,none⟩):=h1;simp only [inP];cases hf:zdU p ℓ with
   | none=>trivial
   | some k=>
    show v= .pointer (some ⟨(ghW γ D p fun _=>True).box k,off,none⟩);have:(ghW γ D p fun _=>True).box k=γ.box ℓ:=by
     unfold ghW;simp only [hb _ (zdA hf)]
    grind
  | _=>exact key
theorem zEl {γ:Gh} {w:World} {D:List Nat} {p:List (Nat×Nat)} (hd:zgC (p.map (·.1)) D=true) (hb:∀q∈p,zgF p q.2=some q.1) (h2:∀q∈p,2<=q.2) {b:Bx} (h:b.rel γ w) (hf:(zdU p b.lab).isSome=true) (hD:∀a∈b.avs,∀c∈zgf p a,c∈D):
  (inB p b).rel (ghW γ D p fun _=>True) w:=by
 obtain ⟨h1,cs,hh,hL,h1c⟩:=h;obtain ⟨k,hk⟩:=pM.1 hf;have hbx:(ghW γ D p fun _=>True).box k=γ.box b.lab:=by
  unfold ghW;simp only [hb _ (zdA hk)]
 have e:(inB p b).lab=k:=by unfold inB;rw [hk];rfl
 refine ⟨?_,cs,?_,zoE hd hb h2 hL hD (fun _ _ _ _ _ _=>trivial),h1c⟩
 ·rw [e,hbx];exact zAc (S:=fun _=>True) trivial (by rw [h1];exact hk)
 ·rw [e,hbx];exact hh
theorem zgh {P:Program} {o:Oper} {f:FuncId} {args:List Operand} {ts:Array TypeId} {ins wb:List AV} {bsC bs2:List Bx} {ks:List Nat} (xs:List AV) (bs:List Bx) (p:List (Nat×Nat)) (D:List Nat) (s:Nat) (V:List Nat)
  (ho:o.op= .call ⟨.value (.func f),args.toArray,ts⟩) (hc:∀as w,(callFunc f as).run P w= .ok (.enter f as) w) (ok:zgO P f ins wb bsC ks bs2) (hin:xs.map (inP p)=ins) (hbs:bs.map (inB p)=bsC) (wa:xs.length=args.length)
  (hp:pOk p D=true) (hxD:((zhN xs).all fun a=>subN (zgf p a) D)=true) (hbD:(bs.all fun b=>(match zdU p b.lab with| some _=>true| none=>false)&&b.avs.all fun a=>subN (zgf p a) D)=true)
  (hout:(wb.all (okP D p s V ks))=true) (hob:(bs2.all (okB D p s V ks))=true):
  zv P o (args.zip xs) bs (p.map (·.1)) V (zmh (wb.map (outP D p s))) (bs2.map (outB D p s)):=by
 intro γ a w hi hb next Q hk;have hvs:=zoI wa hi;simp only [pOk,xA,xJ] at hp;obtain ⟨hp1,hd⟩:=hp;have hpb:∀q∈p,zgF p q.2=some q.1:=fun q hq=>by
  have:=(hp1 q hq).2;cases hf:zgF p q.2 with
  | none=>rw [hf] at this;cases this
  | some c=>rw [hf] at this;rw [xD this]
 have hsp:∀q∈p,spB q.2=true:=fun q hq=>(hp1 q hq).1.2
 have h2:∀q∈p,2<=q.2:=fun q hq=>by have:=(zEU.1 (hsp q hq)).1;omega
 have h21:∀q∈p,2<=q.1:=fun q hq=>xU (hp1 q hq).1.1
 simp only [xJ] at hxD hbD hout hob;have hin':AV.relL (ghW γ D p fun _=>True) w ins (args.map a.eval):=by
  rw [<-hin];exact zAe hd hpb h2 hvs fun x hx c hc=>zal (hxD x hx) c hc
 have hbs':Bxs (ghW γ D p fun _=>True) w bsC:=by
  rw [<-hbs];intro b hm;obtain ⟨b0,hb0,rfl⟩:=xK.1 hm;have:=hbD b0 hb0;simp only [xA,xJ] at this;refine zEl hd hpb h2 (hb b0 hb0) ?_ fun x hx c hc=>zal (this.2 x hx) c hc
  have h1:=this.1;cases hf:zdU p b0.lab with
  | none=>rw [hf] at h1;cases h1
  | some k=>rfl
 have hcall:=ok w _ _ hin' hbs';have hrun:(execOp a.eval o).run P w= .ok (.enter f (args.map a.eval).toArray) w:=by
  simp [execOp,ho,resolve,Act.eval,Deferred.ofValue,invoke,hc]
 unfold Oper.wp;rw [hrun,qs];refine hcall.mono fun e w' ⟨γc,us,he,⟨⟨⟨x1,x2,x3,x4⟩,x5,x6,x7⟩,x8⟩,hr,hb2,hbk⟩=>?_
 subst he;have hp2:(p.all fun q=>Nat.ble 2 q.2)=true:=xJ.2 fun q hq=>by have:=h2 q hq;simpa using this
 have hold:zry γ γc w.heap.size D p ks w':=by
  refine ⟨fun b hb=>?_,x7,fun k hk ℓ hℓ=>?_⟩
  ·rcases yN ((ghW γ D p fun _=>True).col b) 2 with h| h
   ·obtain ⟨e1,_⟩:=x5 b hb h;rcases yN ((ghW γ D p fun _=>True).col b) 1 with h0| h0
    ·exact .inl ⟨by omega,zxI (p:=p) (S:=fun _=>True) hp2 (by omega)⟩
    grind
   ·obtain ⟨_,k,hk⟩:=zss h;have e1:=zAc (γ:=γ) (D:=D) (S:=fun _=>True) (b:=b) trivial hk;have e2:=x8 b hb (by rw [e1];exact hsp _ (zdA hk));rw [e1] at e2;refine .inr (.inr ⟨by rw [e2];exact h2 _ (zdA hk),?_⟩);rw [e2];exact hpb _ (zdA hk)
  ·rw [hbk k hk];unfold ghW;simp only [hℓ]
 refine hk (ghP γ γc w.heap.size D p s V) w' _ ⟨x1,x2,x3,x4,fun b hb hn=>?_,fun b hb=>?_,fun ℓ hℓ=>?_,fun b h1 h2' h0=>?_⟩ (zoK (zoa hr fun x hx v hv=>zDa hold (hout x hx) hv)) (fun b hb=>?_)
 ·rcases yN ((ghW γ D p fun _=>True).col b) 2 with h| h
  ·grind
  ·obtain ⟨_,k,hk⟩:=zss h;exact absurd (xK.2 ⟨_,zdA hk,rfl⟩) hn
 ·show (if b<w.heap.size then γ.col b else _)=_;rw [xx hb]
 ·unfold ghP;simp only;cases hm:memN ℓ V with
  | true=>exact absurd (zas.1 hm) hℓ
  | false=>rfl
 ·exfalso;have hne:=x7 b h1 h2';have h0':(if b<w.heap.size then γ.col b else if γc.col b=0 then D.headD 1 else if γc.col b=1 then 1 else mapP p s (γc.col b))=0:=h0;rw [xw (qJ.2 h1),xw hne] at h0';split at h0'
  ·omega
  ·unfold mapP at h0';cases hpk:zgF p (γc.col b) with
   | some ℓ=>
    rw [hpk] at h0';simp only at h0';have:=h21 _ (zvC hpk)
    grind
   | none=>rw [hpk] at h0';simp only at h0';omega
 ·obtain ⟨b0,hb0,rfl⟩:=xK.1 hb;exact zCZ hold (hob b0 hb0) (hb2 b0 hb0)
def leBx:List Bx->List Bx->Prop
 | [],[]=>True
 | b::l,c::m=>(b.lab=c.lab/\b.typ=c.typ/\leL b.avs c.avs)/\leBx l m
 | _,_=>False
theorem zxV {γ:Gh} {w:World}:∀{l m:List Bx},leBx l m->Bxs γ w l->Bxs γ w m
 | [],[],_,_,b,hb=>by cases hb
 | b::l,c::m,h,hr,d,hd=>by
  cases hd with
  | head=>
   obtain ⟨h1,cs,hh,hL,h1c⟩:=hr b xy;obtain ⟨e1,e2,e3⟩:=h.1;exact ⟨by rw [<-e1];exact h1,cs,by rw [<-e1,<-e2];exact hh,zqi e3 hL,h1c⟩
  | tail _ hd=>exact zxV h.2 (fun x hx=>hr x (xz _ hx)) d hd
 | [],_::_,h,_,_,_=>h.elim
 | _::_,[],h,_,_,_=>h.elim
theorem zv.leB {P:Program} {o:Oper} {ins:List (Operand×AV)} {bx bx2 bs:List Bx} {W V:List Nat} {av:AV} (h:zv P o ins bx W V av bs) (hl:leBx bx2 bx):zv P o ins bx2 W V av bs:=
 fun γ a w hi hb next Q hk=>h γ a w hi (zxV hl hb) next Q hk
set_option linter.unusedSectionVars false
def zFl (bxs:List Bx) (a b:AV):Prop:=∀γ w v,Bxs γ w bxs->a.rel γ w v->b.rel γ w v
theorem zFm {bxs:List Bx} {α:Type} (r:Rp α) (D:List Nat) (x:α) (b:Bx) (hm:b∈bxs) (h1:zfE b.avs=some (r.lv x)) (h2:subN (b.lab::AV.colsL b.avs) D=true):zFl bxs (.ptr b.lab 0) (.qp r D (some x)):=by
 intro γ w v hb hv;obtain ⟨hc,cells,hh,hL,hone⟩:=hb b hm;have hsub:=zal h2;refine ⟨γ.box b.lab,cells,hv,by rw [hc];exact hsub _ xy,(yv.1 hh).1,zhC h1 hL (fun c hc=>hsub c (xz _ hc)),fun i hi=>?_⟩;rw [yQ w _ _ _ _ _ hh];simp
theorem zBh {α:Type} (r:Rp α) (C:List Nat):AV.le (.lf (.val (.pointer none))) (.qp r C none):=fun γ w v h=>zps h
theorem zGT {α:Type} (r:Rp α) (C D:List Nat) (o:Option α) (h:subN C D=true):AV.le (.qp r C o) (.qp r D o):=by
 intro γ w v hv;cases o with
 | none=>exact hv
 | some x=>
  obtain ⟨b,cs,e,hF,hb,hA,hc⟩:=hv;exact ⟨b,cs,e,zal h _ hF,hb,hA.mono fun b _ hb=>zal h _ hb,hc⟩
def zCh (bxs:List Bx):List (Operand×AV)->List (Operand×AV)->Prop
 | [],[]=>True
 | p::l,q::m=>(p.1=q.1/\zFl bxs p.2 q.2)/\zCh bxs l m
 | _,_=>False
theorem zuX {bxs:List Bx} {γ:Gh} {w:World} {ev:Operand->Value} (hb:Bxs γ w bxs):∀{l m:List (Operand×AV)},zCh bxs l m->(∀p∈l,p.2.rel γ w (ev p.1))->∀p∈m,p.2.rel γ w (ev p.1)
 | [],[],_,_,p,hp=>by cases hp
 | p::l,q::m,h,hi,x,hx=>by
  cases hx with
  | head=>
   obtain ⟨⟨e,hc⟩,_⟩:=h;rw [<-e];exact hc γ w _ hb (hi p xy)
  | tail _ hx=>exact zuX hb h.2 (fun y hy=>hi y (xz _ hy)) x hx
 | [],_::_,h,_,_,_=>h.elim
 | _::_,[],h,_,_,_=>h.elim
theorem zv.conv (h:zv P o ins' bxs W V av bs) (hc:zCh bxs ins ins'):zv P o ins bxs W V av bs:=
 fun γ a w hi hb next Q hk=>h γ a w (zuX hb hc hi) hb next Q hk
theorem zv.boxes (h:zv P o ins [] W V av bs):zv P o ins bxs W V av bs:=
 fun γ a w hi hb next Q hk=>h γ a w hi (fun b hb=>by cases hb) next Q hk
theorem zED {P:Program} {o:Oper} {α:Type} {r:Rp α} {C:List Nat} {q:Option α} {x0:α} {x:Operand} (ho:o.op= .nilCheck x) (hq:q=some x0):zv P o [(x,.qp r C q)] [] [] [] (.ep r C x0 0) []:=by
 subst hq;refine zL fun γ ev w hi _=>?_
 obtain ⟨b,cs,hv,hF,hb,hA,hc⟩:=hi (x,.qp r C (some x0)) (by simp);simp only at hv;exact ⟨.pointer (some ⟨b,0,none⟩),w,γ,by simp only [execOp,ho,hv,yf],Tr.refl _ _ _ _,⟨b,0,cs,rfl,hF,hb,hA,hc⟩,fun b hb=>by cases hb⟩
def zsB:List LV->Option (List AV)
 | []=>some []
 | l::ls=>match l.plain,zsB ls with
  | true,some r=>some (.lf l::r)
  | _,_=>none
theorem zmJ :∀{ls:List LV} {as:List AV},zsB ls=some as->zfE as=some ls/\as.all (zpa C)=true
 | [],as,h=>by cases h;exact ⟨rfl,rfl⟩
 | l::ls,as,h=>by
  rw [zsB] at h;split at h
  ·rename_i r h1 h2;cases h;obtain ⟨g1,g2⟩:=zmJ (C:=C) h2;exact ⟨by simp only [zfE,AV.toLV,g1],by simp only [yr,zpa,h1,g2];rfl⟩
  ·cases h
def zsR:AV->Option (List AV)
 | .ag l=>some l
 | .rc r _ x=>zsB (r.lv x)
 | a=>match zmE a with
  | true=>some [a]
  | false=>none
def zAVs:List Value->Option (List AV)
 | []=>some []
 | v::l=>match zoz v,zAVs l with
  | some a,some r=>some (a::r)
  | _,_=>none
theorem zvU :∀{vs:List Value} {as:List AV},zAVs vs=some as->AV.relL γ w as vs/\∀u∈vs,u.oneCell'=true
 | [],as,h=>by cases h;exact ⟨rfl,fun u hu=>by cases hu⟩
 | v::vs,as,h=>by
  rw [zAVs] at h;split at h
  ·rename_i a r h1 h2;cases h;obtain ⟨g1,g2⟩:=zvU (γ:=γ) (w:=w) h2;have hr:=zkW h1 γ w;have h1c:v.oneCell'=true:=by
    unfold zoz at h1;split at h1<;>first| rfl| cases h1
   exact ⟨⟨v,vs,rfl,hr,g1⟩,fun u hu=>by
    cases hu with
    | head=>exact h1c
    | tail _ hu=>exact g2 u hu⟩
  ·cases h
section
variable {P:Program} {o:Oper} {t:TypeId} {i:TypeInfo}
theorem zqx (h:P.info? t=some i) (w:World):(sizeOf t).run P w= .ok i.size w:=by simp [sizeOf,typeInfo,h]
theorem zBm (ℓ:Nat) (ho:o.op= .alloc t) (hi:P.info? t=some i) (hz:i.zero=some z) (hs:zAVs z.cells.toList=some as):zv P o [] [] [] [ℓ] (.ptr ℓ 0) [⟨ℓ,t,as⟩]:=by
 have hzv:∀w,(zeroValue t).run P w= .ok z w:=fun w=>by simp [zeroValue,typeInfo,hi,hz]
 refine zL fun γ ev w _ _=>?_
 refine ⟨.pointer (some ⟨w.heap.size,0,none⟩),w.alloc (.cells z.cells t),_,?_,zpM γ w ℓ _,?_,fun b hb=>?_⟩
 ·simp [execOp,ho,Instr.alloc,Sem.run_bind,hzv,newVar,newRow]
 ·show _=_;rw [zeA]
 ·simp only [xC,xS,xT] at hb;subst hb;have h:=zvU (γ:=zcp γ w.heap.size ℓ w.heap.size) (w:=w.alloc (.cells z.cells t)) hs;refine ⟨by rw [zeA,zjG],z.cells.toList,?_,h.1,h.2⟩;rw [zeA,qr];exact yV w _
theorem zBp (hl:zsR a=some l) (ho:o.op= .store t y z) (hi:P.info? t=some i) (hn:Nat.beq l.length i.size=true) (hoff:Nat.ble (off+i.size) b.avs.length=true) (hf:AV.free [b.lab] [] (.ag l)=true):
  zv P o [(y,.ptr b.lab off),(z,a)] [b] [b.lab] [] .any [⟨b.lab,b.typ,(b.avs.map (AV.clear [b.lab] [])).take off++l++(b.avs.map (AV.clear [b.lab] [])).drop (off+i.size)⟩]:=by
 have hag:=zEE (P:=P) (o:=o) (off:=off) (b:=b) l ho (fun w=>zqx hi w) hn hoff hf;unfold zsR at hl;split at hl
 ·grind
 ·rename_i r C x;obtain ⟨g1,g2⟩:=zmJ (C:=C) hl;exact hag.le ⟨⟨rfl,AV.le_refl _⟩,⟨rfl,zEv r C x l g1 g2⟩,trivial⟩
 ·split at hl
  ·rename_i h1;cases hl;have hs1:i.size=1:=(xD hn).symm;rw [hs1] at hoff|-;have vY:off<b.avs.length:=qE (xU hoff);have hf':a.free [b.lab] []=true:=by simpa [AV.free,AV.cols,AV.colsL,AV.labs,AV.labsL] using hf
   have h:=zwA (P:=P) (o:=o) (off:=off) (b:=b) ho (fun w=>by rw [zqx hi w,hs1]) (Nat.ble_eq_true_of_le vY) h1 hf';rw [po,xx (by simpa using vY)] at h;simpa using h
  ·cases hl
end
def zwd (P:Program) (E:Env) (o:Oper) (ℓ:Nat):Option (List (Operand×AV)×List Bx×List Nat×List Nat×AV×List Bx):=
 match o.op with
 | .alloc t=>match P.info? t with
  | some i=>match i.zero with
   | some z=>match zAVs z.cells.toList with
    | some as=>some ([],[],[],[ℓ],.ptr ℓ 0,[⟨ℓ,t,as⟩])
    | none=>none
   | none=>none
  | none=>none
 | .box t x=>match E.opd x with
  | some (.ag l)=>match AV.free [] [ℓ] (.ag l) with
   | true=>some ([(x,.ag l)],[],[],[ℓ],.ptr ℓ 0,[⟨ℓ,t,l⟩])
   | false=>none
  | some a=>match zsR a,zmH a with
   | some as,some _=>match zfE as with
    | some _=>match as.all (zpa a.cols) with
     | true=>some ([(x,a)],[],[],[ℓ],.ptr ℓ 0,[⟨ℓ,t,as⟩])
     | false=>none
    | none=>none
   | _,_=>none
  | none=>none
 | .store t y z=>match E.opd y,E.opd z,P.info? t with
  | some (.ptr k off),some a,some i=>match zga E.bx k,zsR a with
   | some b,some l=>match Nat.beq l.length i.size&&Nat.ble (off+i.size) b.avs.length&&AV.free [b.lab] [] (.ag l) with
    | true=>some ([(y,.ptr b.lab off),(z,a)],[b],[b.lab],[],.any,[⟨b.lab,b.typ,(b.avs.map (AV.clear [b.lab] [])).take off++l++(b.avs.map (AV.clear [b.lab] [])).drop (off+i.size)⟩])
    | false=>none
   | _,_=>none
  | _,_,_=>none
 | .load t y=>match E.opd y,P.underlying t,P.info? t with
  | some (.ptr k off),some (.struct _),some i=>match zga E.bx k with
   | some b=>match Nat.beq ((b.avs.drop off).take i.size).length i.size with
    | true=>some ([(y,.ptr b.lab off)],[b],[],[],.ag ((b.avs.drop off).take i.size),[])
    | false=>none
   | none=>none
  | _,_,_=>none
 | _=>none
theorem zoP (C:List Nat):subN C C=true:=by
 simp only [subN,xJ];exact fun c hc=>zas.2 hc
theorem zBu (h1:zmE a=true) (hp:zmH a=some ls) (ht:zfE [a]=some ls'):zfE [a]=some ls:=by
 cases a<;>simp_all [zmE,zmH,zfE,AV.toLV]
theorem zyY (h:zwd P E o ℓ=some (ins,bxs,W,V,av,bs)):
  zv P o ins bxs W V av bs/\zpj E ins/\zsH E bxs:=by
 unfold zwd at h;split at h
 ·rename_i t ho;split at h
  ·rename_i i hi;split at h
   ·rename_i z hz;split at h
    ·rename_i as hs;simp only [yj,yO] at h;obtain ⟨rfl,rfl,rfl,rfl,rfl,rfl⟩:=h;exact ⟨zBm ℓ ho hi hz hs,trivial,trivial⟩
    ·cases h
   ·cases h
  ·cases h
 ·rename_i t x ho;split at h
  ·rename_i l hl;split at h
   ·rename_i hf;simp only [yj,yO] at h;obtain ⟨rfl,rfl,rfl,rfl,rfl,rfl⟩:=h;exact ⟨zEB ℓ ho hf,⟨hl,trivial⟩,trivial⟩
   ·cases h
  ·rename_i a _ ha;split at h
   ·rename_i as ls hc hp;split at h
    ·rename_i ls' ht;split at h
     ·rename_i hl;simp only [yj,yO] at h;obtain ⟨rfl,rfl,rfl,rfl,rfl,rfl⟩:=h;refine ⟨zhl ℓ as a.cols ho hp (zoP _) ?_ hl,⟨ha,trivial⟩,trivial⟩;unfold zsR at hc;split at hc
      ·grind
      ·rename_i r C y _;cases hp;exact (zmJ (C:=C) hc).1
      ·split at hc
       ·cases hc;rename_i h1;exact zBu h1 hp ht
       ·cases hc
     ·cases h
    ·cases h
   ·cases h
  ·cases h
 ·rename_i t y z ho;split at h
  ·rename_i k off a i hy hz hi;split at h
   ·rename_i b l hb hc;split at h
    ·rename_i hk;simp only [xA] at hk;simp only [yj,yO] at h;obtain ⟨rfl,rfl,rfl,rfl,rfl,rfl⟩:=h;have e:=(zdD hb).2;refine ⟨zBp hc ho hi hk.1.1 hk.1.2 hk.2,⟨by rw [e];exact hy,hz,trivial⟩,?_⟩;refine ⟨?_,trivial⟩;rw [e];exact hb
    ·cases h
   ·cases h
  ·cases h
 ·rename_i t y ho;split at h
  ·rename_i k off fs i hy hu hi;split at h
   ·rename_i b hb;split at h
    ·rename_i hk;simp only [yj,yO] at h;obtain ⟨rfl,rfl,rfl,rfl,rfl,rfl⟩:=h;have e:=(zdD hb).2;refine ⟨zAt _ ho ⟨fun w=>by simp [isAgg,run_underlying hu],fun w=>zqx hi w⟩ rfl hk,⟨by rw [e];exact hy,trivial⟩,?_⟩;refine ⟨?_,trivial⟩;rw [e];exact hb
    ·cases h
   ·cases h
  ·cases h
 ·cases h
def zGP:List Nat->Nat
 | []=>0
 | x::_=>x
def zHg:List Nat->List Nat->List Nat
 | [],ls=>ls
 | _::_,ls=>ls.tail
def runX (P:Program) (N:Lim) (ops:Array Oper):List Oper->List Nat->Env->Option Env
 | [],_,E=>some E
 | o::vW,ls,E=>match zfH ops E o with
  | some true=>match ziV N o.dst with
   | true=>match zqX P E.opd E.bx o.op with
    | some av=>runX P N ops vW ls ⟨zie o.dst av E.sl,E.bx⟩
    | none=>match zwd P E o (zGP ls) with
     | some (_,_,W,V,av,bs)=>match okW W&&okW V with
      | true=>runX P N ops vW (zHg V ls) (E.step W V o.dst av bs)
      | false=>none
     | none=>none
   | false=>none
  | some false=>match ziV N o.dst with
   | true=>runX P N ops vW ls ⟨zie o.dst (.tup []) E.sl,E.bx⟩
   | false=>none
  | none=>none
theorem zoN :∀(l:List Oper) (vW:List Oper) (ls:List Nat) (E:Env),runX P N ops l ls E=some E1->zbf P N ops vW E1 E'->zbf P N ops (l++vW) E E'
 | [],vW,ls,E,h,k=>by cases h;exact k
 | o::l,vW,ls,E,h,k=>by
  rw [runX] at h;split at h
  ·rename_i hg;split at h
   ·rename_i hd;split at h
    ·rename_i av he;intro cx a w Q hn hs hQ;obtain ⟨γ,hB,hS,hX⟩:=hs;obtain ⟨v,hr,hv⟩:=zpn he (γ:=γ) (w:=w) (ev:=a.eval) (fun x _ av hx=>Env.opd_rel hx hS) hX;rw [yo];refine zkn (zgb hg hS) (zvw hr ?_);exact zoN l vW ls _ h k cx _ _ Q hn ⟨γ,hB.put _ _ (by rw [hn];exact zfA hd),hS.put (fun k hk=>by rw [hB.size,hn];exact zhm hd k hk) hv,hX⟩ hQ
    ·split at h
     ·rename_i ins bxs W V av bs hb;split at h
      ·rename_i hW;rw [xA] at hW;obtain ⟨h1,h2,h3⟩:=zyY hb;rw [yo];exact zsE hg h1 h2 h3 hW.1 hW.2 hd (zoN l vW _ _ h k)
      ·cases h
     ·cases h
   ·cases h
  ·rename_i hg;split at h
   ·rename_i hd;rw [yo];exact zEO hg hd (zoN l vW ls _ h k)
   ·cases h
  ·cases h
def zDD (P:Program) (N:Lim) (ops:Array Oper) (vW:List Oper) (n:Nat) (ls:List Nat) (o:Oper) (E:Env) (xs:List Operand) (bl W V:List Nat) (av:AV) (bs:List Bx):Option (List AV×List Bx×Env):=
 match runX P N ops (vW.take n) ls E with
 | some E0=>match zfH ops E0 o,okW W&&okW V&&ziV N o.dst,zjk E0 xs,znU E0.bx bl with
  | some true,true,some as,some bxs=>some (as,bxs,E0.step W V o.dst av bs)
  | _,_,_,_=>none
 | none=>none
def zvL (P:Program) (N:Lim) (ops:Array Oper) (vW:List Oper) (n:Nat) (ls:List Nat) (o:Oper) (E:Env) (xs:List Operand) (bl W V:List Nat) (av:AV) (bs:List Bx):Env:=
 match zDD P N ops vW n ls o E xs bl W V av bs with
 | some r=>r.2.2
 | none=>E
def zvK (P:Program) (N:Lim) (ops:Array Oper) (vW:List Oper) (n:Nat) (ls:List Nat) (o:Oper) (E:Env) (xs:List Operand) (bl W V:List Nat) (av:AV) (bs:List Bx):Option (List AV×List Bx):=
 match zDD P N ops vW n ls o E xs bl W V av bs with
 | some r=>some (r.1,r.2.1)
 | none=>none
def endE (P:Program) (N:Lim) (ops:Array Oper) (vW:List Oper) (ls:List Nat) (E:Env):Env:=match runX P N ops vW ls E with
 | some E1=>E1
 | none=>E
def endB (P:Program) (N:Lim) (ops:Array Oper) (vW:List Oper) (ls:List Nat) (E:Env):Bool:=match runX P N ops vW ls E with
 | some _=>true
 | none=>false
theorem zsX (h:endB P N ops vW ls E=true):runX P N ops vW ls E=some (endE P N ops vW ls E):=by
 unfold endB at h;unfold endE
 grind
def splC (P:Program) (N:Lim) (ops:Array Oper) (vW:List Oper) (ls:List Nat) (E:Env) (t:Nat):Option AV:=match runX P N ops vW ls E with
 | some E1=>lookup E1.sl t
 | none=>none
def finC (P:Program) (N:Lim) (ops:Array Oper) (vW:List Oper) (ls:List Nat) (E:Env) (ks bs:List Nat):Option Env:=match runX P N ops vW ls E with
 | some E1=>E1.pick ks bs
 | none=>none
def znV (ks ls:List Nat) (E:Env):Env:=match E.pick ks ls with
 | some E1=>E1
 | none=>E
def zyh (ks ls:List Nat) (E:Env):Bool:=match E.pick ks ls with
 | some _=>true
 | none=>false
theorem zpC (h:zyh ks ls E=true):E.pick ks ls=some (znV ks ls E):=by
 unfold zyh at h;unfold znV
 grind
section
variable {P:Program} {N:Lim} {ops:Array Oper} {vW:List Oper} {E E' E1:Env} {o:Oper} {ins:List (Operand×AV)} {bxs:List Bx} {W V:List Nat} {av:AV} {bs:List Bx} {ls:List Nat}
theorem zjM (n:Nat) (h:runX P N ops (vW.take n) ls E=some E1) (k:zbf P N ops (vW.drop n) E1 E'):zbf P N ops vW E E':=by
 have:=zoN _ _ _ _ h k;simp_all
theorem rcl (n:Nat) (ls:List Nat) (ho:nthO vW n=some o) (hl:zv P o ins bxs W V av bs) (k:zbf P N ops (vW.drop (n+1)) (zvL P N ops vW n ls o E (ins.map (·.1)) (bxs.map (·.lab)) W V av bs) E')
  (h:zvK P N ops vW n ls o E (ins.map (·.1)) (bxs.map (·.lab)) W V av bs=some (ins.map (·.2),bxs):=by kernel_rfl):zbf P N ops vW E E':=by
 unfold zvK at h;unfold zvL at k;split at h
 ·rename_i r h0;rw [h0] at k;simp only [yj,yO] at h;unfold zDD at h0;split at h0
  ·rename_i E0 hE;refine zjM n hE ?_;rw [zmd ho];split at h0
   ·rename_i as' bxs' h1 h2 h3 h4;cases h0;simp only at h k;obtain ⟨rfl,rfl⟩:=h;simp only [xA] at h2;exact zsE h1 hl (zmG h3) (ztH h4) h2.1.1 h2.1.2 h2.2 k
   ·cases h0
  ·cases h0
 ·cases h
theorem rc (n:Nat) (ho:nthO vW n=some o) (hl:zv P o ins bxs W V av bs) (k:zbf P N ops (vW.drop (n+1)) (zvL P N ops vW n [] o E (ins.map (·.1)) (bxs.map (·.lab)) W V av bs) E')
  (h:zvK P N ops vW n [] o E (ins.map (·.1)) (bxs.map (·.lab)) W V av bs=some (ins.map (·.2),bxs):=by kernel_rfl):zbf P N ops vW E E':=rcl n [] ho hl k h
theorem ral (n:Nat) (ls:List Nat) (as:List AV) (ho:nthO vW n=some o) (hl:zv P o ins bxs W V av bs) (ha:ins.map (·.2)=as) (k:zbf P N ops (vW.drop (n+1)) (zvL P N ops vW n ls o E (ins.map (·.1)) (bxs.map (·.lab)) W V av bs) E')
  (h:zvK P N ops vW n ls o E (ins.map (·.1)) (bxs.map (·.lab)) W V av bs=some (as,bxs):=by kernel_rfl):zbf P N ops vW E E':=rcl n ls ho hl k (by rw [ha];exact h)
theorem ra (n:Nat) (as:List AV) (ho:nthO vW n=some o) (hl:zv P o ins bxs W V av bs) (ha:ins.map (·.2)=as) (k:zbf P N ops (vW.drop (n+1)) (zvL P N ops vW n [] o E (ins.map (·.1)) (bxs.map (·.lab)) W V av bs) E')
  (h:zvK P N ops vW n [] o E (ins.map (·.1)) (bxs.map (·.lab)) W V av bs=some (as,bxs):=by kernel_rfl):zbf P N ops vW E E':=ral n [] as ho hl ha k h
theorem rfl' (ls:List Nat) (h:endB P N ops vW ls E=true:=by kernel_rfl):zbf P N ops vW E (endE P N ops vW ls E):=by
 have:=zoN vW [] ls E (zsX h) zGu
 grind
theorem rf (h:endB P N ops vW [] E=true:=by kernel_rfl):zbf P N ops vW E (endE P N ops vW [] E):=rfl' [] h
theorem rgl (ls:List Nat) (h:finC P N ops vW ls E E'.keys E'.labs=some E':=by kernel_rfl):zbf P N ops vW E E':=by
 unfold finC at h;split at h
 ·rename_i E1 h1;have:=zoN vW [] ls E h1 (zGt _ _ h)
  grind
 ·cases h
theorem rgg (h:finC P N ops vW [] E E'.keys E'.labs=some E':=by kernel_rfl):zbf P N ops vW E E':=rgl [] h
theorem rkl (n:Nat) (ls:List Nat) (E1:Env) (k:zbf P N ops (vW.drop n) E1 E') (h:finC P N ops (vW.take n) ls E E1.keys E1.labs=some E1:=by kernel_rfl):zbf P N ops vW E E':=by
 unfold finC at h;split at h
 ·rename_i E2 h1;exact zjM n h1 (zHh (zst _ _ h) k)
 ·cases h
theorem rsl (n:Nat) (ls:List Nat) (t:Nat) (b:Bool) (h1:b=true->zbf P N ops (vW.drop n) ⟨zie (some t) (.lf (.bool true)) (endE P N ops (vW.take n) ls E).sl,(endE P N ops (vW.take n) ls E).bx⟩ E')
  (h0:b=false->zbf P N ops (vW.drop n) ⟨zie (some t) (.lf (.bool false)) (endE P N ops (vW.take n) ls E).sl,(endE P N ops (vW.take n) ls E).bx⟩ E')
  (h:splC P N ops (vW.take n) ls E t=some (.lf (.bool b)):=by kernel_rfl):zbf P N ops vW E E':=by
 have hB:endB P N ops (vW.take n) ls E=true:=by
  unfold splC at h;unfold endB
  grind
 have hr:=zsX hB;unfold splC at h;rw [hr] at h;exact zjM n hr (zDn t b h h1 h0)
theorem rbl (ls:List Nat) (t:Nat) (b:Bool) (_:E'.opd (.tmp t)=some (.lf (.bool b'))) (hb:b=b') (hE:zFL t b' E'=E':=by kernel_rfl) (h:finC P N ops vW ls E E'.keys E'.labs=some (zFL t b E'):=by kernel_rfl):zbf P N ops vW E E':=by
 subst hb;rw [hE] at h;exact rgl ls h
theorem rel (ls:List Nat) (k:zev (endE P N ops vW ls E) E') (h:endB P N ops vW ls E=true:=by kernel_rfl):zbf P N ops vW E E':=fun cx a w Q hn hs hQ=>rfl' ls h cx a w Q hn hs fun a' w' hs'=>hQ a' w' (k cx a' w' hs')
theorem lk (ks ls:List Nat) (x y:Nat) (k:zev ((znV ks ls E).ren x y) E') (h:(zyh ks ls E&&(Nat.ble 2 x&&Nat.ble 2 y&& !spB x))=true:=by kernel_rfl):zev E E':=by
 rw [xA] at h;exact (zst _ _ (zpC h.1)).trans (zFB x y h.2 k)
theorem lzz (h:E.pick E'.keys E'.labs=some E':=by kernel_rfl):zev E E':=zst _ _ h
end
def cvA:AV->AV->AV
 | .ag l,.rc r _ x=> .rc r (AV.colsL l) x
 | y,_=>y
def argL:AV->AV->Option (List LV)
 | .ag l,.rc _ _ _=>zfE l
 | _,_=>none
def argR:AV->AV->Option (List LV)
 | .ag _,.rc r _ x=>some (r.lv x)
 | _,_=>none
theorem zFV (h:argL y i=argR y i):AV.le y (cvA y i):=by
 cases y with
 | ag l=>
  cases i with
  | rc r C x=>exact zmD r _ x l h (zoP _)
  | _=>exact AV.le_refl _
 | _=>exact AV.le_refl _
def zipA {α:Type _} (f:AV->AV->α):List AV->List AV->List α
 | x::l,y::m=>f x y::zipA f l m
 | _,_=>[]
theorem zyS {f:AV->AV->AV}:∀{l m:List AV},l.length=m.length->(zipA f l m).length=l.length
 | [],_,_=>rfl
 | x::l,[],h=>by simp at h
 | x::l,y::m,h=>by simp [zipA,zyS (l:=l) (m:=m) (by simpa using h)]
theorem zAn:∀{args:List Operand} {ys is:List AV},ys.length=args.length->is.length=args.length->zipA argL ys is=zipA argR ys is->leI (args.zip ys) (args.zip (zipA cvA ys is))
 | [],_,_,_,_,_=>trivial
 | x::args,[],_,h,_,_=>by simp at h
 | x::args,y::ys,[],_,h,_=>by simp at h
 | x::args,y::ys,i::is,h1,h2,h=>by
  simp only [zipA,yA] at h;exact ⟨⟨rfl,zFV h.1⟩,zAn (by simpa using h1) (by simpa using h2) h.2⟩
def zsO (P:Program) (N:Lim) (ops:Array Oper) (vW:List Oper) (n:Nat) (ls:List Nat) (f:FuncId) (ins wb:List AV) (D:List Nat) (s:Nat) (E:Env):Option (List (Option (List LV))×List AV×List (Option (List LV))):=
 match nthO vW n with
 | some o=>match o.op with
  | .call c=>match c.callee with
   | .value (.func g)=>match Nat.beq g f,runX P N ops (vW.take n) ls E with
    | true,some E0=>match zfH ops E0 o,okW (wb.flatMap (zfB s))&&ziV N o.dst,zjk E0 c.args.toList with
     | some true,true,some ys=>match Nat.beq ys.length ins.length&&((zipA cvA ys ins).all fun a=>subN (zrc a) D)&& !D.isEmpty&&wb.all (zrO [1] D s) with
      | true=>some (zipA argL ys ins,(zipA cvA ys ins).map inAV,zipA argR ys ins)
      | false=>none
     | _,_,_=>none
    | _,_=>none
   | _=>none
  | _=>none
 | none=>none
def zBY (P:Program) (N:Lim) (ops:Array Oper) (vW:List Oper) (n:Nat) (ls:List Nat) (wb:List AV) (D:List Nat) (s:Nat) (E:Env):Env:=
 match nthO vW n,runX P N ops (vW.take n) ls E with
 | some o,some E0=>E0.step [] (wb.flatMap (zfB s)) o.dst (zmh (wb.map (zla D s))) []
 | _,_=>E
def zBZ (ins:List AV):Option (List (Option (List LV))×List AV×List (Option (List LV)))->Option (List (Option (List LV))×List AV×List (Option (List LV)))
 | some r=>some (r.2.2,ins,r.2.2)
 | none=>none
theorem zty :∀{l:List Operand} {as:List AV},zjk E l=some as->as.length=l.length
 | [],as,h=>by cases h;rfl
 | x::l,as,h=>by
  rw [zjk] at h;split at h
  ·rename_i a r h1 h2;cases h;simp [zty h2]
  ·cases h
theorem ztz :∀{l:List Operand} {as:List AV},zjk E l=some as->zpj E (l.zip as)
 | [],as,_=>trivial
 | x::l,as,h=>by
  rw [zjk] at h;split at h
  ·rename_i a r h1 h2;cases h;exact ⟨h1,ztz h2⟩
  ·cases h
section
variable {P:Program} {N:Lim} {ops:Array Oper} {vW:List Oper} {E E':Env} {f:FuncId} {ins wb:List AV}
theorem rll (n:Nat) (ls:List Nat) (D:List Nat) (s:Nat) (hc:∀as w,(callFunc f as).run P w= .ok (.enter f as) w) (ok:FnOk P f ins wb) (k:zbf P N ops (vW.drop (n+1)) (zBY P N ops vW n ls wb D s E) E')
  (h:zsO P N ops vW n ls f ins wb D s E=zBZ ins (zsO P N ops vW n ls f ins wb D s E):=by kernel_rfl) (hs:(zsO P N ops vW n ls f ins wb D s E).isSome=true:=by kernel_rfl):zbf P N ops vW E E':=by
 obtain ⟨⟨q1,q2,q3⟩,hq⟩:=pM.1 hs;rw [hq] at h;simp only [zBZ,yj,yO,qk] at h;rw [h.1,h.2] at hq;unfold zsO at hq;split at hq
 ·rename_i o ho;unfold zBY at k;rw [ho] at k;split at hq
  ·rename_i c hop;split at hq
   ·rename_i g hcal;split at hq
    ·rename_i E0 hg hE;rw [hE] at k;have hgf:=xD hg;refine zjM n hE ?_;rw [zmd ho];split at hq
     ·rename_i ys h1 h2 h3;split at hq
      ·rename_i hk;simp only [xA,yd] at hk h2;simp only [yj,yO] at hq;obtain ⟨e1,e2,e3⟩:=hq;have wa:=xD hk.1.1.1;have hl:=zty h3;have hop':o.op= .call ⟨.value (.func f),c.args.toList.toArray,c.argTypes⟩:=by
        rw [hop];obtain ⟨cal,args,ts⟩:=c;simp_all
       have hlaw:=zAq (zipA cvA ys ins) D s hop' hc ok e2 (by rw [zyS wa];exact hl) hk.1.1.2 hk.1.2 hk.2;refine zsE h1 (hlaw.le (zAn hl (by rw [<-wa];exact hl) (e1.trans e3.symm))) (ztz h3) trivial rfl h2.1 h2.2 k
      ·cases hq
     ·cases hq
    ·cases hq
   ·cases hq
  ·cases hq
 ·cases hq
theorem rl (n:Nat) (D:List Nat) (s:Nat) (hc:∀as w,(callFunc f as).run P w= .ok (.enter f as) w) (ok:FnOk P f ins wb) (k:zbf P N ops (vW.drop (n+1)) (zBY P N ops vW n [] wb D s E) E')
  (h:zsO P N ops vW n [] f ins wb D s E=zBZ ins (zsO P N ops vW n [] f ins wb D s E):=by kernel_rfl) (hs:(zsO P N ops vW n [] f ins wb D s E).isSome=true:=by kernel_rfl):zbf P N ops vW E E':=rll n [] D s hc ok k h hs
end
def isAg:TypeDesc->Bool
 | .struct _=>true
 | .array _ _=>true
 | _=>false
theorem zBe (h:P.underlying t=some d) (hd:isAg d=true) (w:World):(isAgg t).run P w= .ok true w:=by
 cases d<;>first| (cases hd;done)| simp [isAgg,run_underlying h]
def ldC (P:Program) (N:Lim) (ops:Array Oper) (vW:List Oper) (n:Nat) (ls:List Nat) (sz:Nat) (C:List Nat) (E:Env):Option (List LV):=
 match nthO vW n with
 | some o=>match o.op with
  | .load t y=>match runX P N ops (vW.take n) ls E with
   | some E0=>match zfH ops E0 o,ziV N o.dst,E0.opd y,P.underlying t,P.info? t with
    | some true,true,some (.ptr k off),some d,some i=>match zga E0.bx k with
     | some b=>match Nat.beq i.size sz&&subN (AV.colsL ((b.avs.drop off).take sz)) C&&isAg d with
      | true=>zfE ((b.avs.drop off).take sz)
      | false=>none
     | none=>none
    | _,_,_,_,_=>none
   | none=>none
  | _=>none
 | none=>none
def ldE (P:Program) (N:Lim) (ops:Array Oper) (vW:List Oper) (n:Nat) (ls:List Nat) (av:AV) (E:Env):Env:=
 match nthO vW n,runX P N ops (vW.take n) ls E with
 | some o,some E0=>E0.step [] [] o.dst av []
 | _,_=>E
section
variable {P:Program} {N:Lim} {ops:Array Oper} {vW:List Oper} {E E':Env} {α:Type}
theorem lbl (n:Nat) (ls:List Nat) (r:Rp α) (C:List Nat) (x:α) (k:zbf P N ops (vW.drop (n+1)) (ldE P N ops vW n ls (.rc r C x) E) E') (h:ldC P N ops vW n ls r.size C E=some (r.lv x):=by kernel_rfl):zbf P N ops vW E E':=by
 unfold ldC at h;split at h
 ·rename_i o ho;unfold ldE at k;rw [ho] at k;split at h
  ·rename_i t y hop;split at h
   ·rename_i E0 hE;rw [hE] at k;refine zjM n hE ?_;rw [zmd ho];split at h
    ·rename_i kk off fs i h1 h2 h3 h4 h5;split at h
     ·rename_i b hb;split at h
      ·rename_i hk;rw [xA,xA] at hk;have we:=xD hk.1.1;have e:=(zdD hb).2;have hlaw:=zGh (P:=P) (o:=o) (r:=r) (b:=b) (off:=off) x C hop ⟨zBe h4 hk.2,fun w=>by rw [zqx h5 w,we]⟩ h hk.1.2;refine zsE h1 hlaw ⟨by rw [e];exact h3,trivial⟩ ⟨?_,trivial⟩ rfl rfl h2 k;rw [e];exact hb
      ·cases h
     ·cases h
    ·cases h
   ·cases h
  ·cases h
 ·cases h
theorem lb (n:Nat) (r:Rp α) (C:List Nat) (x:α) (k:zbf P N ops (vW.drop (n+1)) (ldE P N ops vW n [] (.rc r C x) E) E') (h:ldC P N ops vW n [] r.size C E=some (r.lv x):=by kernel_rfl):zbf P N ops vW E E':=lbl n [] r C x k h
end
section
variable {m:Bool} {P:Program} {l:List It} {cx:Cx} {E E':Env} {Q:Exit->Act->World->Prop} {id:Nat} {ops:List Oper} {o:Operand} {b:Bool} {x y:Code}
theorem jr (h:zbf P cx.n ops.toArray ops E E') (k:JI m P l (Sx cx E') Q):JI m P (.c (.region id ops.toArray false)::l) (Sx cx E) Q:=zjH E' h k
theorem jq (ls:List Nat) (k:JI m P l (Sx cx (endE P cx.n ops.toArray ops ls E)) Q) (h:endB P cx.n ops.toArray ops ls E=true:=by kernel_rfl):JI m P (.c (.region id ops.toArray false)::l) (Sx cx E) Q:=zjH _ (rfl' ls h) k
theorem jp (k:JI m P l (Sx cx (endE P cx.n ops.toArray ops [] E)) Q) (h:endB P cx.n ops.toArray ops [] E=true:=by kernel_rfl):JI m P (.c (.region id ops.toArray false)::l) (Sx cx E) Q:=jq [] k h
theorem jk (ks ls:List Nat) (k:JI m P l (Sx cx (znV ks ls E)) Q) (h:zyh ks ls E=true:=by kernel_rfl):JI m P l (Sx cx E) Q:=fun a w hs=>k a w (hs.pick (zpC h))
theorem jT (hb:b=true) (k:JI m P (zhO x l) (Sx cx E) Q) (h:E.opd o=some (.lf (.bool b)):=by kernel_rfl):JI m P (.c (.cond o x y)::l) (Sx cx E) Q:=zCx h hb k
theorem jF (hb:b=false) (k:JI m P (zhO y l) (Sx cx E) Q) (h:E.opd o=some (.lf (.bool b)):=by kernel_rfl):JI m P (.c (.cond o x y)::l) (Sx cx E) Q:=zCw h hb k
theorem jI {α:Type} {p q:Option α} {r:α} (h:(if b then p else q)=some r) (hx:b=true->p=some r->JI m P (zhO x l) (Sx cx E) Q) (hy:b=false->q=some r->JI m P (zhO y l) (Sx cx E) Q) (ho:E.opd o=some (.lf (.bool b)):=by kernel_rfl):JI m P (.c (.cond o x y)::l) (Sx cx E) Q:=by
 rcases zeP h with ⟨c,h⟩| ⟨c,h⟩
 ·exact jT c (hx c h) ho
 ·exact jF c (hy c h) ho
end
theorem lx (h:zv P o ins bxs W V av bs) (h2:zcb P l ss is):
  zcb P (o::l) (.ex (bxs.map (·.lab)) W V av bs::ss) (⟨ins,bxs,[]⟩::is):=by simp only [zcb];exact ⟨h,h2⟩
theorem ly (as:List AV) (h:zv P o ins bxs W V av bs) (_:ins.map (·.2)=as) (h2:zcb P l ss is):
  zcb P (o::l) (.ex (bxs.map (·.lab)) W V av bs::ss) (⟨ins,bxs,[]⟩::is):=lx h h2
theorem l0 :zcb P l [] []:=by cases l<;>simp [zcb]
theorem lf1 (g:Nat) (h:zv P o ins bxs W V av bs):zv P o ((.func g,.lf (.val (.func (.func g) #[] #[])))::ins) bxs W V av bs:=h.cons _
def zFo (P:Program) (N:Lim) (ops:List Oper) (ss:List zjl) (E:Env) (ks bs:List Nat):Env:=match zsj P N ops ss E ks bs with
 | some r=>r.1
 | none=>E
def zFp (P:Program) (N:Lim) (ops:List Oper) (ss:List zjl) (E:Env) (ks bs:List Nat):Option (List DIn):=match zsj P N ops ss E ks bs with
 | some r=>some r.2
 | none=>none
theorem jd {m:Bool} {P:Program} {cx:Cx} {E:Env} {id:Nat} {ops:List Oper} {l:List It} {Q:Exit->Act->World->Prop} {ss:List zjl} {is:List DIn} (ks bs:List Nat) (hm:P.follows .mixedOrders=true) (hl:zcb P ops ss is)
  (k:JI m P l (Sx cx (zFo P cx.n ops ss E ks bs)) Q) (h:zFp P cx.n ops ss E ks bs=some is:=by kernel_rfl):JI m P (.c (.region id ops.toArray true)::l) (Sx cx E) Q:=by
 unfold zFp at h;unfold zFo at k;split at h
 ·rename_i r hr;obtain ⟨E1,is'⟩:=r;simp only [yj] at h;subst h;rw [hr] at k;exact zAj E1 ss _ ks bs hm hr hl k
 ·cases h
set_option linter.unusedSectionVars false
structure ArT (P:Program) (t e:TypeId) (n:Nat) (zl:List LV):Prop where
 u:P.underlying t=some (.array n e)
 sz:∀w,(sizeOf e).run P w= .ok 1 w
 ex:∃z,(∀w,(zeroValue t).run P w= .ok z w)/\zokL zl z.cells.toList=true
def arB (P:Program) (t:TypeId) (zl:List LV):Bool:=match P.info? t with
 | some i=>match i.zero with
  | some z=>zokL zl z.cells.toList
  | none=>false
 | none=>false
theorem ArT.ofB (hu:P.underlying t=some (.array n e)) (hs:∀w,(sizeOf e).run P w= .ok 1 w) (h:arB P t zl=true):ArT P t e n zl:=by
 unfold arB at h;split at h
 ·rename_i i hi;split at h
  ·rename_i z hz;exact ⟨hu,hs,z,fun w=>by simp [zeroValue,typeInfo,hi,hz],h⟩
  ·cases h
 ·cases h
section
end
def nilA:AV->Bool
 | .lf (.val (.slice none 0 0))=>true
 | _=>false
theorem zwB (h:nilA a=true):a= .lf (.val (.slice none 0 0)):=by
 unfold nilA at h;split at h
 ·rfl
 ·cases h
def wk0 (a:AV):AV->AV
 | .any=> .any
 | .own r e ℓ C _=>match nilA a with
  | true=>match memN ℓ C with
   | false=> .own r e ℓ C []
   | true=>a
  | false=>match a with
   | .own r e ℓ D xs=>match subN D C&& !memN ℓ C with
    | true=> .own r e ℓ C xs
    | false=>a
   | _=>a
 | .sl r C _=>match nilA a with
  | true=> .sl r C []
  | false=>match a with
   | .own r e ℓ D xs=>match subN (ℓ::D) C with
    | true=> .sl r C xs
    | false=>a
   | .sl r D xs=>match subN D C with
    | true=> .sl r C xs
    | false=>a
   | _=>a
 | .rc _ C _=>match a with
  | .rc r D x=>match subN D C with
   | true=> .rc r C x
   | false=>a
  | _=>a
 | .qp r C _=>match a with
  | .lf (.val (.pointer none))=> .qp r C none
  | .qp r D o=>match subN D C with
   | true=> .qp r C o
   | false=>a
  | _=>a
 | .mp _ _ C _=>match a with
  | .mp rk rv D m=>match subN D C with
   | true=> .mp rk rv C m
   | false=>a
  | .om rk rv ℓ D m=>match subN (ℓ::D) C with
   | true=> .mp rk rv C m
   | false=>a
  | @AV.mo _ _ _ rk r _ ℓ D m=>match subN (ℓ::D) C with
   | true=> .mp rk (Rp.list r) C m
   | false=>a
  | _=>a
 | .om _ _ _ C _=>match a with
  | .om rk rv ℓ D m=>match subN D C&& !memN ℓ C with
   | true=> .om rk rv ℓ C m
   | false=>a
  | _=>a
 | @AV.mo _ _ _ _ _ _ _ C _=>match a with
  | @AV.mo _ _ _ rk r e ℓ D m=>match subN D C&& !memN ℓ C with
   | true=> .mo rk r e ℓ C m
   | false=>a
  | _=>a
 | _=>a
theorem andN (h:(a&& !b)=true):a=true/\b=false:=by simpa using h
theorem zDS (a b:AV):AV.le a (wk0 a b):=by
 unfold wk0;split
 ·exact zGa _
 ·split
  ·rename_i h;rw [zwB h];split
   ·exact zpq _ _ _ _ ‹_›
   ·exact AV.le_refl _
  ·split
   ·split
    ·rename_i h;exact zGd _ _ _ _ _ _ (andN h).1 (andN h).2
    ·exact AV.le_refl _
   ·exact AV.le_refl _
 ·split
  ·rename_i h;rw [zwB h];exact zgm _ _
  ·split
   ·split
    ·exact zGf _ _ _ _ _ _ ‹_›
    ·exact AV.le_refl _
   ·split
    ·exact zGV _ _ _ _ ‹_›
    ·exact AV.le_refl _
   ·exact AV.le_refl _
 ·split
  ·split
   ·exact zGU _ _ _ _ ‹_›
   ·exact AV.le_refl _
  ·exact AV.le_refl _
 ·split
  ·exact zBh _ _
  ·split
   ·exact zGT _ _ _ _ ‹_›
   ·exact AV.le_refl _
  ·exact AV.le_refl _
 ·split
  ·split
   ·exact zCL _ _ _ ‹_›
   ·exact AV.le_refl _
  ·split
   ·exact zGc _ _ _ _ ‹_›
   ·exact AV.le_refl _
  ·split
   ·exact zGb _ _ _ _ _ _ _ ‹_›
   ·exact AV.le_refl _
  ·exact AV.le_refl _
 ·split
  ·split
   ·rename_i h;exact zGS _ _ _ _ (andN h).1 (andN h).2
   ·exact AV.le_refl _
  ·exact AV.le_refl _
 ·split
  ·split
   ·rename_i h;exact zGR _ _ _ _ _ _ _ (andN h).1 (andN h).2
   ·exact AV.le_refl _
  ·exact AV.le_refl _
 ·exact AV.le_refl _
theorem zur (hf:∀a b,AV.le a (f a b)):∀{l m:List AV},l.length=m.length->leL l (zipA f l m)
 | [],[],_=>trivial
 | [],_::_,h=>by simp at h
 | _::_,[],h=>by simp at h
 | x::l,y::m,h=>⟨hf x y,zur hf (by simpa using h)⟩
def wk1 (a:AV):AV->AV
 | .ag m=>match a with
  | .ag l=>match Nat.beq l.length m.length with
   | true=> .ag (zipA wk0 l m)
   | false=>a
  | _=>a
 | b=>wk0 a b
theorem zDT (a b:AV):AV.le a (wk1 a b):=by
 unfold wk1;split
 ·split
  ·split
   ·exact zCK (zur zDS (xD ‹_›))
   ·exact AV.le_refl _
  ·exact AV.le_refl _
 ·exact zDS _ _
def wkS (E:Env) (l:List (Nat×AV)):List (Nat×AV):=l.map fun p=>(p.1,match lookup E.sl p.1 with
 | some a=>wk1 a p.2
 | none=> .any)
def wkB (E:Env):List Bx->Option (List Bx)
 | []=>some []
 | b::l=>match zga E.bx b.lab,wkB E l with
  | some c,some r=>match Nat.beq c.avs.length b.avs.length with
   | true=>some (⟨c.lab,c.typ,zipA wk1 c.avs b.avs⟩::r)
   | false=>none
  | _,_=>none
theorem zDU (h:Bxs γ w E.bx):∀{l r:List Bx},wkB E l=some r->Bxs γ w r
 | [],r,e=>by cases e;exact fun b hb=>by cases hb
 | b::l,r,e=>by
  rw [wkB] at e;split at e
  ·rename_i c r' h1 h2;split at e
   ·rename_i hn;cases e;intro x hx;cases hx with
    | head=>
     obtain ⟨g,cs,hh,hr,h1c⟩:=h c (zdD h1).1;exact ⟨g,cs,hh,zqi (zur zDT (xD hn)) hr,h1c⟩
    | tail _ hx=>exact zDU h h2 x hx
   ·cases e
  ·cases e
def wkE (E E':Env):Option Env:=match wkB E E'.bx with
 | some l=>some ⟨wkS E E'.sl,l⟩
 | none=>none
theorem lw (h:wkE E E'=some E':=by kernel_rfl):zev E E':=by
 intro cx a w hs;obtain ⟨γ,hB,hS,hX⟩:=hs;unfold wkE at h;split at h
 ·rename_i l hl;have e:(⟨wkS E E'.sl,l⟩:Env)=E':=qi h;rw [<-e];refine ⟨γ,hB,fun p hp=>?_,zDU hX hl⟩;obtain ⟨q,_,rfl⟩:=xK.1 hp;simp only;split
  ·rename_i a0 ha;exact zDT _ _ _ _ _ (hS _ (zcO ha))
  ·exact trivial
 ·cases h
def zxp (fn:Func):Code:=match fn.body with
 | some c=>c
 | none=> .ret
def ztO:List ResultVar->List AV->List (Nat×AV)
 | .tmp t::rs,a::l=>(t,a)::ztO rs l
 | _,_=>[]
def hasT (t:Nat):List ResultVar->Bool
 | .tmp u::rs=>Nat.beq t u|| hasT t rs
 | _=>false
def zqv:List ResultVar->List AV->Bool
 | [],[]=>true
 | .tmp t::rs,_::l=> !hasT t rs&&zqv rs l
 | _,_=>false
theorem zvF :∀{rs:List ResultVar} {l:List AV},zqv rs l=true->lookup (ztO rs l) u=some b->hasT u rs=true
 | [],[],_,h=>by cases h
 | [],_::_,n,_=>by cases n
 | .cell ..::_,_,n,_=>by simp [zqv] at n
 | .tmp t::rs,[],n,_=>by cases n
 | .tmp t::rs,a::l,n,h=>by
  simp only [zqv,xA,yd] at n;rw [ztO,lookup] at h;rw [hasT];split at h
  ·rename_i e;have:=xD e;simp only at this;simp [this]
  ·rw [zvF n.2 h];simp
theorem zyw :∀{rs:List ResultVar} {l:List AV},zqv rs l=true->(∀t a,lookup (ztO rs l) t=some a->lookup E.sl t=some a)->zkV P E rs l
 | [],[],_,_=>trivial
 | [],_::_,n,_=>by cases n
 | .cell ..::_,_,n,_=>by simp [zqv] at n
 | .tmp t::rs,[],n,_=>by cases n
 | .tmp t::rs,a::l,n,h=>by
  simp only [zqv,xA,yd] at n;refine ⟨h t a (by rw [ztO,lookup];simp),zyw n.2 fun u b hu=>h u b ?_⟩;rw [ztO,lookup];have hne:Nat.beq t u=false:=by
   cases e:Nat.beq t u with
   | false=>rfl
   | true=>rw [xD e,zvF n.2 hu] at n;simp at n
  simp only [hne];exact hu
section
variable {P:Program} {f:FuncId} {fn:Func} {ins wb:List AV}
def hdOk (N:Nat) (fn:Func) (ins wb:List AV):Bool:=fn.body.isSome&&Nat.beq fn.ntmps N&&Nat.ble ins.length N&&zqv fn.results.toList wb
theorem zBc (h:hdOk N fn ins wb=true):fn.body=some (zxp fn)/\fn.ntmps=N/\Nat.ble ins.length N=true/\zqv fn.results.toList wb=true:=by
 simp only [hdOk,xA] at h;obtain ⟨⟨⟨h1,h2⟩,h3⟩,h4⟩:=h;refine ⟨?_,xD h2,h3,h4⟩;unfold zxp;cases e:fn.body with
 | none=>rw [e] at h1;cases h1
 | some c=>rfl
theorem fi (N:Nat) (hf:P.funcs[f]? =some fn) (hj:∀X:Ext,JI true P (zhO (zxp fn) []) (Sx ⟨⟨N,[]⟩,X,false,#[]⟩ ⟨zmB 0 ins,[]⟩) fun e a w=>e= .ret/\Sx ⟨⟨N,[]⟩,X,false,#[]⟩ ⟨ztO fn.results.toList wb,[]⟩ a w)
  (h:hdOk N fn ins wb=true:=by kernel_rfl):FnOk P f ins wb:=by
 obtain ⟨h1,h2,h3,h4⟩:=zBc h;exact zve N hf h1 h2 h3 (zyw h4 fun _ _ e=>e) fun X=>zgg (hj X)
theorem fj (E:Env) (N:Nat) (hf:P.funcs[f]? =some fn) (hr:zkV P E fn.results.toList wb) (hj:∀X:Ext,JI true P (zhO (zxp fn) []) (Sx ⟨⟨N,[]⟩,X,false,#[]⟩ ⟨zmB 0 ins,[]⟩) fun e a w=>e= .ret/\Sx ⟨⟨N,[]⟩,X,false,#[]⟩ E a w)
  (h:(fn.body.isSome&&Nat.beq fn.ntmps N&&Nat.ble ins.length N)=true:=by kernel_rfl):FnOk P f ins wb:=by
 simp only [xA] at h;refine zve N hf ?_ (xD h.1.2) h.2 hr fun X=>zgg (hj X)
 have h1:=h.1.1;unfold zxp;cases e:fn.body with
 | none=>rw [e] at h1;cases h1
 | some c=>rfl
end
theorem lzr :zev E E:=fun _ _ _ h=>h
def addE (E:Env) (ks ls:List Nat) (nw:List (Nat×AV)) (nb:List Bx):Env:=⟨nw++(znV ks ls E).sl,nb++(znV ks ls E).bx⟩
inductive Ex
 | n (E:Env)
 | x (id:Nat) (E:Env)
 | r (E:Env)
 | N (ks ls:List Nat) (nw:List (Nat×AV)) (nb:List Bx)
 | X (id:Nat) (ks ls:List Nat) (nw:List (Nat×AV)) (nb:List Bx)
def Ex.R (cx:Cx) (E0:Env):Ex->Exit->Act->World->Prop
 | .n E,e,a,w=>e= .normal/\Sx cx E a w
 | .x id E,e,a,w=>e= .exit id/\Sx cx E a w
 | .r E,e,a,w=>e= .ret/\Sx cx E a w
 | .N ks ls nw nb,e,a,w=>e= .normal/\Sx cx (addE E0 ks ls nw nb) a w
 | .X id ks ls nw nb,e,a,w=>e= .exit id/\Sx cx (addE E0 ks ls nw nb) a w
section
variable {m:Bool} {P:Program} {Q:Exit->Act->World->Prop} {l:List It} {c:Code} {cx:Cx} {E:Env}
theorem jl {σ ρ:Type} {vX:σ->Option (σ⊕ρ)} {s:σ} {r:ρ} (h:zT vX s=some r) (ks ls:List Nat) (nw:σ->List (Nat×AV)) (nb:σ->List Bx) (R:ρ->Ex)
  (hb:∀s o,vX s=some o->JI m P (zhO c []) (Sx cx (addE E ks ls (nw s) (nb s))) (match o with
   | .inl s'=>fun e a w=>e= .normal/\Sx cx (addE E ks ls (nw s') (nb s')) a w
   | .inr r=>fun e a w=>e≠ .normal/\(R r).R cx E e a w)) (hS:zev E (addE E ks ls (nw s) (nb s))) (k:∀e a w,(R r).R cx E e a w->zhK m P Q l e a w):JI m P (.c (.loop c)::l) (Sx cx E) Q:=
 zEp vX (fun s=>addE E ks ls (nw s) (nb s)) (fun r=>(R r).R cx E) (fun s o e=>zgg (hb s o e)) h hS k
theorem jL {σ ρ:Type} {vX:σ->Option (σ⊕ρ)} {s:σ} {r:ρ} (h:zT vX s=some r) (ks ls:List Nat) (nw:σ->List (Nat×AV)) (R:ρ->Ex)
  (hb:∀s o,vX s=some o->JI m P (zhO c []) (Sx cx (addE E ks ls (nw s) [])) (match o with
   | .inl s'=>fun e a w=>e= .normal/\Sx cx (addE E ks ls (nw s') []) a w
   | .inr r=>fun e a w=>e≠ .normal/\(R r).R cx E e a w)) (hS:zev E (addE E ks ls (nw s) [])) (k:∀e a w,(R r).R cx E e a w->zhK m P Q l e a w):JI m P (.c (.loop c)::l) (Sx cx E) Q:=jl h ks ls nw (fun _=>[]) R hb hS k
theorem jn (R:Ex) (h:JI m P (zhO c []) (Sx cx E) (R.R cx E)) (k:∀e a w,R.R cx E e a w->zhK m P Q l e a w):JI m P (.c c::l) (Sx cx E) Q:=zAk (zgg h) k
theorem jz {id:Nat} {ops:List Oper} {E1:Env} (h:finC P cx.n ops.toArray ops [] E E1.keys E1.labs=some E1:=by kernel_rfl):JI m P (.c (.region id ops.toArray false):: .c .ret::l) (Sx cx E) fun e a w=>e= .ret/\Sx cx E1 a w:=zjH E1 (rgg h) (zz lzr)
theorem jz' {id:Nat} {ops:List Oper} {E1:Env} (h:finC P cx.n ops.toArray ops [] E E1.keys E1.labs=some E1:=by kernel_rfl):JI m P (.c (.region id ops.toArray false):: .c .ret::l) (Sx cx E) fun e a w=>e≠ .normal/\e= .ret/\Sx cx E1 a w:=zjH E1 (rgg h) (zwo lzr)
theorem jy {id:Nat} {ops:List Oper} {E1:Env} (h:finC P cx.n ops.toArray ops [] E E1.keys E1.labs=some E1:=by kernel_rfl):JI m P [.c (.region id ops.toArray false)] (Sx cx E) fun e a w=>e= .normal/\Sx cx E1 a w:=zjH E1 (rgg h) (zY lzr)
end
def renE (E:Env):List (Nat×Nat)->Env
 | []=>E
 | p::l=>renE (E.ren p.1 p.2) l
def okRn:List (Nat×Nat)->Bool
 | []=>true
 | p::l=>(Nat.ble 2 p.1&&Nat.ble 2 p.2&& !spB p.1)&&okRn l
theorem zAG:∀(l:List (Nat×Nat)) {E E':Env},okRn l=true->zev (renE E l) E'->zev E E'
 | [],_,_,_,k=>k
 | p::l,_,_,h,k=>by
  simp only [okRn,xA] at h;exact zFB p.1 p.2 (by simpa using h.1) (zAG l h.2 k)
theorem lks (ls:List Nat) (rn:List (Nat×Nat)) (k:zev (renE (znV E'.keys ls E) rn) E') (h:(zyh E'.keys ls E&&okRn rn)=true:=by kernel_rfl):zev E E':=by
 rw [xA] at h;exact (zst _ _ (zpC h.1)).trans (zAG rn h.2 k)
section
variable {P:Program} {L:List Oper} {ss:List zjl} {is:List DIn}
theorem lwn:∀(n:Nat) {L:List Oper},zcb P (L.drop n) ss is->zcb P L (List.replicate n .ev++ss) is
 | 0,_,h=>h
 | n+1,[],h=>by show zcb P [] (.ev::_) is;cases is<;>trivial
 | n+1,o::L,h=>lw_e (lwn n h)
theorem dg (t:Nat) (hc:c=b) (k:zcb P l ss is) (h:zqX P (Env.opd ⟨[(t,.lf (.bool c))],[]⟩) (zpU ⟨[(t,.lf (.bool c))],[]⟩ o.op) o.op=some (.lf (.bool c)):=by kernel_rfl):
  zcb P (o::l) (.ex ((zpU ⟨[(t,.lf (.bool c))],[]⟩ o.op).map (·.lab)) [] [] (.lf (.bool b)) []::ss) (⟨zkk ⟨[(t,.lf (.bool c))],[]⟩ o.op.operands.toList,zpU ⟨[(t,.lf (.bool c))],[]⟩ o.op,[]⟩::is):=lx (zGg _ h hc) k
theorem di {o:Oper} {l:List Oper} {α:Type} {r:Rp α} {xs:List α} {i:Int} {x:α} {t e:TypeId} {y z:Operand} {bytes:Nat} (C:List Nat) (hT:ElT P t e r.size bytes) (hx:idx xs i=some x) (k:zcb P l ss is) (ho:o.op= .indexAddr t y z:=by rfl):
  zcb P (o::l) (.ex [] [] [] (.ep r C x 0) []::ss) (⟨[(y,.sl r C xs),(z,.lf (.int .i64 i))],[],[]⟩::is):=lx (zAs ho hT (zhh r xs C) hx) k
end
inductive LeL:List AV->List AV->Prop
 | n:LeL [] []
 | k {a:AV} {l m:List AV} (h:LeL l m):LeL (a::l) (a::m)
 | c {a b:AV} {l m:List AV} (h:a.le b) (t:LeL l m):LeL (a::l) (b::m)
 | l {a b:AV} (h:a.le b):LeL [a] [b]
def zipI:List (Operand×AV)->List AV->List (Operand×AV)
 | p::l,a::m=>(p.1,a)::zipI l m
 | _,_=>[]
theorem zCJ (h:LeL ys xs):∀{ins:List (Operand×AV)},ins.map (·.2)=xs->leI (zipI ins ys) ins:=by
 induction h with
 | n=>intro ins e;cases ins<;>first| exact trivial| cases e
 | k _ ih=>intro ins e;cases ins with
  | nil=>cases e
  | cons p l=>cases e;exact ⟨⟨rfl,AV.le_refl _⟩,ih rfl⟩
 | c h _ ih=>intro ins e;cases ins with
  | nil=>cases e
  | cons p l=>cases e;exact ⟨⟨rfl,h⟩,ih rfl⟩
 | l h=>intro ins e;cases ins with
  | nil=>cases e
  | cons p l=>cases l<;>cases e;exact ⟨⟨rfl,h⟩,trivial⟩
theorem zCI (h:LeL ys xs):∀{args:List Operand},xs.length=args.length->leI (args.zip ys) (args.zip xs):=by
 induction h with
 | n=>intro args e;cases args<;>first| exact trivial| cases e
 | k _ ih=>intro args e;cases args with
  | nil=>cases e
  | cons p l=>exact ⟨⟨rfl,AV.le_refl _⟩,ih (by simpa using e)⟩
 | c h _ ih=>intro args e;cases args with
  | nil=>cases e
  | cons p l=>exact ⟨⟨rfl,h⟩,ih (by simpa using e)⟩
 | l h=>intro args e;cases args with
  | nil=>cases e
  | cons p l=>cases l<;>first| exact ⟨⟨rfl,h⟩,trivial⟩| (simp at e)
theorem zv.lw (h:zv P o ins bxs W V av bs) (hl:LeL ys (ins.map (·.2))):zv P o (zipI ins ys) bxs W V av bs:=h.le (zCJ hl rfl)
section
variable {P:Program} {o:Oper} {f:FuncId} {args:List Operand} {ts:Array TypeId} {ins wb:List AV}
def lcK (xs wb:List AV) (D:List Nat) (s:Nat):Bool:=(xs.all fun a=>subN (zrc a) D)&& !D.isEmpty&&wb.all (zrO [1] D s)
theorem lcl (xs:List AV) (D:List Nat) (s:Nat) (hc:∀as w,(callFunc f as).run P w= .ok (.enter f as) w) (ok:FnOk P f ins wb) (ho:o.op= .call ⟨.value (.func f),args.toArray,ts⟩:=by rfl)
  (hin:xs.map inAV=ins:=by kernel_rfl) (wa:xs.length=args.length:=by rfl) (h:lcK xs wb D s=true:=by kernel_rfl):zv P o (args.zip xs) [] [] (wb.flatMap (zfB s)) (zmh (wb.map (zla D s))) []:=by
 simp only [lcK,xA,yd] at h;exact zAq xs D s ho hc ok hin wa h.1.1 h.1.2 h.2
theorem lc0 (s:Nat) (hc:∀as w,(callFunc f as).run P w= .ok (.enter f as) w) (ok:FnOk P f ins wb) (ho:o.op= .call ⟨.value (.func f),args.toArray,ts⟩:=by rfl)
  (hin:ins.map inAV=ins:=by kernel_rfl) (wa:ins.length=args.length:=by rfl) (h:lcK ins wb [0] s=true:=by kernel_rfl):zv P o (args.zip ins) [] [] (wb.flatMap (zfB s)) (zmh (wb.map (zla [0] s))) []:=lcl ins [0] s hc ok ho hin wa h
theorem lcw (xs:List AV) (D:List Nat) (s:Nat) (hc:∀as w,(callFunc f as).run P w= .ok (.enter f as) w) (ok:FnOk P f ins wb) (hl:LeL ys xs) (ho:o.op= .call ⟨.value (.func f),args.toArray,ts⟩:=by rfl)
  (hin:xs.map inAV=ins:=by kernel_rfl) (wa:xs.length=args.length:=by rfl) (h:lcK xs wb D s=true:=by kernel_rfl):zv P o (args.zip ys) [] [] (wb.flatMap (zfB s)) (zmh (wb.map (zla D s))) []:=(lcl xs D s hc ok ho hin wa h).le (zCI hl wa)
theorem lw0 (s:Nat) (hc:∀as w,(callFunc f as).run P w= .ok (.enter f as) w) (ok:FnOk P f ins wb) (hl:LeL ys ins) (ho:o.op= .call ⟨.value (.func f),args.toArray,ts⟩:=by rfl)
  (hin:ins.map inAV=ins:=by kernel_rfl) (wa:ins.length=args.length:=by rfl) (h:lcK ins wb [0] s=true:=by kernel_rfl):zv P o (args.zip ys) [] [] (wb.flatMap (zfB s)) (zmh (wb.map (zla [0] s))) []:=lcw ins [0] s hc ok hl ho hin wa h
theorem lbx {α:Type} {r:Rp α} {x:α} {as:List AV} {y:Operand} {t:TypeId} (ℓ:Nat) (C:List Nat) (ha:zfE as=some (r.lv x)) (ho:o.op= .box t y:=by rfl) (hl:as.all (zpa C)=true:=by rfl):zv P o [(y,.rc r C x)] [] [] [ℓ] (.ptr ℓ 0) [⟨ℓ,t,as⟩]:=
 zhl ℓ as C ho rfl (zoP C) ha hl
theorem ldw (ℓ tb:Nat) (m:List AV) (hT:AggT P t n) (ho:o.op= .load t y:=by rfl) (hn:Nat.beq m.length n=true:=by kernel_rfl) (hm:m.take n=m:=by kernel_rfl):zv P o [(y,.ptr ℓ 0)] [⟨ℓ,tb,m⟩] [] [] (.ag m) []:=
 zAt (b:=⟨ℓ,tb,m⟩) m ho hT hm hn
def dedN:List Nat->List Nat
 | []=>[]
 | x::l=>x::(dedN l).filter fun y=> !Nat.beq y x
def colD (xs:List AV):List Nat:=match dedN (xs.flatMap zrc) with
 | []=>[1]
 | l=>l
theorem lcd (xs:List AV) (s:Nat) (hc:∀as w,(callFunc f as).run P w= .ok (.enter f as) w) (ok:FnOk P f ins wb) (ho:o.op= .call ⟨.value (.func f),args.toArray,ts⟩:=by rfl)
  (hin:xs.map inAV=ins:=by kernel_rfl) (wa:xs.length=args.length:=by rfl) (h:lcK xs wb (colD xs) s=true:=by kernel_rfl):zv P o (args.zip xs) [] [] (wb.flatMap (zfB s)) (zmh (wb.map (zla (colD xs) s))) []:=lcl xs (colD xs) s hc ok ho hin wa h
def rpZ (n:Nat):Rp Empty:=⟨n+1,true,nofun,nofun,Nat.succ_pos n⟩
def nil1 (a:AV):LV->AV
 | .sl _ (n+1) _=>match nilA a with
  | true=> .sl (rpZ n) [] []
  | false=>a
 | _=>a
theorem zEI (a:AV) (v:LV):AV.le a (nil1 a v)/\∀c∈AV.cols (nil1 a v),c∈AV.cols a:=by
 unfold nil1;split
 ·split
  ·rename_i h;rw [zwB h];exact ⟨zgm _ _,fun c hc=>by simp [AV.cols] at hc⟩
  ·exact ⟨AV.le_refl _,fun c hc=>hc⟩
 ·exact ⟨AV.le_refl _,fun c hc=>hc⟩
def nilZ:List AV->List LV->List AV
 | a::l,v::lv=>nil1 a v::nilZ l lv
 | _,_=>[]
theorem zAy:∀{l:List AV} {lv:List LV},l.length=lv.length->leL l (nilZ l lv)/\∀c∈AV.colsL (nilZ l lv),c∈AV.colsL l
 | [],[],_=>⟨trivial,fun c h=>h⟩
 | [],_::_,h=>by simp at h
 | _::_,[],h=>by simp at h
 | a::l,v::lv,h=>by
  obtain ⟨h1,h2⟩:=zAy (l:=l) (lv:=lv) (by simpa using h);obtain ⟨h3,h4⟩:=zEI a v;refine ⟨⟨h3,h1⟩,fun c hc=>?_⟩;simp only [nilZ,AV.colsL,xE] at hc|-;exact hc.imp (h4 c) (h2 c)
theorem zFZ {α:Type} {r:Rp α} {x:α} {l:List AV} {lv:List LV} (e:r.lv x=lv) (hn:Nat.beq l.length lv.length=true) (hl:zfE (nilZ l lv)=some lv):AV.le (.ag l) (.rc r (AV.colsL l) x):=by
 obtain ⟨h1,h2⟩:=zAy (xD hn);refine zFC (zCK h1) (zmD r _ x _ (by rw [e];exact hl) ?_);simp only [subN,xJ];exact fun c hc=>zas.2 (h2 c hc)
inductive LeZ:List AV->List AV->List AV->Prop
 | n:LeZ [] [] []
 | k {a:AV} {ys is xs:List AV} (h:LeZ ys is xs):LeZ (a::ys) (inAV a::is) (a::xs)
 | c {α:Type} {r:Rp α} {x:α} {l:List AV} {lv:List LV} {ys is xs:List AV} (e:r.lv x=lv) (h:LeZ ys is xs) (hn:Nat.beq l.length lv.length=true:=by kernel_rfl) (hl:zfE (nilZ l lv)=some lv:=by kernel_rfl):LeZ (.ag l::ys) (.rc r [0] x::is) (.rc r (AV.colsL l) x::xs)
theorem LeZ.ok {ys is xs:List AV} (h:LeZ ys is xs):xs.map inAV=is/\xs.length=ys.length/\∀{args:List Operand},leI (args.zip ys) (args.zip xs):=by
 induction h with
 | n=>exact ⟨rfl,rfl,by intro args;cases args<;>trivial⟩
 | k _ ih=>exact ⟨by simp [ih.1],by simp [ih.2.1],by intro args;cases args with
  | nil=>trivial
  | cons p q=>exact ⟨⟨rfl,AV.le_refl _⟩,ih.2.2⟩⟩
 | c e _ hn hl ih=>exact ⟨by simp [ih.1,inAV,zth],by simp [ih.2.1],by intro args;cases args with
  | nil=>trivial
  | cons p q=>exact ⟨⟨rfl,zFZ e hn hl⟩,ih.2.2⟩⟩
theorem lcz (ys:List AV) (s:Nat) (hc:∀as w,(callFunc f as).run P w= .ok (.enter f as) w) (ok:FnOk P f ins wb) (hz:LeZ ys ins xs) (ho:o.op= .call ⟨.value (.func f),args.toArray,ts⟩:=by rfl)
  (wa:ys.length=args.length:=by rfl) (h:lcK xs wb (colD xs) s=true:=by kernel_rfl):zv P o (args.zip ys) [] [] (wb.flatMap (zfB s)) (zmh (wb.map (zla (colD xs) s))) []:=
 (lcl xs (colD xs) s hc ok ho hz.ok.1 (hz.ok.2.1.trans wa) h).le hz.ok.2.2
theorem las {α:Type} {r:Rp α} {xs ys zs:List α} {t e:TypeId} {x y:Operand} {bytes:Nat} (ℓ:Nat) (C D C2:List Nat) (hT:ElT P t e r.size bytes) (hz:app bytes xs ys=some zs) (hC:r.Plain\/(subN C C2&&subN D C2)=true)
  (ho:o.op= .call ⟨.builtin .append,#[x,y],#[t,t]⟩:=by rfl) (hb:Nat.blt 0 bytes=true:=by rfl) (hℓ:memN ℓ C2=false:=by rfl):zv P o [(x,.own r e ℓ C xs),(y,.sl r D ys)] [] [ℓ] [ℓ] (.own r e ℓ C2 zs) []:=
 zwx ℓ C2 ho hT hb (zlX _ _ _ _ _) (zhh _ _ _) hz hC hℓ
theorem lao {α:Type} {r:Rp α} {xs ys zs:List α} {t e:TypeId} {x y:Operand} {bytes:Nat} (ℓ:Nat) (C:List Nat) (e' k:Nat) (D C2:List Nat) (hT:ElT P t e r.size bytes) (hz:app bytes xs ys=some zs) (hC:r.Plain\/(subN C C2&&subN (k::D) C2)=true)
  (ho:o.op= .call ⟨.builtin .append,#[x,y],#[t,t]⟩:=by rfl) (hb:Nat.blt 0 bytes=true:=by rfl) (hℓ:memN ℓ C2=false:=by rfl):zv P o [(x,.own r e ℓ C xs),(y,.own r e' k D ys)] [] [ℓ] [ℓ] (.own r e ℓ C2 zs) []:=
 zwx ℓ C2 ho hT hb (zlX _ _ _ _ _) (zlY _ _ _ _ _) hz hC hℓ
theorem lde {α:Type} {t:TypeId} {y:Operand} (r:Rp α) (D:List Nat) (x:α) (hT:AggT P t r.size) (ho:o.op= .load t y:=by rfl):zv P o [(y,.ep r D x 0)] [] [] [] (.rc r D x) []:=zGi ho hT
theorem ldl {α β:Type} {t:TypeId} {y:Operand} (r:Rp α) (D:List Nat) (x:α) (off:Nat) (r':Rp β) (xs:List β) (hs:(r.lv x)[off]? =some (.sl xs.length r'.size (xs.flatMap r'.lv)):=by rfl) (ho:o.op= .load t y:=by rfl) (hT:zdE P t=true:=by rfl):
  zv P o [(y,.ep r D x off)] [] [] [] (.sl r' D xs) []:=zGj r' xs ho hT hs
theorem lbs1 {α:Type} {r:Rp α} {t e:TypeId} {y:Operand} {bytes:Nat} {x0:α} (ℓ:Nat) (C:List Nat) (x:α) (hT:ZeT P t e r bytes x0) (ho:o.op= .buildSlice t 1 [(0,y)].toArray:=by rfl) (hn:(Nat.ble (1*r.size) 16777216&& !memN ℓ C)=true:=by rfl):
  zv P o [(y,.rc r C x)] [] [] [ℓ] (.own r e ℓ C [x]) []:=by
 simp only [xA,yd] at hn;have h1:=r.len x;have h0:=r.len x0;refine zgv (wo:=[(0,y)]) [.rc r C x] ℓ C [x] ho hT (by rw [hn.1];rfl) (by simp [AV.colsL,AV.cols,zoP]) hn.2 ?_;simp [zxB,zoH,zmH,zvb,List.replicate,h0,h1,zqz,Nat.ble_eq_true_of_le]
theorem lbd {wo:List (Nat×Operand)} (as:List AV) (hT:StA P t places zs) (ho:o.op= .build t wo.toArray:=by rfl) (hf:zxA (fun i=>places[i]?) zs wo as=some as:=by rfl):
  zv P o ((wo.map (·.2)).zip as) [] [] [] (.ag as) []:=zjJ as as ho hT hf
variable {N:Lim} {ops:Array Oper} {vW:List Oper} {E E':Env}
theorem rx {α:Type} {r:Rp α} {xs:List α} {i:Int} {x:α} {t e:TypeId} {y z:Operand} {bytes:Nat} (n:Nat) (C:List Nat) (hT:ElT P t e r.size bytes) (hx:idx xs i=some x) (ho:nthO vW n=some o) (hq:o.op= .indexAddr t y z)
  (k:zbf P N ops (vW.drop (n+1)) (zvL P N ops vW n [] o E [y,z] [] [] [] (.ep r C x 0) []) E')
  (h:zvK P N ops vW n [] o E [y,z] [] [] [] (.ep r C x 0) []=some ([.sl r C xs,.lf (.int .i64 i)],[]):=by kernel_rfl):zbf P N ops vW E E':=rc n ho (zAs hq hT (zhh r xs C) hx) k h
theorem rsI {α:Type} {p q:Option α} {v:α} {b:Bool} (n t:Nat) (h:(if b then p else q)=some v) (h1:b=true->p=some v->zbf P N ops (vW.drop n) ⟨zie (some t) (.lf (.bool true)) (endE P N ops (vW.take n) [] E).sl,(endE P N ops (vW.take n) [] E).bx⟩ E')
  (h0:b=false->q=some v->zbf P N ops (vW.drop n) ⟨zie (some t) (.lf (.bool false)) (endE P N ops (vW.take n) [] E).sl,(endE P N ops (vW.take n) [] E).bx⟩ E')
  (hk:splC P N ops (vW.take n) [] E t=some (.lf (.bool b)):=by kernel_rfl):zbf P N ops vW E E':=rsl n [] t b (fun e=>h1 e (iteT h e)) (fun e=>h0 e (iteF h e)) hk
end
theorem jg {m:Bool} {P:Program} {l:List It} {cx:Cx} {E:Env} {Q:Exit->Act->World->Prop} {id:Nat} {ops:List Oper} (ks ls:List Nat) (nw:List (Nat×AV)) (h:zbf P cx.n ops.toArray ops E ⟨nw++(znV ks ls E).sl,(znV ks ls E).bx⟩)
  (k:JI m P l (Sx cx ⟨nw++(znV ks ls E).sl,(znV ks ls E).bx⟩) Q):JI m P (.c (.region id ops.toArray false)::l) (Sx cx E) Q:=zjH _ h k
def frA (ℓ:Nat) (x:AV):AV:=match AV.free [ℓ] [] x with
 | true=>x
 | false=> .any
def isOm (ℓ:Nat):AV->Bool
 | .om _ _ k _ _=>Nat.beq k ℓ
 | _=>false
def zyF (ℓ:Nat) (a' x:AV):AV:=match isOm ℓ x with
 | true=>a'
 | false=>frA ℓ x
def oms0 (ℓ:Nat) (x:AV):List AV:=match isOm ℓ x with
 | true=>[x]
 | false=>[]
def zvP (ℓ:Nat) (a':AV):AV->AV
 | .ag l=> .ag (l.map (zyF ℓ a'))
 | x=>zyF ℓ a' x
def oms1 (ℓ:Nat):AV->List AV
 | .ag l=>l.flatMap (oms0 ℓ)
 | x=>oms0 ℓ x
section
variable {ℓ:Nat} {a a':AV}
theorem zyG (h:∀y∈oms0 ℓ x,y=a):zrA [ℓ] [] [(a,a')] x (zyF ℓ a' x):=by
 unfold zyF;unfold oms0 at h;split
 ·rename_i e;rw [e] at h;rw [h x (by simp)];exact zpf 0 rfl
 ·unfold frA;split
  ·exact zaO ‹_›
  ·exact zGC
theorem zvO:∀{l:List AV},(∀y∈l.flatMap (oms0 ℓ),y=a)->zmt [ℓ] [] [(a,a')] l (l.map (zyF ℓ a'))
 | [],_=>trivial
 | x::l,h=>⟨zyG fun y hy=>h y (by rw [xN];exact xE.2 (.inl hy)),zvO fun y hy=>h y (by rw [xN];exact xE.2 (.inr hy))⟩
theorem zyH (h:∀y∈oms1 ℓ x,y=a):zrA [ℓ] [] [(a,a')] x (zvP ℓ a' x):=by
 cases x<;>first| exact zDH (zvO h)| exact zyG h
theorem zvQ:∀{l:List AV},(∀y∈l.flatMap (oms1 ℓ),y=a)->zmt [ℓ] [] [(a,a')] l (l.map (zvP ℓ a'))
 | [],_=>trivial
 | x::l,h=>⟨zyH fun y hy=>h y (by rw [xN];exact xE.2 (.inl hy)),zvQ fun y hy=>h y (by rw [xN];exact xE.2 (.inr hy))⟩
def zAP (ℓ:Nat) (a':AV) (E:Env):Env:=⟨E.sl.map fun p=>(p.1,zvP ℓ a' p.2),(E.bx.filter fun b=> !Nat.beq b.lab ℓ).map fun b=>⟨b.lab,b.typ,b.avs.map (zvP ℓ a')⟩⟩
def omsE (ℓ:Nat) (E:Env):List AV:=(E.sl.flatMap fun p=>oms1 ℓ p.2)++E.bx.flatMap fun b=>b.avs.flatMap (oms1 ℓ)
theorem zDL (t:Tr [ℓ] [] γ w γ' w') (hT:∀p∈[(a,a')],zms γ w γ' w' p) (h:omsE ℓ E=List.replicate (omsE ℓ E).length a) (hs:Sl γ w c E.sl) (hx:Bxs γ w E.bx):
  Sl γ' w' c (zAP ℓ a' E).sl/\Bxs γ' w' (zAP ℓ a' E).bx:=by
 have hm:∀y∈omsE ℓ E,y=a:=fun y hy=>by rw [h] at hy;exact List.eq_of_mem_replicate hy
 refine ⟨fun p hp=>?_,fun b hb=>?_⟩
 ·obtain ⟨q,hq,rfl⟩:=xK.1 hp;exact zyH (fun y hy=>hm y (xE.2 (.inl (qd.2 ⟨q,hq,hy⟩)))) _ _ _ _ t hT _ (hs q hq)
 ·have hB:BxT [ℓ] [] [(a,a')] E.bx ((E.bx.filter fun b=> !Nat.beq b.lab ℓ).map fun b=>⟨b.lab,b.typ,b.avs.map (zvP ℓ a')⟩)->b.rel γ' w':=fun H=>BxT.rel t hT hx H b hb
  obtain ⟨q,hq,rfl⟩:=xK.1 hb;obtain ⟨hq1,hq2⟩:=yG.1 hq;have h1:BxT [ℓ] [] [(a,a')] [q] [⟨q.lab,q.typ,q.avs.map (zvP ℓ a')⟩]:=by
   refine ⟨⟨q,by simp [zga],rfl,?_,zvQ fun y hy=>hm y (xE.2 (.inr (qd.2 ⟨q,hq1,hy⟩)))⟩,trivial⟩;have hne:Nat.beq q.lab ℓ=false:=by simpa using hq2
   simp [memN,hne]
  exact BxT.rel t hT (fun x hx'=>by cases hx' with
   | head=>exact hx q hq1
   | tail _ h=>cases h) h1 _ xy
end
def zFG (vW:List Oper) (n:Nat):Option (TypeId×Operand×Operand×Operand):=match nthO vW n with
 | some o=>match o.op with
  | .mapUpdate t y z u=>some (t,y,z,u)
  | .insert t y z u=>some (t,y,z,u)
  | _=>none
 | none=>none
def msK (P:Program) (N:Lim) (ops:Array Oper) (vW:List Oper) (n:Nat) (ls:List Nat) (E:Env) (ℓ:Nat):Bool:=endB P N ops (vW.take n) ls E&&Nat.ble 2 ℓ&&match nthO vW n with
 | some o=>o.dst.isNone&&match zfH ops (endE P N ops (vW.take n) ls E) o with
  | some true=>true
  | _=>false
 | none=>false
section
variable {P:Program} {N:Lim} {ops:Array Oper} {vW:List Oper} {E E':Env} {κ ν:Type} [DecidableEq κ] {rk:Rp κ} {rv:Rp ν} {m:List (κ×ν)} {t kt et:TypeId} {x0:ν} {y z u:Operand} {ak av:AV} {C1 D:List Nat}
theorem rts (ho:nthO vW n=some o) (hs:zns P o ins [ℓ] [] .any [(a,a')]) (k:zbf P N ops (vW.drop (n+1)) (zAP ℓ a' (endE P N ops (vW.take n) ls E)) E')
  (h1:msK P N ops vW n ls E ℓ=true) (h2:zjk (endE P N ops (vW.take n) ls E) (ins.map (·.1))=some (ins.map (·.2))) (h3:omsE ℓ (endE P N ops (vW.take n) ls E)=List.replicate (omsE ℓ (endE P N ops (vW.take n) ls E)).length a):zbf P N ops vW E E':=by
 unfold msK at h1;rw [ho] at h1;simp only [xA] at h1;obtain ⟨⟨c1,c2⟩,c3,c4⟩:=h1;refine zjM n (zsX c1) ?_;rw [zmd ho];split at c4
 ·rename_i hg;intro cx c w Q hn hx hQ;obtain ⟨γ,hb,hsl,hbx⟩:=hx;refine zkn (zgb hg hsl) (hs γ c w ((zmG h2).rel hsl) _ Q fun γ' w' v ht hv hT=>?_);have hd:o.dst=none:=by simpa using c3
  obtain ⟨g1,g2⟩:=zDL (c:=c) ht hT h3 hsl hbx;rw [hd];exact k cx _ _ Q hn ⟨γ',hb.tr ht (by simp only [okW,c2];rfl) rfl,g1,g2⟩ hQ
 ·cases c4
theorem rms (n:Nat) (ls:List Nat) (ℓ:Nat) (C:List Nat) (m:List (κ×ν)) (k:κ) (x:ν) (C2:List Nat) (hT:MapT P t kt et rk rv x0) (hka:asV rk k C1 ak) (hva:asV rv x D av)
  (kk:zbf P N ops (vW.drop (n+1)) (zAP ℓ (.om rk rv ℓ C2 (mput m k x)) (endE P N ops (vW.take n) ls E)) E') (ho:zFG vW n=some (t,y,z,u):=by rfl)
  (h1:(msK P N ops vW n ls E ℓ&&(subN C C2&&subN C1 C2&&subN D C2&& !memN ℓ C2))=true:=by kernel_rfl) (h2:zjk (endE P N ops (vW.take n) ls E) [y,z,u]=some [.om rk rv ℓ C m,ak,av]:=by kernel_rfl)
  (h3:omsE ℓ (endE P N ops (vW.take n) ls E)=List.replicate (omsE ℓ (endE P N ops (vW.take n) ls E)).length (.om rk rv ℓ C m):=by kernel_rfl):zbf P N ops vW E E':=by
 rw [xA] at h1;unfold zFG at ho;split at ho
 ·rename_i o hn;refine rts hn (ins:=[(y,.om rk rv ℓ C m),(z,ak),(u,av)]) (zEV k x C2 hT ?_ hka hva h1.2) kk h1.1 h2 h3;split at ho
  ·rename_i hop;cases ho;exact .inl hop
  ·rename_i hop;cases ho;exact .inr hop
  ·cases ho
 ·cases ho
end
theorem zhY (x:Int):u8.wrap x=x%256:=by simp [IntKind.wrap,IntKind.bits,IntKind.signed]
theorem zyQ (x:Int):u32.wrap x=x%4294967296:=by simp [IntKind.wrap,IntKind.bits,IntKind.signed]
theorem zdh (x:Int):u64.wrap x=x%18446744073709551616:=by simp [IntKind.wrap,IntKind.bits,IntKind.signed]
theorem zk (h: -9223372036854775808<=x/\x<=9223372036854775807):i64.wrap x=x:=by
 simp [IntKind.wrap,IntKind.bits,IntKind.signed];split<;>omega
theorem pU {x:Int} (h: -9223372036854775808<=x/\x<=9223372036854775807:=by omega):i64.wrap x=x:=zk h
theorem zBQ (x:Int):i32.wrap x=if x%4294967296<2147483648 then x%4294967296 else x%4294967296 - 4294967296:=by
 simp [IntKind.wrap,IntKind.bits,IntKind.signed];split<;>split<;>omega
theorem zqP {k:IntKind} (hk:k.signed=false) {n:Nat} (h:n<2^k.bits):k.wrap (n:Int)=n:=by
 have h2:(n:Int)%(2^k.bits:Int)=n:=yB (by omega) (by exact_mod_cast h);simp only [IntKind.wrap,hk,yq,h2];simp
theorem zoG {b n:Nat} (h:n<2^b):(BitVec.ofInt b (n:Int)).toNat=n:=by
 rw [BitVec.toNat_ofInt];have h2:(n:Int)%((2^b:Nat):Int)=n:=yB (by omega) (by exact_mod_cast h);rw [h2];rfl
theorem zxi {k:IntKind} (hk:k.signed=false) {a b:Nat} (ha:a<2^k.bits) (hb:b<2^k.bits):andI k a b=((a&&&b:Nat):Int):=by
 unfold andI;rw [BitVec.toNat_and,zoG ha,zoG hb];exact zqP hk (Nat.lt_of_le_of_lt Nat.and_le_left ha)
theorem zsz {k:IntKind} (hk:k.signed=false) {a b:Nat} (ha:a<2^k.bits) (hb:b<2^k.bits):orI k a b=((a||| b:Nat):Int):=by
 unfold orI;rw [BitVec.toNat_or,zoG ha,zoG hb];exact zqP hk (Nat.or_lt_two_pow ha hb)
theorem zqA {k:IntKind} {a b:Nat} (hb:b<=k.bits):shrI k a b=((a/2^b:Nat):Int):=by
 unfold shrI;have h2:(2:Int)^b=((2^b:Nat):Int):=by simp
 rw [xX,yX hb,h2,Int.fdiv_eq_ediv_of_nonneg _ (Int.natCast_nonneg (2^b)),Int.natCast_ediv]
theorem ztB (a c k:Nat) (h:a<2^k):a||| (c*2^k)=a+c*2^k:=by
 rw [Nat.or_comm,yP,<-Nat.two_pow_add_eq_or_of_lt h,pd]
theorem zpT (n m:Nat):((n:Int)==(m:Int))=decide (n=m):=by
 by_cases h:n=m
 ·simp [h]
 ·have:¬((n:Int)=m):=by omega
  simp [h,this]
theorem zJ {α:Type} {xs:List α} {i:Int} {n:Nat} (h:i=n) (hn:n<xs.length):idx xs i=some xs[n]:=by
 unfold idx;subst h;rw [xx (by omega),xX,xQ hn]
theorem znx {α:Type} {xs:List α} {i j:Int} {a b:Nat} (hi:i=a) (hj:j=b) (h:a<=b) (hb:b<=xs.length):cut xs i j=some ((xs.drop a).take (b - a)):=by
 unfold cut;subst hi hj;rw [xx (by omega),xX,xX]
theorem zsV {α:Type} {xs:List α} {i j:Int} {a:Nat} (hi:i=a) (hj:j=(xs.length:Int)) (h:a<=xs.length):cut xs i j=some (xs.drop a):=by
 rw [znx hi hj h (xB _),yH (by simp)]
theorem zxy {α:Type} {xs:List α} {j:Int} {b:Nat} (hj:j=b) (hb:b<=xs.length):cut xs 0 j=some (xs.take b):=by
 have:=znx (xs:=xs) (i:=0) (a:=0) rfl hj (ya _) hb;simpa using this
theorem zfI {α:Type} {bytes:Nat} {xs ys:List α} (h:(xs.length+ys.length)*bytes<=140737488355328):app bytes xs ys=some (xs++ys):=by
 unfold app LIM;rw [xx h]
theorem zzx {α:Type} {bytes:Nat} {x0:α} {n m:Int} {a:Nat} (hn:n=a) (h:n<=m) (hm:m*bytes<=140737488355328):mkO bytes x0 n m=some (List.replicate a x0):=by
 unfold mkO LIM;subst hn;rw [xx ⟨by omega,h,hm⟩,xX]
theorem zEF {α:Type} {bytes:Nat} {x0:α} {m:Int} (h:0<=m) (hm:m*bytes<=140737488355328):mkO bytes x0 0 m=some []:=by
 have:=zzx (x0:=x0) (n:=0) (a:=0) rfl h hm;simpa using this
theorem zsN (h:x=(c.toNat:Int)):zgA x=some c:=by
 unfold zgA;subst h;have:=c.toNat_lt;rw [xx (by omega),xX,UInt8.ofNat_toNat]
theorem zdO {x:Int} {n:Nat} (h:x=n) (hn:n<256):zgA x=some (UInt8.ofNat n):=by
 refine zsN ?_;rw [h,UInt8.toNat_ofNat'];congr 1;omega
theorem zAp {l:List UInt8} (h:l.length<=9223372036854775807):lenO l=some l:=by unfold lenO;rw [xx h]
theorem zDw {k:IntKind} {x:Int} {n:Nat}:shlO k x n=some (shlI k x n):=by unfold shlO;rw [xw (by omega)]
theorem zDx {k:IntKind} {x:Int} {n:Nat}:shrO k x n=some (shrI k x n):=by unfold shrO;rw [xw (by omega)]
theorem sb {α β:Type} {a:α} {f:α->Option β}:((some a:Option α)>>=f)=f a:=rfl
theorem itT {α:Type} {c:Bool} {x y:α} (h:c=true):(if c then x else y)=x:=by rw [h];rfl
theorem pS {α:Type} {c:Bool} {x y:α} (h:c=true:=by simp;omega):(if c then x else y)=x:=itT h
theorem pP {α:Type} {c:Bool} {x y:α} (h:c=true:=by rfl):(if c then x else y)=x:=itT h
theorem itF {α:Type} {c:Bool} {x y:α} (h:c=false):(if c then x else y)=y:=by rw [h];rfl
theorem pT {α:Type} {c:Bool} {x y:α} (h:c=false:=by simp;omega):(if c then x else y)=y:=itF h
theorem pR {α:Type} {c:Bool} {x y:α} (h:c=false:=by simp):(if c then x else y)=y:=itF h
theorem pQ {α:Type} {c:Bool} {x y:α} (h:c=false:=by rfl):(if c then x else y)=y:=itF h
open Go.RowKit (wrap32 wrap64)
def sgnS (x:Int):Int:=if x%4294967296<2147483648 then x%4294967296 else x%4294967296 - 4294967296
def zph (x:Int):Int:=if 0<=x then x else x+18446744073709551616
def lenN (n:Nat):Nat:=if n<128 then 1 else lenN (n/128)+1
termination_by n
decreasing_by omega
def zet:Nat->Nat->List UInt8
 | 0,_=>[]
 | k+1,w=>UInt8.ofNat (w%256)::zet k (w/256)
def word:List UInt8->Nat
 | []=>0
 | c::r=>c.toNat+256*word r
theorem zwM (x:Int): -2147483648<=sgnS x/\sgnS x<=2147483647:=by unfold sgnS;split<;>omega
theorem zFd (h: -9223372036854775808<=x/\x<=9223372036854775807):0<=zph x/\zph x<=18446744073709551615:=by unfold zph;split<;>omega
theorem zDv {x:Int} (h: -2147483648<=x/\x<=2147483647):sgnS (zph x)=x:=by unfold sgnS zph;split<;>split<;>omega
theorem zCP (n:Nat):1<=lenN n:=by unfold lenN;split<;>omega
theorem zjz (h:n<128):lenN n=1:=by rw [lenN,xx h]
theorem zkZ (h:¬n<128):lenN n=lenN (n/128)+1:=by rw [lenN,xw h]
theorem zEx:∀(k n:Nat),n<128^k->0<k->lenN n<=k:=by
 intro k
 induction k with
 | zero=>intro n _ h;omega
 | succ k ih=>
  intro n hn _;by_cases h:n<128
  ·rw [zjz h];omega
  ·rw [zkZ h];have h1:n/128<128^k:=by rw [yC] at hn;exact Nat.div_lt_of_lt_mul (by omega)
   have h2:0<k:=by
    rcases pq k with rfl| h
    ·simp at h1;omega
    ·exact h
   have:=ih _ h1 h2;omega
theorem zto (h:n<18446744073709551616):lenN n<=10:=zEx 10 n (by omega) (by omega)
def lz (m:Nat):Nat:=if m=0 then 0 else lenN m
theorem zGn (h:m≠0):lz m=lz (m/128)+1:=by
 unfold lz;rw [xw h];split
 ·rw [zjz (by omega)]
 ·rw [zkZ (by omega)]
theorem zGm (n:Nat):lenN n=1+lz (n/128):=by
 unfold lz;split
 ·rw [zjz (by omega)]
 ·rw [zkZ (by omega),pd]
theorem zbt:∀(k n:Nat),(zet k n).length=k
 | 0,_=>rfl
 | k+1,n=>by simp [zet,zbt k]
theorem zow:∀(k n:Nat),word (zet k n)=n%256^k
 | 0,n=>by simp [zet,word,Nat.mod_one]
 | k+1,n=>by
  rw [zet,word,zow k];have:(UInt8.ofNat (n%256)).toNat=n%256:=by simp
  rw [this,yC,yP (256^k),Nat.mod_mul]
theorem znM:∀(k n:Nat),zet (k+1) n=zet k n++[UInt8.ofNat (n/256^k%256)]
 | 0,n=>by simp [zet]
 | k+1,n=>by
  rw [zet,znM k,zet];simp only [yo,yA,List.append_cancel_left_eq,qk,yZ];rw [Nat.div_div_eq_div_mul,yC,yP (256^k)]
def zgK (n m j:Nat):List UInt8:=zet j m++List.replicate (n - j) 0
theorem zww (n m:Nat):zgK n m 0=List.replicate n 0:=by simp [zgK,zet]
theorem zxW (n m:Nat):zgK n m n=zet n m:=by simp [zgK]
theorem ztp {n m j:Nat} (h:j<=n):(zgK n m j).length=n:=by simp [zgK,zbt];omega
theorem zxX {n m j:Nat} (h:j<n):(zgK n m j).set j (UInt8.ofNat (m/256^j%256))=zgK n m (j+1):=by
 unfold zgK;rw [znM,List.set_append,xw (by rw [zbt];omega),zbt,Nat.sub_self,show n - j=(n - (j+1))+1 from by omega,List.replicate_succ,List.set_cons_zero,yM];rfl
theorem zEK (j:Nat):2^(8*j)=256^j:=by rw [Nat.pow_mul]
theorem zrJ (m j:Nat):((m/256^j:Nat):Int)%256=((UInt8.ofNat (m/256^j%256)).toNat:Int):=by
 have e:(UInt8.ofNat (m/256^j%256)).toNat=m/256^j%256:=by simp
 rw [e,Int.natCast_emod];rfl
theorem zFS (h:(Lit.int .u64 x).wf=true):0<=x/\x<=18446744073709551615:=by simpa [Lit.wf,IntKind.min,IntKind.max,IntKind.bits,IntKind.signed] using h
end Go.Proofs.YtkgohoggipdokaaGreat
